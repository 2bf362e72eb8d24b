import PyProof.Rows.All
import Wide.All
import OpenK.AllK
import Wide.FinOn
import KE.GoesEnum
import HandS.ForMost
import HandS.ForExc
import HandS.Wide
import HandS.IsInst
import HandS.ExcIs
import HandS.Defaults
import HandS.DeepEq
import HandS.DictComp
import KE.KEqDict
import KE.KEqNest
import HandS.AnyAll
import HandS.Nested
import HandS.GenOver
import HandS.EndTab
import PyProof.NeKinds
import HandS.HotCalls
import HandS.SetFor
import HandS.IsInst
import HandS.ExcIs
import PyProof.Rows.StrMeet
import PyProof.Rows.StrRules
import PyProof.MinMaxWalk
import KE.KUnpackStar
import HandS.StrSplit
import PyProof.Rows.StrSplitMax
import PyProof.StrLawsOccR
import HandS.Text
import HandS.FStr
import HandS.DictTup
import HandS.Sort
import HandS.SortKw
import HandS.Dict
import KE.KDictPairs
import HandS.Strs
import HandS.SetTxt0
import HandS.SetTxtIn
import HandS.SetBool
import HandS.Finally
import HandS.Walk
import HandS.Conv
import HandS.ListItems
import HandS.Style
import HandS.More
import HandS.StrMore
import HandS.NoneIn
import HandS.Small
import HandS.Iter
import HandS.TupAny
import KE.SortKeyHeap
import KE.KRevSl
import PySem.Challenge.RW_scopestore_k16_no_steps
set_option Elab.async false
set_option linter.all false
set_option maxRecDepth 100000
set_option exponentiation.threshold 10000
namespace SS
open PySem PySem.Spec PyProof.Rows L2
section
/-! ### enumerate over a tuple: one new pair a turn -/
def ItE (K : PySem.W.Frag) (a : Addr) : It where
  go := fun i H => ∃ (ys : List V) (y : V), SqT K H a ys ∧ ys[i]? = some y
  yld := fun i H v H' => ∃ T y, v = .ref T ∧ H T = none ∧ H' = upd H T (.tup [.int (i : Nat), y]) ∧ ∀ ys, SqT K H a ys → ys[i]? = some y
  stop := fun i H => ∃ ys : List V, SqT K H a ys ∧ ys.length = i
theorem turnE {P : Program} {w : World} {K : PySem.W.Frag} {es : List Expr} {kk : Nat} {tp : Pos} (a e q : Addr) :
    Turn P w K (.Tuple es kk tp) (ItE K a) [e, q] e (fun i h => (∃ old, IsEnum h e q ((i : Nat) : Int) old) ∧ h.IsTupleIter q a i ∧ e ≠ q ∧ a ≠ q ∧ e ≠ a) where
  mem := by simp
  obj := fun i h st b hb => by
    obtain ⟨⟨old, h1⟩, ⟨o, h2, _, h3⟩, _⟩ := st
    rcases (show b = e ∨ b = q by simpa using hb) with z | z
    · subst z
      exact ⟨_, h1, fun v w => nomatch w⟩
    · subst z
      exact ⟨o, h2, fun v w => by rw [h3] at w; cases w⟩
  keep := fun i h h' st k => by
    obtain ⟨⟨old, h1⟩, h2, h3⟩ := st
    exact ⟨⟨old, k e (by simp) _ h1⟩, h2.at (fun o z => k q (by simp) o z), h3⟩
  item := by
    intro X e1 e2 e3 calm i pins s σ H E I free st go
    subst e1 e2 e3
    obtain ⟨⟨old, h1⟩, h2, n1, n2, n3⟩ := st
    obtain ⟨ys, y, sq, gy⟩ := go
    obtain ⟨us, rl, at_, _⟩ := I.tuple sq
    obtain ⟨u, gu, ru⟩ := rl.get gy
    have lt : i < us.toArray.size := by
      have z := (List.getElem?_eq_some_iff.mp gu).1
      simpa using z
    have le : e < s.heap.objs.size := Heap.lt_size h1
    have lq : q < s.heap.objs.size := by
      obtain ⟨_, z, _⟩ := h2
      exact Heap.lt_size z
    refine wpAny_pyNext_enum_itemD (Draws.tuple (A := X.A.in1) (I.ok.hd calm) q a n2 us.toArray) h1
      ⟨h2, at_⟩ lt n1 (by simp [n1, n3]) fun u' h' tk pu ho st' hT hsz hk => ?_
    have eu : u' = u := by
      have z : us[i]? = some u' := by simpa using pu
      rw [gu] at z
      exact (Option.some.inj z).symm
    subst eu
    refine ⟨_, rfl, wpAny_letOwnedTupleGo_enum
      (s := { s with heap := h', toks := tk + 1 }) ho fun h2' he' sb => ?_⟩
    have T2 : h2'.get? s.heap.objs.size = some { cls := .type "tuple", data := .seq #[.int i tk, u'] } :=
      (sb.2 _ (Nat.ne_of_gt le)).trans hT
    have nw : ObjOk X.prog X.w (upd H s.heap.objs.size (.tup [.int (i : Nat), y])) h2' s.heap.objs.size (.tup [.int (i : Nat), y]) :=
      ⟨(by show 2 ≤ sizeLine; decide), [.int i tk, u'], .cons ⟨_, rfl⟩ (.cons ru .nil), ⟨_, T2, rfl, _, rfl⟩⟩
    have J : Inv X pins σ (upd H s.heap.objs.size (.tup [.int (i : Nat), y])) { s with heap := h2', toks := tk + 1 } :=
      I.turnedNew (ch := [e, q]) (fun b ob nb z => (sb.2 b (fun c => nb (by simp [c]))).trans (hk b ob (fun c => nb (by simp [c])) (fun c => nb (by simp [c])) z)) free (Nat.le_refl _) nw
    refine ⟨.ref s.heap.objs.size, _, J, rfl, ⟨_, y, rfl, I.hok.fresh (Nat.le_refl _), rfl, fun zs hz => by rw [I.tuple_inj hz sq]; exact gy⟩,
      ⟨⟨u', ?_⟩, st'.1.at (fun o z => (sb.2 q (Ne.symm n1)).trans z), n1, n2, n3⟩, fun b hb => ?_⟩
    · rw [show ((i + 1 : Nat) : Int) = (i : Int) + 1 by omega]
      exact he'
    · have lb : b < s.heap.objs.size := by
        rcases (show b = e ∨ b = q by simpa using hb) with z | z
        · rw [z]; exact le
        · rw [z]; exact lq
      rw [upd_ne (Nat.ne_of_lt lb)]
      exact (free b hb).1
  done := by
    intro X e1 e2 e3 calm i pins s σ H E I free st stp
    subst e1 e2 e3
    obtain ⟨⟨old, h1⟩, h2, n1, n2, n3⟩ := st
    obtain ⟨ys, sq, ly⟩ := stp
    obtain ⟨us, rl, at_, _⟩ := I.tuple sq
    obtain ⟨f0, f1, f2, f3, f4, f5⟩ := free q (by simp)
    have ll := rl.length
    have ei : us.toArray.size = i := by
      rw [List.size_toArray, ← ll]
      exact ly
    refine wpAny_pyNext_enum_endD (Draws.tuple (A := X.A.in1) (I.ok.hd calm) q a n2 us.toArray) h1 ⟨by rw [ei]; exact h2, at_⟩ fun h' ext => ?_
    exact ⟨rfl, I.turned (t' := s.toks) (fun b o hb z => ext b o hb z) f0 f1 f3 f4 f5⟩
  self := fun A i s Q E st h => by
    obtain ⟨⟨_, h1⟩, _⟩ := st
    exact wpAny_pyIter_enum h1 h

set_option maxHeartbeats 1000000 in
theorem meets_enumT (t : Addr) (items : Array Value) (n : Nat) (dct : Option Addr) (sl : Array (Option Value)) :
    Meets (Builtin.«enumerate.__new__» ⟨[.type "enumerate", .ref t], []⟩) (fun _ R s => s.heap.get? t = some { cls := .type "tuple", dict := dct, data := .seq items n, slots := sl } ∧
      R (.ok (.ret (.ref (s.heap.push { cls := .type "tuple_iterator", data := .fields #[.ref t, .int 0 0] }).objs.size)))
        { s with heap := (s.heap.push { cls := .type "tuple_iterator", data := .fields #[.ref t, .int 0 0] }).push { cls := .type "enumerate", data := .fields #[.none, .bool false, .ref s.heap.objs.size, rawInt 0, .none, .none] } }) :=
  .of_wp fun prog w A R s h => by
    obtain ⟨hp, g, d, tk, os⟩ := s
    obtain ⟨hl, h⟩ := h
    have hsub := sub_enumerate
    have hT : Heap.IsTuple (Shared.heap ⟨hp, g, d, tk, os⟩) t items := ⟨_, hl, rfl, n, rfl⟩
    wp_walk using AutoSeq1.wpAny_loadPart' hl
    refine wpAny_stack_any fun st => wpAny_pure ?_
    split
    · rename_i c _ _ _ _ _
      cases (c == Value.type "enumerate")
      · wp_walk using AutoSeq1.wpAny_loadPart' hl, wpAny_pyIter_tuple hT
        exact ⟨_, rfl, h⟩
      · wp_walk using AutoSeq1.wpAny_loadPart' hl, wpAny_pyIter_tuple hT
        exact ⟨_, rfl, h⟩
    · wp_walk using AutoSeq1.wpAny_loadPart' hl, wpAny_pyIter_tuple hT
      exact ⟨_, rfl, h⟩
theorem call_enumT {prog : Program} {w : World} {A : Around} {E : Value → Shared → Prop} {s : Shared} {t : Addr} {items : Array Value} {Q : Value → Shared → Prop} (hL : s.heap.IsTuple t items)
    (h : ∀ h', IsEnum h' (s.heap.objs.size + 1) s.heap.objs.size 0 .none → h'.IsTupleIter s.heap.objs.size t 0 →
      (∀ b o, s.heap.get? b = some o → h'.get? b = some o) → Q (.ref (s.heap.objs.size + 1)) { s with heap := h' }) :
    wpAny (model prog w) A (call (.type "enumerate") [.ref t]) Q E s := by
  obtain ⟨⟨c, dct, dt, sl⟩, hl, hc, n, hd⟩ := hL
  have hc' : c = .type "tuple" := hc
  have hd' : dt = .seq items n := hd
  subst hc' hd'
  refine callType_new F.called_enumerate (by decide) (F.typeCall_enumerate_1 _) (F.newCall_enumerate_1 _)
    (fun obj => F.args_object_init_2 obj _) F.entry_enumerate_new (meets_enumT t items n dct sl) ⟨hl, ?_⟩
  have z1 : (s.heap.push { cls := .type "tuple_iterator", data := .fields #[.ref t, .int 0 0] }).objs.size = s.heap.objs.size + 1 := Heap.size_push ..
  show _ ∧ _
  rw [z1]
  have en : IsEnum ((s.heap.push { cls := .type "tuple_iterator", data := .fields #[.ref t, .int 0 0] }).push
      { cls := .type "enumerate", data := .fields #[.none, .bool false, .ref s.heap.objs.size, rawInt 0, .none, .none] }) (s.heap.objs.size + 1) s.heap.objs.size 0 .none := by
    have z := Heap.get?_push_size (s.heap.push { cls := .type "tuple_iterator", data := .fields #[.ref t, .int 0 0] })
      (o := { cls := .type "enumerate", data := .fields #[.none, .bool false, .ref s.heap.objs.size, rawInt 0, .none, .none] }) rfl
    rw [z1] at z
    exact z
  exact ⟨⟨_, en, rfl⟩, h _ en ⟨_, Heap.get?_push_of_some _ (Heap.get?_push_size _ rfl), rfl, rfl⟩
    fun b o z => Heap.get?_push_of_some _ (Heap.get?_push_of_some _ z)⟩
def iEnT (K : PySem.W.Frag) (ta : TA) : TI := fun σ H R => ta σ H fun vs H1 => ∃ a ys, vs = [.ref a] ∧ SqT K H1 a ys ∧ R (ItE K a) H1
theorem pi_enT {X : Cx} {e : Expr} {ta : TA} {p pos tpos : Pos} {es : List Expr} {kk : Nat} (hg : Gl X "enumerate") (hm : X.mg "enumerate" = none) (ha : PA X [e] ta) (hs : starEach [e] X.env = [(false, eval e X.env)] := by rfl) :
    PI X (.Tuple es kk tpos) (.Call (.Name "enumerate" p) [e] [] pos) (iEnT X.K ta) := by
  refine ⟨fun pins s σ H R I h => ?_⟩
  refine Call_ (ld_blt I hg hm boot_enumerate (PyProof.Rows.callWith_type1
    (thn (ha.run pos pins s σ H _ I h) fun us s1 ⟨vs, H1, I1, r1, q1⟩ => ?_) hs rfl))
  obtain ⟨a, ys, ex, sq, q⟩ := q1
  subst ex
  cases r1 with
  | cons r rr =>
    cases rr
    cases r
    obtain ⟨us, rl, at_, _⟩ := I1.tuple sq
    have la : a < s1.heap.objs.size := by
      obtain ⟨_, z, _⟩ := at_
      exact Heap.lt_size z
    refine call_enumT (items := us.toArray) at_ fun h' he hit hk => wpAny_pyIter_enum he ?_
    have I2 : Inv X pins σ H1 { s1 with heap := h' } := I1.kept (t' := s1.toks) hk
    refine ⟨s1.heap.objs.size + 1, [s1.heap.objs.size + 1, s1.heap.objs.size], _, _, H1, rfl, I2,
      turnE a (s1.heap.objs.size + 1) s1.heap.objs.size, ⟨⟨.none, he⟩, hit, Nat.succ_ne_self _, Nat.ne_of_lt la, Nat.ne_of_gt (Nat.lt_succ_of_lt la)⟩, fun b hb => ?_, q⟩
    have lb : s1.heap.objs.size ≤ b := by
      rcases (show b = s1.heap.objs.size + 1 ∨ b = s1.heap.objs.size by simpa using hb) with z | z
      · rw [z]; exact Nat.le_add_right _ _
      · rw [z]; exact Nat.le_refl _
    exact I1.fpOk lb (I1.hok.fresh lb)
/-! ### // by a great divisor of either sign -/
def CDivG (_ j : Int) : Prop := j ≠ 0 ∧ j.natAbs.log2 < 9000
theorem op_fdivG {X : Cx} : OpR X (binaryOp .FloorDiv) (rI CDivG fun i j => .int (i.fdiv j)) :=
  opI fun i j _ _ _ _ _ hc q => floordiv_int hc.1 q (.inl (PyProof.noPylong_of_log2 hc.2))
end
end SS
namespace SS
def sgd (t b : Int) : Int := if b < 0 then -((Int.gcd t b : Nat) : Int) else ((Int.gcd t b : Nat) : Int)
def fr1 (t b : Int) : Int := t.fdiv (sgd t b)
def fr2 (t b : Int) : Int := b.fdiv (sgd t b)
theorem gcdP {t b : Int} (h : b ≠ 0) : 0 < Int.gcd t b := Nat.pos_of_ne_zero fun e => h (Int.gcd_eq_zero_iff.mp e).2
theorem sgd_abs (t b : Int) : (sgd t b).natAbs = Int.gcd t b := by
  unfold sgd
  split <;> omega
theorem sgd_ne {t b : Int} (h : b ≠ 0) : sgd t b ≠ 0 := fun e => by
  have := gcdP (t := t) h
  rw [← sgd_abs, e] at this
  exact absurd this (by decide)
theorem sgd_dvd1 (t b : Int) : sgd t b ∣ t := by
  rw [← Int.natAbs_dvd_natAbs, sgd_abs, ← Int.natCast_dvd_natCast, Int.dvd_natAbs]
  exact Int.gcd_dvd_left ..
theorem sgd_dvd2 (t b : Int) : sgd t b ∣ b := by
  rw [← Int.natAbs_dvd_natAbs, sgd_abs, ← Int.natCast_dvd_natCast, Int.dvd_natAbs]
  exact Int.gcd_dvd_right ..
theorem fr1_eq {t b : Int} (h : b ≠ 0) : fr1 t b * sgd t b = t := by
  obtain ⟨k, e⟩ := sgd_dvd1 t b
  have z : fr1 t b = k := by
    unfold fr1
    have q : t.fdiv (sgd t b) = (sgd t b * k).fdiv (sgd t b) := congrArg (·.fdiv (sgd t b)) e
    rw [q]
    exact Int.mul_fdiv_cancel_left _ (sgd_ne h)
  rw [z, Int.mul_comm]
  exact e.symm
theorem fr2_eq {t b : Int} (h : b ≠ 0) : fr2 t b * sgd t b = b := by
  obtain ⟨k, e⟩ := sgd_dvd2 t b
  have z : fr2 t b = k := by
    unfold fr2
    have q : b.fdiv (sgd t b) = (sgd t b * k).fdiv (sgd t b) := congrArg (·.fdiv (sgd t b)) e
    rw [q]
    exact Int.mul_fdiv_cancel_left _ (sgd_ne h)
  rw [z, Int.mul_comm]
  exact e.symm
theorem fr2_pos {t b : Int} (h : b ≠ 0) : 0 < fr2 t b := by
  have e := fr2_eq (t := t) h
  have g := gcdP (t := t) h
  unfold sgd at e
  by_cases c : b < 0
  · rw [if_pos c] at e
    refine Int.lt_of_not_ge fun z => ?_
    have : 0 ≤ fr2 t b * -((Int.gcd t b : Nat) : Int) := Int.mul_nonneg_of_nonpos_of_nonpos z (by omega)
    omega
  · rw [if_neg c] at e
    refine Int.lt_of_not_ge fun z => ?_
    have : fr2 t b * ((Int.gcd t b : Nat) : Int) ≤ 0 := Int.mul_nonpos_of_nonpos_of_nonneg z (by omega)
    omega
theorem fr_gcd {t b : Int} (h : b ≠ 0) : Int.gcd (fr1 t b) (fr2 t b) = 1 := by
  have g := gcdP (t := t) h
  have e : Int.gcd (fr1 t b * sgd t b) (fr2 t b * sgd t b) = Int.gcd t b := by rw [fr1_eq h, fr2_eq h]
  rw [Int.gcd_mul_right, sgd_abs] at e
  exact Nat.eq_of_mul_eq_mul_right g (by rw [e, Nat.one_mul])
theorem fr_cross {t b : Int} (h : b ≠ 0) : fr1 t b * b = t * fr2 t b := by
  have e1 := fr1_eq (t := t) h
  have e2 := fr2_eq (t := t) h
  calc fr1 t b * b = fr1 t b * (fr2 t b * sgd t b) := by rw [e2]
    _ = (fr1 t b * sgd t b) * fr2 t b := by rw [Int.mul_comm (fr2 t b), Int.mul_assoc]
    _ = t * fr2 t b := by rw [e1]
theorem fr1_le {t b : Int} (h : b ≠ 0) : (fr1 t b).natAbs ≤ t.natAbs := by
  have e := congrArg Int.natAbs (fr1_eq (t := t) h)
  rw [Int.natAbs_mul, sgd_abs] at e
  rw [← e]
  exact Nat.le_mul_of_pos_right _ (gcdP h)
theorem fr2_le {t b : Int} (h : b ≠ 0) : (fr2 t b).natAbs ≤ b.natAbs := by
  have e := congrArg Int.natAbs (fr2_eq (t := t) h)
  rw [Int.natAbs_mul, sgd_abs] at e
  rw [← e]
  exact Nat.le_mul_of_pos_right _ (gcdP h)
/-- one turn of the walk down -/
theorem gcd_turn {a b : Int} (ha : 0 ≤ a) (hb : 0 < b) : Int.gcd b (a % b) = Int.gcd a b := by
  obtain ⟨m, rfl⟩ := Int.eq_ofNat_of_zero_le ha
  obtain ⟨n, rfl⟩ := Int.eq_ofNat_of_zero_le (Int.le_of_lt hb)
  rw [← Int.natCast_emod]
  show Nat.gcd n (m % n) = Nat.gcd m n
  rw [Nat.gcd_comm n, ← Nat.gcd_rec, Nat.gcd_comm]
theorem gcd_end (a : Int) (h : 0 ≤ a) : ((Int.gcd a 0 : Nat) : Int) = a := by
  rw [Int.gcd_zero_right]
  omega
theorem gcd_abs (a b : Int) : Int.gcd (if a < 0 then -a else a) (if b < 0 then -b else b) = Int.gcd a b := by
  have n : ∀ x : Int, (if x < 0 then -x else x).natAbs = x.natAbs := fun x => by split <;> omega
  unfold Int.gcd
  rw [n, n]
end SS
namespace SS
theorem dvdCop {a b c : Int} (z : a ∣ b * c) (h : Int.gcd a b = 1) : a ∣ c := by
  rw [← Int.natAbs_dvd_natAbs] at z ⊢
  rw [Int.natAbs_mul] at z
  exact Nat.Coprime.dvd_of_dvd_mul_left h z
/-- in lowest terms there is one pair -/
theorem lowUniq {x y x' y' : Int} (hy : 0 < y) (hy' : 0 < y') (g : Int.gcd x y = 1) (g' : Int.gcd x' y' = 1) (e : x * y' = x' * y) : x = x' ∧ y = y' := by
  have d1 : y ∣ y' := dvdCop (b := x) ⟨x', by rw [e, Int.mul_comm]⟩ (by rw [Int.gcd_comm]; exact g)
  have d2 : y' ∣ y := dvdCop (b := x') ⟨x, by rw [← e, Int.mul_comm]⟩ (by rw [Int.gcd_comm]; exact g')
  have e2 : y = y' := Int.dvd_antisymm (Int.le_of_lt hy) (Int.le_of_lt hy') d1 d2
  refine ⟨?_, e2⟩
  rw [← e2] at e
  exact Int.eq_of_mul_eq_mul_right (Int.ne_of_gt hy) e
theorem frIs {x y t b : Int} (hb : b ≠ 0) (hy : 0 < y) (g : Int.gcd x y = 1) (e : x * b = t * y) : x = fr1 t b ∧ y = fr2 t b := by
  refine lowUniq hy (fr2_pos hb) g (fr_gcd hb) ?_
  have c := fr_cross (t := t) hb
  refine Int.eq_of_mul_eq_mul_right hb ?_
  calc x * fr2 t b * b = x * b * fr2 t b := by rw [Int.mul_assoc, Int.mul_comm (fr2 t b), ← Int.mul_assoc]
    _ = t * y * fr2 t b := by rw [e]
    _ = t * fr2 t b * y := by rw [Int.mul_assoc, Int.mul_comm y, ← Int.mul_assoc]
    _ = fr1 t b * b * y := by rw [c]
    _ = fr1 t b * y * b := by rw [Int.mul_assoc, Int.mul_comm b, ← Int.mul_assoc]
theorem gcdDvdMul {g k : Int} (h : g ≠ 0) : (g * k).fdiv g = k := Int.mul_fdiv_cancel_left _ h
theorem copDvd {a b c : Int} (h : Int.gcd a b = 1) (z : c ∣ b) : Int.gcd a c = 1 := by
  obtain ⟨k, rfl⟩ := z
  have q : Int.gcd a c ∣ Int.gcd a (c * k) := Int.gcd_dvd_gcd_mul_right_right a c k
  rw [h] at q
  exact Nat.dvd_one.mp q
theorem copDvdL {a b c : Int} (h : Int.gcd a b = 1) (z : c ∣ a) : Int.gcd c b = 1 := by
  rw [Int.gcd_comm] at h ⊢
  exact copDvd h z
theorem copMul {a b c : Int} (h1 : Int.gcd a b = 1) (h2 : Int.gcd a c = 1) : Int.gcd a (b * c) = 1 := by
  rw [Int.gcd_mul_right_right_of_gcd_eq_one h1]
  exact h2
theorem copMulL {a b c : Int} (h1 : Int.gcd a c = 1) (h2 : Int.gcd b c = 1) : Int.gcd (a * b) c = 1 := by
  rw [Int.gcd_mul_right_left_of_gcd_eq_one h1]
  exact h2
/-- both divided by their greatest divisor -/
theorem gcdParts {a b : Int} (h : b ≠ 0) : ∃ u v : Int, a = ((Int.gcd a b : Nat) : Int) * u ∧ b = ((Int.gcd a b : Nat) : Int) * v ∧ Int.gcd u v = 1 := by
  obtain ⟨u, hu⟩ := Int.gcd_dvd_left a b
  obtain ⟨v, hv⟩ := Int.gcd_dvd_right a b
  refine ⟨u, v, hu, hv, ?_⟩
  have g := gcdP (t := a) h
  have e : Int.gcd (((Int.gcd a b : Nat) : Int) * u) (((Int.gcd a b : Nat) : Int) * v) = Int.gcd a b := by rw [← hu, ← hv]
  rw [Int.gcd_mul_left] at e
  have e2 : Int.gcd a b * Int.gcd u v = Int.gcd a b * 1 := by
    rw [Nat.mul_one]
    exact e
  exact Nat.eq_of_mul_eq_mul_left g e2
theorem pos_ne' {a b : Int} (h1 : 0 < a) (h2 : 0 < b) : a * b ≠ 0 := Int.ne_of_gt (Int.mul_pos h1 h2)
theorem posMul {a b : Int} (ha : 0 < a) (h : 0 < a * b) : 0 < b := by
  refine Int.lt_of_not_ge fun z => ?_
  have : a * b ≤ 0 := Int.mul_nonpos_of_nonneg_of_nonpos (Int.le_of_lt ha) z
  omega
/-- the sum of two fractions by the divisor of their bottoms -/
def plD (d1 d2 : Int) : Int := ((Int.gcd d1 d2 : Nat) : Int)
def plT (n1 d1 n2 d2 : Int) : Int := n1 * d2.fdiv (plD d1 d2) + n2 * d1.fdiv (plD d1 d2)
def plG (n1 d1 n2 d2 : Int) : Int := ((Int.gcd (plT n1 d1 n2 d2) (plD d1 d2) : Nat) : Int)
theorem plus_long {n1 d1 n2 d2 : Int} (h1 : 0 < d1) (h2 : 0 < d2) (g1 : Int.gcd n1 d1 = 1) (g2 : Int.gcd n2 d2 = 1) :
    (plT n1 d1 n2 d2).fdiv (plG n1 d1 n2 d2) = fr1 (n1 * d2 + n2 * d1) (d1 * d2) ∧ d1.fdiv (plD d1 d2) * d2.fdiv (plG n1 d1 n2 d2) = fr2 (n1 * d2 + n2 * d1) (d1 * d2) := by
  obtain ⟨u, v, hu, hv, uv⟩ := gcdParts (a := d1) (b := d2) (Int.ne_of_gt h2)
  have s0 : 0 < plD d1 d2 := by
    have := gcdP (t := d1) (Int.ne_of_gt h2)
    unfold plD
    omega
  have hu : d1 = plD d1 d2 * u := hu
  have hv : d2 = plD d1 d2 * v := hv
  have e1 : d1.fdiv (plD d1 d2) = u := by
    have q : d1.fdiv (plD d1 d2) = (plD d1 d2 * u).fdiv (plD d1 d2) := congrArg (·.fdiv (plD d1 d2)) hu
    rw [q]
    exact gcdDvdMul (Int.ne_of_gt s0)
  have e2 : d2.fdiv (plD d1 d2) = v := by
    have q : d2.fdiv (plD d1 d2) = (plD d1 d2 * v).fdiv (plD d1 d2) := congrArg (·.fdiv (plD d1 d2)) hv
    rw [q]
    exact gcdDvdMul (Int.ne_of_gt s0)
  have eT : plT n1 d1 n2 d2 = n1 * v + n2 * u := by
    unfold plT
    rw [e1, e2]
  have eG : plG n1 d1 n2 d2 = ((Int.gcd (plT n1 d1 n2 d2) (plD d1 d2) : Nat) : Int) := rfl
  rw [e1]
  generalize plG n1 d1 n2 d2 = G at *
  generalize plT n1 d1 n2 d2 = T at *
  generalize plD d1 d2 = s at *
  have up : 0 < u := posMul s0 (by rw [← hu]; exact h1)
  have vp : 0 < v := posMul s0 (by rw [← hv]; exact h2)
  obtain ⟨t, s', ht, hs, ts⟩ := gcdParts (a := T) (b := s) (Int.ne_of_gt s0)
  rw [← eG] at ht hs
  have G0 : 0 < G := by
    have := gcdP (t := T) (Int.ne_of_gt s0)
    rw [eG]
    omega
  have sp : 0 < s' := posMul G0 (by rw [← hs]; exact s0)
  have f1 : T.fdiv G = t := by
    rw [ht]
    exact gcdDvdMul (Int.ne_of_gt G0)
  have f2 : d2.fdiv G = s' * v := by
    rw [hv, hs, Int.mul_assoc]
    exact gcdDvdMul (Int.ne_of_gt G0)
  rw [f1, f2]
  have tT : t ∣ T := ⟨G, by rw [ht, Int.mul_comm]⟩
  have c1 : Int.gcd t u = 1 := by
    refine copDvdL (a := T) ?_ tT
    rw [eT, Int.add_comm, Int.gcd_mul_right_add_left]
    refine copMulL ?_ (by rw [Int.gcd_comm]; exact uv)
    exact copDvd g1 ⟨s, by rw [hu, Int.mul_comm]⟩
  have c2 : Int.gcd t v = 1 := by
    refine copDvdL (a := T) ?_ tT
    rw [eT, Int.gcd_mul_right_add_left]
    refine copMulL ?_ uv
    exact copDvd g2 ⟨s, by rw [hv, Int.mul_comm]⟩
  refine frIs (pos_ne' h1 h2) (Int.mul_pos up (Int.mul_pos sp vp)) (copMul c1 (copMul ts c2)) ?_
  have E : n1 * d2 + n2 * d1 = s * (G * t) := by
    rw [← ht, eT, hu, hv, Int.mul_add]
    congr 1 <;> rw [Int.mul_left_comm]
  rw [E, hu, hv]
  have hs2 := hs
  generalize G = G at *
  grind
/-- the product of two fractions, one's top and the other's bottom made less -/
theorem times_long {n1 d1 n2 d2 : Int} (h1 : 0 < d1) (h2 : 0 < d2) (g1 : Int.gcd n1 d1 = 1) (g2 : Int.gcd n2 d2 = 1) :
    n1.fdiv ((Int.gcd n1 d2 : Nat) : Int) * n2.fdiv ((Int.gcd n2 d1 : Nat) : Int) = fr1 (n1 * n2) (d1 * d2) ∧ d1.fdiv ((Int.gcd n2 d1 : Nat) : Int) * d2.fdiv ((Int.gcd n1 d2 : Nat) : Int) = fr2 (n1 * n2) (d1 * d2) := by
  obtain ⟨u, v, hu, hv, uv⟩ := gcdParts (a := n1) (b := d2) (Int.ne_of_gt h2)
  obtain ⟨x, y, hx, hy, xy⟩ := gcdParts (a := n2) (b := d1) (Int.ne_of_gt h1)
  have a0 : 0 < ((Int.gcd n1 d2 : Nat) : Int) := by
    have := gcdP (t := n1) (Int.ne_of_gt h2)
    omega
  have b0 : 0 < ((Int.gcd n2 d1 : Nat) : Int) := by
    have := gcdP (t := n2) (Int.ne_of_gt h1)
    omega
  generalize ((Int.gcd n1 d2 : Nat) : Int) = a at *
  generalize ((Int.gcd n2 d1 : Nat) : Int) = b at *
  subst hu hv hx hy
  rw [gcdDvdMul (Int.ne_of_gt a0), gcdDvdMul (Int.ne_of_gt a0), gcdDvdMul (Int.ne_of_gt b0), gcdDvdMul (Int.ne_of_gt b0)]
  have vp : 0 < v := posMul a0 h2
  have yp : 0 < y := posMul b0 h1
  have uy : Int.gcd u y = 1 := copDvdL (copDvd g1 ⟨b, by rw [Int.mul_comm]⟩) ⟨a, by rw [Int.mul_comm]⟩
  have xv : Int.gcd x v = 1 := copDvdL (copDvd g2 ⟨a, by rw [Int.mul_comm]⟩) ⟨b, by rw [Int.mul_comm]⟩
  refine frIs (pos_ne' h1 h2) (Int.mul_pos yp vp) (copMul (copMulL uy xy) (copMulL uv xv)) ?_
  grind
end SS
namespace SS
open PySem PySem.Spec PyProof.Rows L2
/-! ### heaps -/
/-- all but st is as it was -/
def But (st : Addr) (H H' : Hp) : Prop := ∀ b o, b ≠ st → H b = some o → H' b = some o
theorem But.refl (st : Addr) (H : Hp) : But st H H := fun _ _ _ h => h
theorem But.trans {st : Addr} {H H1 H2 : Hp} (x : But st H H1) (y : But st H1 H2) : But st H H2 := fun b o n h => y b o n (x b o n h)
theorem Same.but {st : Addr} {H H' : Hp} (x : Same H H') : But st H H' := fun b o _ h => x b o h
theorem same_new {H : Hp} {p : Addr} {o : HO} (h : H p = none) : Same H (upd H p o) := fun b x e => by
  rw [upd_ne (ne_of_none e h)]
  exact e
theorem But.upd {st : Addr} {H : Hp} {o : HO} : But st H (upd H st o) := fun b x n e => by
  rw [upd_ne n]
  exact e
/-- the law's own state: its cells, where it stands, what is left, whether that is mixed -/
def StA (st c : Addr) (H : Hp) : Prop := ∃ (i n : Int) (f : Bool) (xs : List Int),
  H st = some (.lst [.ref c, .int i, .int n, .bl f]) ∧ H c = some (.lst (xs.map V.int)) ∧ xs.length ≤ 63 ∧ c ≠ st
theorem StA.same {st c : Addr} {H H' : Hp} (s : StA st c H) (x : Same H H') : StA st c H' := by
  obtain ⟨i, n, f, xs, h1, h2, h3, h4⟩ := s
  exact ⟨i, n, f, xs, x _ _ h1, x _ _ h2, h3, h4⟩
theorem StA.tup {st c p : Addr} {H : Hp} {xs : List V} (s : StA st c H) (h : H p = some (.tup xs)) : p ≠ st := fun e => by
  obtain ⟨i, n, f, ys, h1, _⟩ := s
  rw [e, h1] at h
  cases h
theorem StA.fresh {st c p : Addr} {H : Hp} (s : StA st c H) (h : H p = none) : p ≠ st := fun e => by
  obtain ⟨i, n, f, ys, h1, _⟩ := s
  rw [e, h1] at h
  cases h
theorem But.tup {st c p : Addr} {H H' : Hp} {xs : List V} (b : But st H H') (s : StA st c H) (h : H p = some (.tup xs)) : H' p = some (.tup xs) := b _ _ (s.tup h) h
/-- another object, made since, changes: the state stands -/
theorem StA.other {st c l : Addr} {H : Hp} {o : HO} (s : StA st c H) (h1 : l ≠ st) (h2 : l ≠ c) : StA st c (upd H l o) := by
  obtain ⟨i, n, f, xs, a1, a2, a3, a4⟩ := s
  exact ⟨i, n, f, xs, by rw [upd_ne h1.symm]; exact a1, by rw [upd_ne h2.symm]; exact a2, a3, a4⟩
theorem StA.fresh2 {st c p : Addr} {H : Hp} (s : StA st c H) (h : H p = none) : p ≠ c := fun e => by
  obtain ⟨i, n, f, ys, _, h1, _⟩ := s
  rw [e, h1] at h
  cases h
/-- a tuple (n, d) with d above 0 and few bits -/
def Fra (k : Nat) (H : Hp) (p : Addr) : Prop := ∃ n d : Int, H p = some (.tup [.int n, .int d]) ∧ 0 < d ∧ n.natAbs < 2 ^ k ∧ d.natAbs < 2 ^ k
theorem Fra.same {k : Nat} {p : Addr} {H H' : Hp} (s : Fra k H p) (x : Same H H') : Fra k H' p := by
  obtain ⟨n, d, h1, h2⟩ := s
  exact ⟨n, d, x _ _ h1, h2⟩
theorem Fra.but {k : Nat} {st c p : Addr} {H H' : Hp} (s : Fra k H p) (x : But st H H') (y : StA st c H) : Fra k H' p := by
  obtain ⟨n, d, h1, h2⟩ := s
  exact ⟨n, d, x.tup y h1, h2⟩
theorem Fra.mono {k j : Nat} {p : Addr} {H : Hp} (s : Fra k H p) (h : k ≤ j) : Fra j H p := by
  obtain ⟨n, d, h1, h2, h3, h4⟩ := s
  have z : 2 ^ k ≤ 2 ^ j := Nat.pow_le_pow_right (by decide) h
  exact ⟨n, d, h1, h2, Nat.lt_of_lt_of_le h3 z, Nat.lt_of_lt_of_le h4 z⟩
/-! ### a def of the module, as its callers know it -/
structure Cl (P : Program) (w : World) (K : PySem.W.Frag) (mg : Str → Option Value) (base : Heap) (CX : CXT) (k : Nat) (x : Str) (sp : Sp) (dvs : List V) : Prop where
  ex : ∃ (f : Addr) (fd : FuncData) (ps : List Str) (ds : List Value), FnOk P w K mg base CX k f fd ps sp ∧ mg x = some (.ref f) ∧ PySem.W.keepIn K (.ref f) = true ∧ Binds K fd ps ds ∧ Vals dvs ds
section
variable {X : Cx} {k j : Nat} {x : Str} {sp : Sp} {dvs : List V} {e : Expr} {es : List Expr} {t : TA} {p pos : Pos}
theorem pc0 (c : Cl X.prog X.w X.K X.mg X.base CX0 k x sp dvs) (hr : Room j X.A) (hk : k ≤ j) (ha : PA X (e :: es) t) (hg : Gl X x := by rfl)
    (hdb : (x == ("__debug__" : Str)) = false := by decide) (he : starEach (e :: es) X.env = (false, eval e X.env) :: starEach es X.env := by rfl) (hpl : (backTo pos (starEach es X.env)).any (·.1) = false := by rfl) :
    PE X (.Call (.Name x p) (e :: es) [] pos) (tCall sp dvs E0 t) := by
  obtain ⟨f, fd, ps, ds, F, gm, kp, b, d⟩ := c.ex
  exact pe_call F (hr.mono hk) hg gm kp b d pass0 ha hdb he hpl
theorem pcX (c : Cl X.prog X.w X.K X.mg X.base (L2.CX X.prog X.w) k x sp dvs) (hr : Room j X.A) (hk : k ≤ j) (ha : PA X (e :: es) t) (hg : Gl X x := by rfl)
    (hdb : (x == ("__debug__" : Str)) = false := by decide) (he : starEach (e :: es) X.env = (false, eval e X.env) :: starEach es X.env := by rfl) (hpl : (backTo pos (starEach es X.env)).any (·.1) = false := by rfl) :
    PE X (.Call (.Name x p) (e :: es) [] pos) (tCall sp dvs E0 t) := by
  obtain ⟨f, fd, ps, ds, F, gm, kp, b, d⟩ := c.ex
  exact pe_call F (hr.mono hk) hg gm kp b d passL ha hdb he hpl
/-- where what it raises is wished for: in a try, or let out of the def -/
theorem pcS {E : L2.St → XK} (c : Cl X.prog X.w X.K X.mg X.base (L2.CX X.prog X.w) k x sp []) (hr : Room j X.A) (hk : k ≤ j) (hx : ∀ σ, PassesAt (L2.CX X.prog X.w) X σ (E σ)) (ha : PA X (e :: es) t) (hg : Gl X x := by rfl)
    (hdb : (x == ("__debug__" : Str)) = false := by decide) (he : starEach (e :: es) X.env = (false, eval e X.env) :: starEach es X.env := by rfl) (hpl : (backTo pos (starEach es X.env)).any (·.1) = false := by rfl) :
    PE X (.Call (.Name x p) (e :: es) [] pos) (tCallS sp E t) := by
  obtain ⟨f, fd, ps, ds, F, gm, kp, b, d⟩ := c.ex
  cases d
  exact pe_callS F (hr.mono hk) hg gm kp b hx ha hdb he hpl
end
section
variable {P : Program} {w : World} {K : PySem.W.Frag} {mg : Str → Option Value} {base : Heap}
theorem Cl.mk0 {CX : CXT} {k : Nat} {x : Str} {sp : Sp} {f : Addr} {fd : FuncData} {ps : List Str} (F : FnOk P w K mg base CX k f fd ps sp) (g : mg x = some (.ref f)) (kp : PySem.W.keepIn K (.ref f) = true) (b : Binds K fd ps []) : Cl P w K mg base CX k x sp [] :=
  ⟨⟨f, fd, ps, [], F, g, kp, b, .nil⟩⟩
end
theorem small2 : 2 ≤ sizeLine := by decide
end SS
namespace SS
open PySem PySem.Spec PyProof.Rows L2
/-! ### dicts of fractions compared; tuples of such -/
/-- two tuples of the same two numbers -/
def VEq (H : Hp) (x y : V) : Prop := ∃ (a b : Addr) (n d : Int), x = .ref a ∧ y = .ref b ∧ H a = some (.tup [.int n, .int d]) ∧ H b = some (.tup [.int n, .int d])
def DEq (H : Hp) (x y : V) : Prop := ∃ (a b : Addr) (ks ls : List (Key × V)), x = .ref a ∧ y = .ref b ∧ H a = some (.dK ks) ∧ H b = some (.dK ls) ∧ ks.length = ls.length ∧ ∀ p ∈ ks, ∃ u, valV ls p.1 = some u ∧ VEq H p.2 u
section
variable {X : Cx} {pins : List (Addr × Obj)} {σ : L2.St} {H : Hp} {s : Shared}
theorem veq_run (I : Inv X pins σ H s) {A : Around} (hu : A.in1.units + 10 < cLine) {x y : V} {v u : Value} (h : VEq H x y) (rx : RelV x v) (ry : RelV y u) : SeqAt.EqAt A.in1 s v u true := by
  obtain ⟨a, b, n, d, rfl, rfl, h1, h2⟩ := h
  have D1 : Dp X.K H (.ref a) (.tuple [.int n, .int d]) := .tup (SqT.of h1) (.cons (.int _) (.cons (.int _) .nil))
  have D2 : Dp X.K H (.ref b) (.tuple [.int n, .int d]) := .tup (SqT.of h2) (.cons (.int _) (.cons (.int _) .nil))
  obtain ⟨as, r1⟩ := Dp.reads I _ _ v D1 rx
  obtain ⟨bs, r2⟩ := Dp.reads I _ _ u D2 ry
  have z := SeqAt.eqAt_reads _ _ A.in1 s v u as bs r1 r2 rfl rfl (Nat.lt_of_le_of_lt (Nat.add_le_add_left (Nat.le_trans (Nat.min_le_left _ _) (by show PyData.depth (.tuple [.int n, .int d]) ≤ 10; simp [PyData.depth, PyData.depthAll])) _) hu)
  rw [SeqAt.eqv_refl _ rfl] at z
  exact z
theorem hits_x (I : Inv X pins σ H s) {A : Around} (hu : A.in1.units + 10 < cLine) {ls : List (Key × V)} {vb : List (Key × Value)} (rb : KV ls vb) {ks : List (Key × V)} {va : List (Key × Value)}
    (ra : KV ks va) : (∀ p ∈ ks, ∃ u, valV ls p.1 = some u ∧ VEq H p.2 u) → PySem.W.KeqHits A.in1 s vb va true := by
  unfold KV at ra
  induction ra with
  | nil =>
    intro _
    exact .nil
  | @cons p q ps qs hd tl ih =>
    intro hp
    obtain ⟨e1, e2⟩ := hd
    obtain ⟨u, eu, fu⟩ := hp p List.mem_cons_self
    have ro : RelO (some u) (valueAt vb p.1) := by
      rw [← eu]
      exact rb.val p.1
    obtain ⟨y, hy, ry⟩ := ro.some_of
    obtain ⟨key, v⟩ := q
    have ek : p.1 = key := e1
    rw [ek] at hy
    exact PySem.W.KeqHits.hit (e := true) (b := true) hy (veq_run I hu fu e2 ry) (ih fun p' hm => hp p' (List.mem_cons_of_mem _ hm))
theorem KeqHits.toP {P : Program} {w : World} {A : Around} {kb : List (Key × Value)} : ∀ {ka : List (Key × Value)} {r : Bool}, PySem.W.KeqHits A s kb ka r → PySem.W.KeqHitsP P w A s kb ka r
  | _, _, .nil => .nil
  | _, _, .miss h => .miss h
  | _, _, .hit h1 h2 h3 => .hit h1 h2.eqP (KeqHits.toP h3)
/-- d != e of dicts that are alike -/
def rNeX : R2 := fun x y H Q => DEq H x y ∧ Q (.bl false) H
theorem op_neX (hu : X.A.units + 64 < cLine) : OpR X (compareOp .NotEq) rNeX := by
  intro pins s σ H x y v u Q I rx ry h
  obtain ⟨⟨a, b, ks, ls, rfl, rfl, h1, h2, hl, hp⟩, q⟩ := h
  obtain rfl : v = Value.ref a := rx
  obtain rfl : u = Value.ref b := ry
  obtain ⟨_, ya, va, ra, da⟩ := (show ObjOk X.prog X.w H s.heap a (.dK ks) from I.hok a _ h1)
  obtain ⟨_, yb, vb, rb, db⟩ := (show ObjOk X.prog X.w H s.heap b (.dK ls) from I.hok b _ h2)
  have el : va.length = vb.length := by
    rw [← ra.length, ← rb.length]
    exact hl
  refine PySem.W.keq_ne (knd := mixKind X.prog X.w) (r := true) ya yb da db (by omega) (fun _ => hits_x I (by show X.A.units + 1 + 10 < cLine; omega) rb ra hp) ?_
  exact ⟨.bl false, H, I, (by rw [el]; simp; rfl), q⟩
/-- d == {} -/
def rEq0 : R2 := fun x y H Q => ∃ (a b : Addr) (ks : List (Key × V)), x = .ref a ∧ y = .ref b ∧ H a = some (.dK ks) ∧ H b = some (.dK []) ∧ Q (.bl (ks.length == 0)) H
theorem op_eq0 (hu : X.A.units + 64 < cLine) : OpR X (compareOp .Eq) rEq0 := by
  intro pins s σ H x y v u Q I rx ry h
  obtain ⟨a, b, ks, rfl, rfl, h1, h2, q⟩ := h
  obtain rfl : v = Value.ref a := rx
  obtain rfl : u = Value.ref b := ry
  obtain ⟨_, ya, va, ra, da⟩ := (show ObjOk X.prog X.w H s.heap a (.dK ks) from I.hok a _ h1)
  obtain ⟨_, yb, vb, rb, db⟩ := (show ObjOk X.prog X.w H s.heap b (.dK []) from I.hok b _ h2)
  have e1 : va.length = ks.length := ra.length.symm
  have e2 : vb.length = 0 := rb.length.symm
  refine PySem.W.keq_eq (knd := mixKind X.prog X.w) (r := true) ya yb da db (by omega) (fun z => ?_) ?_
  · rw [e2] at z
    have ez : va = [] := List.eq_nil_of_length_eq_zero z
    rw [ez]
    exact .nil
  · exact ⟨.bl (ks.length == 0), H, I, (by rw [e1, e2, Bool.and_true]; rfl), q⟩
/-- the same of two addresses, within another thing -/
theorem deq_run (I : Inv X pins σ H s) {A : Around} (hu : A.units + 20 < cLine) {x y : V} {v u : Value} (h : DEq H x y) (rx : RelV x v) (ry : RelV y u) : SeqAt.EqP X.prog X.w A s v u true := by
  obtain ⟨a, b, ks, ls, rfl, rfl, h1, h2, hl, hp⟩ := h
  obtain rfl : v = Value.ref a := rx
  obtain rfl : u = Value.ref b := ry
  by_cases e : a = b
  · subst e
    exact (SeqAt.EqAt.same _).eqP
  · obtain ⟨_, ya, va, ra, da⟩ := (show ObjOk X.prog X.w H s.heap a (.dK ks) from I.hok a _ h1)
    obtain ⟨_, yb, vb, rb, db⟩ := (show ObjOk X.prog X.w H s.heap b (.dK ls) from I.hok b _ h2)
    have el : va.length = vb.length := by
      rw [← ra.length, ← rb.length]
      exact hl
    refine SeqAt.eqP_refs e fun E Q q => PySem.W.rcP_dicts (knd := mixKind X.prog X.w) (r := true) ya yb da db (by omega) (fun _ => SS.KeqHits.toP (hits_x I (by show A.units + 1 + 10 < cLine; omega) rb ra hp)) E Q ?_
    rw [el]
    simpa using q
open MeetsSeq MeetsSeq2 MeetsSeq3 SeqRoads2 in
theorem tupNe_in {P : Program} {w : World} (l b : Addr) (it it2 : Array Value) (n n2 : Nat) (dd dd2 : Option Addr) (sl sl2 : Array (Option Value)) (hz : it.size = it2.size) :
    MeetsIn P w (Builtin.«tuple.__ne__» ⟨[.ref l, .ref b], []⟩)
      (fun A R s => s.heap.get? l = some { cls := .type "tuple", dict := dd, data := .seq it n, slots := sl } ∧ s.heap.get? b = some { cls := .type "tuple", dict := dd2, data := .seq it2 n2, slots := sl2 } ∧
        (∀ j (h1 : j < it.size) (h2 : j < it2.size), SeqAt.EqP P w A.in1 s it[j] it2[j] true) ∧ R (.ok (.ret (.bool false))) s) := by
  intro A R s h
  refine wpAny_mono (Q := fun fin s' => ∃ f, fin = .done f ∧ R (.ok f) s') ?_ (fun fin s' z => by obtain ⟨f, rfl, z⟩ := z; exact z) (fun _ _ z => z)
  obtain ⟨hp, g, d, tk, os⟩ := s
  obtain ⟨hl, hb, he, h⟩ := h
  have f2 := AutoSeq1.sub_tuple_tuple
  have zl : (it.toList.zip it2.toList).length = it.size := by
    rw [List.length_zip, Array.length_toList, Array.length_toList, hz, Nat.min_self]
  wp_walk using AutoSeq1.wpAny_loadPart' hl, AutoSeq1.wpAny_loadPart' hb, wpAny_forIn_list _ (fun rest c s' => c.1 = none ∧ s' = ⟨hp, g, d, tk, os⟩ ∧ ∃ i, rest = (it.toList.zip it2.toList).drop i) _
  case turn =>
    rintro ⟨y, x⟩ rest c s' ⟨hc, rfl, i, zi⟩
    have hlt : i < (it.toList.zip it2.toList).length := Nat.lt_of_not_le fun hh => by
      rw [List.drop_of_length_le hh] at zi
      cases zi
    have h1 : i < it.size := by omega
    have h2 : i < it2.size := by omega
    rw [List.drop_eq_getElem_cons hlt] at zi
    injection zi with za zb
    have ey : y = it[i] := by
      have q := congrArg Prod.fst za
      simpa using q
    have ex : x = it2[i] := by
      have q := congrArg Prod.snd za
      simpa using q
    subst ey ex
    refine wpAny_bind (he i h1 h2 _ _ ?_)
    wp_walk
    exact ⟨rfl, rfl, i + 1, zb⟩
  case fin =>
    rintro ⟨c1, c2⟩ s' ⟨hc, rfl, i, zi⟩
    simp only at hc
    subst hc
    wp_walk
    exact ⟨_, rfl, by simpa [Builtin.Tuple.tupleCompareSizes, bne, hz] using h⟩
  case h =>
    exact ⟨rfl, rfl, 0, rfl⟩
/-- (d, e) != (f, g), dicts alike in their places -/
def rNeT (K : PySem.W.Frag) : R2 := fun x y H Q => ∃ (p q : Addr) (xs ys : List V), x = .ref p ∧ y = .ref q ∧ SqT K H p xs ∧ SqT K H q ys ∧ Paired (DEq H) xs ys ∧ Q (.bl false) H
theorem op_neT (hu : X.A.units + 64 < cLine) : OpR X (compareOp .NotEq) (rNeT X.K) := by
  intro pins s σ H x y v u Q I rx ry h
  obtain ⟨p, r, xs, ys, rfl, rfl, h1, h2, hp, q⟩ := h
  obtain rfl : v = Value.ref p := rx
  obtain rfl : u = Value.ref r := ry
  obtain ⟨us, r1, ⟨⟨c1, d1, e1, g1⟩, o1, o2, n1, o3⟩, _⟩ := I.tuple h1
  obtain ⟨ws, r2, ⟨⟨c2, d2, e2, g2⟩, t1, t2, n2, t3⟩, _⟩ := I.tuple h2
  have o2' : c1 = .type "tuple" := o2
  have o3' : e1 = .seq us.toArray n1 := o3
  have t2' : c2 = .type "tuple" := t2
  have t3' : e2 = .seq ws.toArray n2 := t3
  subst o2' o3' t2' t3'
  have hz : us.toArray.size = ws.toArray.size := by
    rw [List.size_toArray, List.size_toArray, ← r1.length, ← r2.length]
    exact Paired.length hp
  have ta : s.TypeIs (.ref p) "tuple" := ⟨_, o1, rfl⟩
  have tb : s.TypeIs (.ref r) "tuple" := ⟨_, t1, rfl⟩
  refine wpAny_richCompare_same_room (op := .NotEq) ta tb F.slot_tuple_ne (call_meetsIn F.slot_tuple_ne ta F.entry_tuple_ne (F.args_tuple_ne_2 _ _) (tupNe_in p r us.toArray ws.toArray n1 n2 d1 d2 g1 g2 hz)
    ⟨o1, t1, fun j j1 j2 => ?_, ⟨(fun z => nomatch z), ⟨.bl false, H, I, rfl, q⟩⟩⟩) (by omega)
  have k := items_run (P := X.prog) (w := X.w) (A := X.A.in1) (s := s) (F := DEq H) (fun x y v u hd rv ru => deq_run I (by show X.A.units + 1 + 20 < cLine; omega) hd rv ru) hp r1 r2 j (by simpa using j1) (by simpa using j2)
  simpa using k
end
end SS
namespace SS
open PySem PySem.Spec PyProof.Rows L2
/-! ### things within things compared: lists, tuples and dicts, to any depth -/
/-- one step: two lists, two tuples or two dicts, alike in their places -/
def XR (K : PySem.W.Frag) (H : Hp) (E : V → V → Prop) (x y : V) : Prop :=
  EqR K H E x y ∨ ∃ a b xs ys, x = .ref a ∧ y = .ref b ∧ SqT K H a xs ∧ SqT K H b ys ∧ Paired E xs ys
def XV (K : PySem.W.Frag) (H : Hp) : Nat → V → V → Prop
  | 0 => fun _ _ => False
  | n + 1 => fun x y => (x = y ∧ flatB x = true) ∨ (∃ a, x = .ref a ∧ y = .ref a) ∨ XR K H (XV K H n) x y
section
variable {X : Cx} {pins : List (Addr × Obj)} {σ : L2.St} {H : Hp} {s : Shared}
theorem xr_run (I : Inv X pins σ H s) {A : Around} {F : V → V → Prop} (hu : A.units < cLine) (ih : ∀ x y v u, F x y → RelV x v → RelV y u → SeqAt.EqP X.prog X.w A.in1 s v u true) {x y : V} {v u : Value} (h : XR X.K H F x y) (rx : RelV x v) (ry : RelV y u)
    (E Q : Value → Shared → Prop) (q : Q (.bool true) s) : wpAny (model X.prog X.w) A (richCompare .Eq v u) Q E s := by
  rcases h with h | ⟨a, b, xs, ys, rfl, rfl, ha, hb, hp⟩
  · exact eqR_run I hu ih h rx ry E Q q
  · cases (show v = Value.ref a from rx)
    cases (show u = Value.ref b from ry)
    obtain ⟨us, r1, p1, _⟩ := I.tuple ha
    obtain ⟨ws, r2, p2, _⟩ := I.tuple hb
    have hsz : us.toArray.size = ws.toArray.size := by
      rw [List.size_toArray, List.size_toArray, ← r1.length, ← r2.length]
      exact Paired.length hp
    refine SeqAt.rcIn_tuples (e := fun _ => true) p1 p2 hu (fun j h1 h2 => ?_) ?_
    · have k := items_run ih hp r1 r2 j (by simpa using h1) (by simpa using h2)
      have k' : SeqAt.EqP X.prog X.w A.in1 s us.toArray[j] ws.toArray[j] true := by simpa using k
      exact k'
    · rw [show ((List.range (min us.toArray.size ws.toArray.size)).all fun _ => true) = true from List.all_eq_true.mpr fun _ _ => rfl, hsz]
      simpa using q
theorem xv_run (I : Inv X pins σ H s) : ∀ (n : Nat) (A : Around), A.units + n < cLine → ∀ (x y : V) (v u : Value), XV X.K H n x y → RelV x v → RelV y u → SeqAt.EqP X.prog X.w A s v u true
  | 0, _, _, _, _, _, _, h, _, _ => (show False from h).elim
  | n + 1, A, hu, x, y, v, u, h, rx, ry => by
    rcases h with ⟨rfl, f⟩ | ⟨a, rfl, rfl⟩ | h
    · exact (eqAt_same rx ry f).eqP
    · cases (show v = Value.ref a from rx)
      cases (show u = Value.ref a from ry)
      exact (SeqAt.EqAt.same _).eqP
    · have step := xr_run I (A := A) (by omega) (xv_run I n A.in1 (by show A.units + 1 + n < cLine; omega)) h rx ry
      obtain ⟨a, b, rfl, rfl⟩ : ∃ a b, x = .ref a ∧ y = .ref b := by
        rcases h with (⟨a, b, _, _, e1, e2, _⟩ | ⟨a, b, _, _, e1, e2, _⟩) | ⟨a, b, _, _, e1, e2, _⟩ <;> exact ⟨a, b, e1, e2⟩
      cases (show v = Value.ref a from rx)
      cases (show u = Value.ref b from ry)
      by_cases e : a = b
      · subst e
        exact (SeqAt.EqAt.same _).eqP
      · exact SeqAt.eqP_refs e step
/-- a == b, equal things -/
def rEqXV (K : PySem.W.Frag) : R2 := fun x y H Q => ∃ n, n ≤ 60 ∧ XR K H (XV K H n) x y ∧ Q (.bl true) H
theorem op_eqXV (hu : X.A.units + 64 < cLine) : OpR X (compareOp .Eq) (rEqXV X.K) := by
  intro pins s σ H x y v u Q I rx ry h
  obtain ⟨n, hn, h, q⟩ := h
  exact xr_run I (A := X.A) (by omega) (xv_run I n X.A.in1 (by show X.A.units + 1 + n < cLine; omega)) h rx ry _ _ ⟨.bl true, H, I, rfl, q⟩
/-- (..) != (..), two tuples that are equal -/
def rNeXT (K : PySem.W.Frag) : R2 := fun x y H Q => ∃ (n : Nat) (p q : Addr) (xs ys : List V), n ≤ 50 ∧ x = .ref p ∧ y = .ref q ∧ SqT K H p xs ∧ SqT K H q ys ∧ Paired (XV K H n) xs ys ∧ Q (.bl false) H
theorem op_neXT (hu : X.A.units + 64 < cLine) : OpR X (compareOp .NotEq) (rNeXT X.K) := by
  intro pins s σ H x y v u Q I rx ry h
  obtain ⟨n, p, r, xs, ys, hn, rfl, rfl, h1, h2, hp, q⟩ := h
  obtain rfl : v = Value.ref p := rx
  obtain rfl : u = Value.ref r := ry
  obtain ⟨us, r1, ⟨⟨c1, d1, e1, g1⟩, o1, o2, n1, o3⟩, _⟩ := I.tuple h1
  obtain ⟨ws, r2, ⟨⟨c2, d2, e2, g2⟩, t1, t2, n2, t3⟩, _⟩ := I.tuple h2
  have o2' : c1 = .type "tuple" := o2
  have o3' : e1 = .seq us.toArray n1 := o3
  have t2' : c2 = .type "tuple" := t2
  have t3' : e2 = .seq ws.toArray n2 := t3
  subst o2' o3' t2' t3'
  have hz : us.toArray.size = ws.toArray.size := by
    rw [List.size_toArray, List.size_toArray, ← r1.length, ← r2.length]
    exact Paired.length hp
  have ta : s.TypeIs (.ref p) "tuple" := ⟨_, o1, rfl⟩
  have tb : s.TypeIs (.ref r) "tuple" := ⟨_, t1, rfl⟩
  refine wpAny_richCompare_same_room (op := .NotEq) ta tb F.slot_tuple_ne (call_meetsIn F.slot_tuple_ne ta F.entry_tuple_ne (F.args_tuple_ne_2 _ _) (tupNe_in p r us.toArray ws.toArray n1 n2 d1 d2 g1 g2 hz)
    ⟨o1, t1, fun j j1 j2 => ?_, ⟨(fun z => nomatch z), ⟨.bl false, H, I, rfl, q⟩⟩⟩) (by omega)
  have k := items_run (P := X.prog) (w := X.w) (A := X.A.in1) (s := s) (F := XV X.K H n) (fun x y v u hd rv ru => xv_run I n _ (by show X.A.units + 1 + n < cLine; omega) _ _ _ _ hd rv ru) hp r1 r2 j (by simpa using j1) (by simpa using j2)
  simpa using k
end
end SS
namespace GxA
open PySem PySem.Spec PyProof.Rows L2
/-! ### all(elt for x in iter): any element, a frame of its own -/
/-- the context of a generator expression's frame -/
def gx (X : Cx) (scope : Scope) (A : Around) (s : Shared) (H : Hp) (C : Addr) (code : Value) (cl : List (Str × Addr)) (fp : List Addr) : Cx where
  prog := X.prog
  w := X.w
  K := X.K
  mg := X.mg
  base := X.base
  A := A
  N := X.N
  s_0 := s
  H_0 := H
  env := genEnv scope cl C code builtinsNs X.env
  outer := X.stack
  stack := genEnv scope cl C code builtinsNs X.env :: X.stack
  ex := fp
  fn := fun _ => false
  calm := true
  pn := []
  xe := fun _ _ => False
/-- the names of a generator expression and of the def around it -/
structure GxS (N : List Str) (sc scope : Scope) (x : Str) (ix : Nat) : Prop where
  kind : scope.kind = .function
  co : scope.isCoroutine = false
  cell : ∀ y ∈ scope.names, y.2 ≠ .cell
  dot : scope.names.lookup (".0" : Str) = some NameKind.local
  loc : scope.names.lookup x = some .local
  locs : ∀ y ∈ scope.names, y.2 = .local → y.1 = x ∨ y.1 = (".0" : Str)
  free : ∀ y ∈ scope.names, y.2 = .free → sc.names.lookup y.1 = some .cell ∨ sc.names.lookup y.1 = some .free
  ix : N[ix]? = some x
  nodot : (".0" : Str) ∉ N
  nd : N.Nodup
section
variable {X : Cx} {pins : List (Addr × Obj)} {σ : L2.St} {H : Hp} {s : Shared}
theorem GxS.cells {scope : Scope} {x : Str} {ix : Nat} (S : GxS X.N X.env.scope scope x ix) (ok : X.Ok) : ∀ y ∈ scope.names, y.2 = .free → ∃ c, X.env.cells.lookup y.1 = some c := fun y hy hf => by
  exact ok.has y.1 (S.free y hy hf)
theorem inv_gx {scope : Scope} {x : Str} {ix : Nat} {A : Around} {code : Value} {fp : List Addr} {a : Addr} {go : Obj} {g' : Array GenState} {tk : Nat} {h' : Heap} {m : Str → Option Value}
    (I : Inv X pins σ H s) (S : GxS X.N X.env.scope scope x ix) (hfp : ∀ b ∈ fp, FpOk X pins H b) (hob : ∀ b ∈ fp, ∃ o, s.heap.get? b = some o) (hA : A.handled = none)
    (hAf : A.frames = some (genEnv scope (cloFrom X.env.cells scope.names []) s.heap.objs.size code builtinsNs X.env :: X.stack)) (hk : ∀ b o, s.heap.get? b = some o → h'.get? b = some o) (hns : h'.Ns s.heap.objs.size m)
    (hg : AllBare g') (ha : h'.get? a = some go) (hsz : s.heap.objs.size < a) (hgo : ∀ v, go.data ≠ .cell v) :
    Inv (gx X scope A s H s.heap.objs.size code (cloFrom X.env.cells scope.names []) fp) [(a, go)] (σ.set ix none) H { s with gens := g', toks := tk, heap := h' } := by
  have hfree := S.cells I.ok
  have cm : ∀ {y : Str} {c : Addr}, (cloFrom X.env.cells scope.names []).lookup y = some c → X.env.cells.lookup y = some c := fun e => NdefX.clo_cm hfree e
  have lt : ∀ b o, s.heap.get? b = some o → b < s.heap.objs.size := fun b o e => Heap.lt_size e
  refine ⟨⟨I.ok.mod, S.kind, I.ok.glob, rfl, Nat.le_refl _, fun y z c h1 h2 => I.ok.inj y z c (cm h1) (cm h2), fun y hy => ?_, fun y c z => (by cases z), fun _ => hA, hAf, .inr ⟨rfl, rfl⟩, fun b hb => ⟨?_, fun y c e => (hfp b hb).2.2.2.2.1 y c (cm e)⟩, I.bs, Nat.le_trans I.ok.bsz I.sz, fun b o e hb => ?_, fun b hb hm => ?_, I.stack, I.stkFree⟩,
    rfl, hg, Un.kept hk, ⟨m, hns, fun i y v h1 h2 h3 => ?_⟩, fun y c e => ?_, I.hok.fresh (Nat.le_refl _), fun y c e => I.freeC y c (cm e), fun p hp => ?_, I.hok.kept hk, ?_⟩
  · have hy : scope.names.lookup y = some .cell ∨ scope.names.lookup y = some .free := hy
    rcases hy with hy | hy
    · exact absurd rfl (S.cell _ (PySem.mem_of_lookup hy))
    · obtain ⟨c, hc⟩ := hfree _ (PySem.mem_of_lookup hy) rfl
      exact ⟨c, NdefX.clo_has hfree (PySem.mem_of_lookup hy) hc⟩
  · obtain ⟨o, e⟩ := hob b hb
    exact Nat.ne_of_lt (lt b o e)
  · rcases (hfp b hb).2.2.2.1 with z | z
    · exact I.ok.noex b o e z
    · exact absurd (Nat.lt_of_lt_of_le (Nat.lt_of_lt_of_le (Heap.lt_size e) I.ok.bsz) z) (Nat.lt_irrefl _)
  · rcases List.mem_cons.mp (I.stkSub b hm) with z | z
    · exact (hfp b hb).2.1 z
    · exact (hfp b hb).2.2.1 z
  · have ne : i ≠ ix := fun e => by
      subst e
      by_cases c : i < σ.length
      · rw [List.getElem?_set_self c] at h2
        cases h2
      · rw [List.getElem?_eq_none (by rw [List.length_set]; omega)] at h2
        cases h2
    rw [List.getElem?_set_ne (Ne.symm ne)] at h2
    have hv : scope.names.lookup y = some .local ∨ scope.names.lookup y = some .cell ∨ scope.names.lookup y = some .free := h3
    have h1' : X.N[i]? = some y := h1
    rcases hv with z | z | z
    · rcases S.locs _ (PySem.mem_of_lookup z) rfl with e | e
      · have e' : y = x := e
        rw [e'] at h1'
        have hi := (List.getElem?_eq_some_iff.mp h1').1
        exact absurd ((List.getElem?_inj hi S.nd).mp (h1'.trans S.ix.symm)) ne
      · have e' : y = (".0" : Str) := e
        rw [e'] at h1'
        exact absurd (List.mem_of_getElem? h1') S.nodot
    · exact absurd rfl (S.cell _ (PySem.mem_of_lookup z))
    · have hx := S.free _ (PySem.mem_of_lookup z) rfl
      have hx' : X.env.scope.names.lookup y = some .cell ∨ X.env.scope.names.lookup y = some .free := hx
      obtain ⟨m', _, hl⟩ := I.loc
      obtain ⟨u, ru, lk⟩ := hl i y v h1' h2 (.inr hx')
      refine ⟨u, ru, .inr ⟨.inr z, ?_⟩⟩
      rcases lk with ⟨k, _⟩ | ⟨_, c, ec, ⟨oc, eo, ed⟩⟩
      · have k' : X.env.scope.names.lookup y = some .local := k
        rw [k'] at hx'
        rcases hx' with q | q <;> cases q
      · exact ⟨c, NdefX.clo_has hfree (PySem.mem_of_lookup z) ec, oc, hk _ _ eo, ed⟩
  · obtain ⟨v, o, ho, hd⟩ := I.cell y c (cm e)
    exact ⟨v, o, hk _ _ ho, hd⟩
  · have hp' : p ∈ [(a, go)] := hp
    rw [List.mem_singleton.mp hp']
    exact ⟨ha, I.hok.fresh (Nat.le_of_lt hsz), Nat.ne_of_gt hsz, fun hm => by
      rcases List.mem_cons.mp (I.stkSub a hm) with z | z
      · have h1 := I.lt
        rw [← z] at h1
        exact Nat.lt_asymm h1 hsz
      · exact I.nofs (Nat.le_of_lt hsz) z, hgo⟩
  · show (σ.set ix none).length = X.N.length
    rw [List.length_set]
    exact I.len
/-- back in the def's own frame -/
theorem inv_back {scope : Scope} {A : Around} {C : Addr} {code : Value} {cl : List (Str × Addr)} {fp : List Addr} {pz : List (Addr × Obj)} {σ' : L2.St} {H' : Hp} {s1 s' : Shared} (I : Inv X pins σ H s) (hfp : ∀ b ∈ fp, FpOk X pins H b)
    (J : Inv (gx X scope A s H C code cl fp) pz σ' H' s1) (ho : s'.os = s1.os) (hk : ∀ b o, s1.heap.get? b = some o → s'.heap.get? b = some o) (hg : AllBare s'.gens) : Inv X pins σ H' s' := by
  have u : Un (frs X.stack) fp H H' s.heap s1.heap := J.base
  refine I.call' (ch := fp) (ho.trans J.os) (u.trans (Un.kept hk)) (J.hok.kept hk) hg fun b hb => ?_
  obtain ⟨_, f1, _, f3, f4, f5⟩ := hfp b hb
  exact ⟨f3, f1, f4, f5⟩
end
/-- the consumer does nothing but look at the value -/
structure Again (s s' : Shared) : Prop where
  heap : s'.heap = s.heap
  os : s'.os = s.os
  bare : AllBare s'.gens
section
variable {X : Cx} {pins : List (Addr × Obj)} {σ : L2.St} {H : Hp} {s : Shared}
/-- the end of the walk; an element handed out -/
def RA (Y : Cx) (pz : List (Addr × Obj)) (Q : VK) : GenEnd := fun _ _ r s1 => r = .ok .next ∧ ∃ σ' H', Inv Y pz σ' H' s1 ∧ Q (.bl true) H'
def YA (Y : Cx) (pz : List (Addr × Obj)) (Q : VK) : Protocol := fun _ _ v s1 kap =>
  ∃ b σ' H', v = .bool b ∧ Inv Y pz σ' H' s1 ∧ (b = false → Q (.bl false) H') ∧ (b = true → ∀ s', Again s1 s' → kap (.send .none) s')
theorem Inv.again {Y : Cx} {pz : List (Addr × Obj)} {σ' : L2.St} {H' : Hp} {s1 s2 : Shared} (J : Inv Y pz σ' H' s1) (z : Again s1 s2) : Inv Y pz σ' H' s2 := by
  refine J.call' (ch := []) z.os (Un.kept fun b o e => by rw [z.heap]; exact e) (by rw [z.heap]; exact J.hok) z.bare fun b hb => by cases hb
/-- one turn's question, and what follows -/
def AllW (J : It) (te : TE) (σ : L2.St) (ix : Nat) (Q : VK) (W : Nat → Nat → Hp → Prop) : Prop := ∀ i m H', W i m H' →
  (J.stop i H' ∧ Q (.bl true) H') ∨ (J.go i H' ∧ ∃ N : Hp → Prop, (∀ H'', N H'' → ∃ m', m' < m ∧ W (i + 1) m' H'') ∧
    ∀ x H'', J.yld i H' x H'' → te (σ.set ix (some x)) H'' fun v H3 => ∃ b, v = .bl b ∧ (b = true → N H3) ∧ (b = false → Q (.bl false) H3))
theorem seg_all {elt iter : Expr} {x : Str} {px gpos : Pos} {scope : Scope} {B : Around} {C : Addr} {code : Value} {cl : List (Str × Addr)} {fp : List Addr} {it : Addr} {tn : Nat → Heap → Prop} {J : It} {te : TE} {ix : Nat} {Q : VK} {W : Nat → Nat → Hp → Prop} {pz : List (Addr × Obj)}
    (S : GxS X.N X.env.scope scope x ix) (T : Turn X.prog X.w X.K (.Name x px) J fp it tn)
    (hY : (B.over (.compLoop (.GeneratorExp elt [⟨.Name x px, iter, [], 0⟩] scope gpos) 0 (.ref it) .none (genEnv scope cl C code builtinsNs X.env)) []) = B.deeper (genEnv scope cl C code builtinsNs X.env))
    (he : PE (gx X scope (B.deeper (genEnv scope cl C code builtinsNs X.env)) s H C code cl fp) elt te) (hW : AllW J te σ ix Q W)
    (hpz : ∀ p ∈ pz, ∀ b ∈ fp, p.1 ≠ b) (hex : ∀ b ∈ fp, b ≠ C ∧ b ∉ frs X.stack ∧ ∀ y c, cl.lookup y = some c → c ≠ b) :
    ∀ (m n i : Nat) (o : Option V) (H' : Hp) (s₀ s1 : Shared), m < n → W i m H' → Inv (gx X scope (B.deeper (genEnv scope cl C code builtinsNs X.env)) s H C code cl fp) pz (σ.set ix o) H' s1 → tn i s1.heap → (∀ b ∈ fp, H' b = none) →
      Seg (model X.prog X.w) B (RA (gx X scope (B.deeper (genEnv scope cl C code builtinsNs X.env)) s H C code cl fp) pz Q) (YA (gx X scope (B.deeper (genEnv scope cl C code builtinsNs X.env)) s H C code cl fp) pz Q) n s₀
        (.compLoop (.GeneratorExp elt [⟨.Name x px, iter, [], 0⟩] scope gpos) 0 (.ref it) .none (genEnv scope cl C code builtinsNs X.env))
        ((model X.prog X.w).den (.compLoop (.GeneratorExp elt [⟨.Name x px, iter, [], 0⟩] scope gpos) 0 (.ref it) .none (genEnv scope cl C code builtinsNs X.env))) [] s1 := by
  intro m
  induction m using Nat.strongRecOn with
  | ind m ih =>
    intro n i o H' s₀ s1 hmn w I1 st1 fr1
    have fpok : ∀ {H1 : Hp}, (∀ b ∈ fp, H1 b = none) → ∀ b ∈ fp, FpOk (gx X scope (B.deeper (genEnv scope cl C code builtinsNs X.env)) s H C code cl fp) pz H1 b := fun hn b hb =>
      ⟨hn b hb, (hex b hb).1, (hex b hb).2.1, .inl hb, (hex b hb).2.2, fun p hp => hpz p (by simpa [gx] using hp) b hb⟩
    show Seg _ B _ _ n s₀ _ ((compTurn (.GeneratorExp elt [⟨.Name x px, iter, [], 0⟩] scope gpos) 0 (.ref it) .none (genEnv scope cl C code builtinsNs X.env)).onRaise (leaving (genEnv scope cl C code builtinsNs X.env))) [] s1
    rw [compTurn_gen, Sem.onRaise_eq_wrap]
    refine seg_bind_wrap (wpAny_standAt ?_)
    rcases hW i m H' w with ⟨stop, q⟩ | ⟨go, N, hN, step⟩
    · refine seg_bind_wrap ?_
      rw [hY]
      refine wpAny_mono (T.done (gx X scope (B.deeper (genEnv scope cl C code builtinsNs X.env)) s H C code cl fp) rfl rfl rfl rfl i pz s1 _ H' (fun _ _ => False) I1 (fpok fr1) st1 stop) (fun r s2 h2 => ?_) fun _ _ e => e.elim
      obtain ⟨rfl, I2⟩ := h2
      exact seg_end (.ok .next) ⟨rfl, _, H', I2, q⟩
    · obtain ⟨n, rfl⟩ : ∃ n', n = n' + 1 := ⟨n - 1, by omega⟩
      refine seg_bind_wrap ?_
      rw [hY]
      refine wpAny_mono (T.item (gx X scope (B.deeper (genEnv scope cl C code builtinsNs X.env)) s H C code cl fp) rfl rfl rfl rfl i pz s1 _ H' (fun _ _ => False) I1 (fpok fr1) st1 go) (fun r s2 h2 => ?_) fun _ _ e => e.elim
      obtain ⟨u, rfl, h2⟩ := h2
      refine seg_bind_wrap ?_
      rw [hY]
      refine wpAny_mono h2 (fun _ s3 h3 => ?_) fun _ _ e => e.elim
      obtain ⟨xv, H3, I3, r3, y3, st3, fr3⟩ := h3
      have I3' := Inv.pinned I3 (fpok fr3) (T.obj _ _ st3)
      refine seg_bind_wrap ?_
      rw [hY]
      have hpg : PG (gx X scope (B.deeper (genEnv scope cl C code builtinsNs X.env)) s H C code cl fp) (.Name x px) (gName ix) := pg_name S.nd S.ix (.inl S.loc) (.inr S.loc)
      refine wpAny_mono (hpg.run _ s3 _ H3 xv u (fun σ' H'' => σ' = σ.set ix (some xv) ∧ H'' = H3) I3' r3 ⟨by rw [List.set_set], rfl⟩) (fun _ s4 h4 => ?_) fun _ _ e => e.elim
      obtain ⟨σ4, H4, I4, rfl, rfl⟩ := h4
      refine seg_bind_wrap (wpAny_pure ?_)
      simp only [if_true]
      have hy : ∀ v, yieldOut (genEnv scope cl C code builtinsNs X.env) v = yieldValue v := fun v => by simp only [yieldOut, genEnv, S.co, Bool.false_eq_true, if_false]
      simp only [hy]
      rw [Sem.bind_eq_wrap', Sem.bind_eq_wrap', Sem.wrap_wrap, Sem.wrap_wrap]
      refine seg_wrap ?_
      rw [hY]
      refine wpAny_mono (he.run _ s4 _ H4 _ I4 (step xv H4 y3)) (fun v s5 h5 => ?_) fun _ _ e => e.elim
      obtain ⟨ve, H5, I5, r5, b, rfl, hb1, hb2⟩ := h5
      obtain rfl : v = Value.bool b := r5
      refine seg_at (seg_yield rfl rfl rfl ⟨b, _, H5, rfl, I5.unpinned, hb2, fun hb s6 z => ?_⟩)
      obtain ⟨m', hm', w'⟩ := hN H5 (hb1 hb)
      have I6 := Inv.again I5 z
      refine seg_again rfl (ih m' hm' n (i + 1) _ H5 s6 s6 (by omega) w' I6.unpinned ?_ fun b' hb' => ?_)
      · exact T.keep _ _ _ st3 fun b' hb' o' e' => (I6.pin (b', o') (List.mem_append_right _ (List.mem_append_right _ (mem_pinsAt hb' e')))).1
      · obtain ⟨o', e', d'⟩ := T.obj _ _ st3 b' hb'
        exact (I6.pin (b', o') (List.mem_append_right _ (List.mem_append_right _ (mem_pinsAt hb' e')))).2.1
end
end GxA
namespace GxA
open PySem PySem.Spec PyProof.Rows L2
theorem all_loop {prog : Program} {w : World} {A : Around} {a : Addr} {R : Result → Shared → Prop} {Rt : Bool → Shared → Prop} (St : Nat → Shared → Prop) (hR : ∀ b s', Rt b s' → R (.ok (.ret (.bool b))) s')
    (turn : ∀ n s E, St n s → wpAny (model prog w) A.in1 (pyNext (.ref a)) (fun r s' => (r = none ∧ Rt true s') ∨ ∃ b, r = some (.bool b) ∧ (b = true → ∃ n', n' < n ∧ St n' s') ∧ (b = false → Rt false s')) E s) :
    ∀ n s, St n s → codeAny (model prog w) A (.builtin "all.loop" ⟨[.ref a], []⟩) R s := by
  intro n
  induction n using Nat.strongRecOn with
  | ind n ih =>
    intro s hst
    refine codeAny_builtin F.entry_all_loop ?_
    rw [Around.under_plainId F.plain_all_loop _]
    show wpAny _ A.in1 (pyNext (.ref a) >>= _) _ _ s
    refine wpAny_bind (wpAny_mono (turn n s _ hst) (fun r s' h => ?_) fun _ _ e => e)
    rcases h with ⟨rfl, h⟩ | ⟨b, rfl, h1, h2⟩
    · refine wpAny_bind (wpAny_rule (wpAny_pure ?_))
      exact hR true s' h
    · refine wpAny_bind (wpAny_holding (wpAny_truthy_bool ?_))
      refine wpAny_bind (wpAny_letGo ?_)
      cases b with
      | true =>
        simp only [if_true]
        obtain ⟨n', hn, hst'⟩ := h1 rfl
        exact wpAny_pure ⟨plainId_quiet F.plain_all_loop _, ih n' hn s' hst'⟩
      | false =>
        simp only [Bool.false_eq_true, if_false]
        refine wpAny_bind (wpAny_rule (wpAny_pure ?_))
        exact hR false s' (h2 rfl)
theorem bare_set {s : Shared} {g : Nat} {x : GenState} (h : AllBare s.gens) (hx : x.bare = true) : AllBare (s.setGen g x).gens := fun y hy => by
  have hy' : y ∈ s.gens.setIfInBounds g x := hy
  obtain ⟨i, hi, rfl⟩ := Array.mem_iff_getElem.mp hy'
  have hi' : i < s.gens.size := by simpa using hi
  rw [Array.getElem_setIfInBounds hi']
  split
  · exact hx
  · exact h _ (Array.getElem_mem _)
def tAllG (P : Addr) (ix : Nat) (wi : TI) (te : TE) : TE := fun σ H Q => wi σ H fun J H1 => GxR.TabG H1 P ∧ ∀ H2, GxR.Tabbed P H1 H2 → ∃ W : Nat → Nat → Hp → Prop, (∃ m, W 0 m H2) ∧ AllW J te σ ix Q W
section
variable {X : Cx} {pins : List (Addr × Obj)} {σ : L2.St} {H : Hp} {s : Shared}
theorem over_deeper {B : Around} {elt : Expr} {gs : List Comprehension} {scope : Scope} {pos : Pos} {it : Value} {env : Env} : B.over (.compLoop (.GeneratorExp elt gs scope pos) 0 it .none env) [] = B.deeper env := by
  first
    | rfl
    | (obtain ⟨hd, d, fr, gd, u⟩ := B; simp [Around.over, Around.deeper, marksOver, frameCount, unitsOf, envsOf, guardsOf, pushEnvs, pushGuards, Code.envs, Code.env?, Code.isFrame, Code.guards, Code.isGuard, Code.weight, Code.frames, Code.isCreation, Code.isCaller, Code.cUnits])
set_option maxHeartbeats 4000000 in
theorem pe_allG {c P : Addr} {elt iter : Expr} {x : Str} {px p pos gpos : Pos} {scope : Scope} {wi : TI} {te : TE} {ix k : Nat}
    (hr : Room (k + 2) X.A) (hg : Gl X "all") (hm : X.mg "all" = none) (hb : bootBuiltins "all" = some (.builtin "all")) (TB : GxR.TabB X.base X.mg c P) (hcode : X.env.code = .ref c) (S : GxS X.N X.env.scope scope x ix) (hi : PI X (.Name x px) iter wi)
    (he : ∀ (s : Shared) (H : Hp) (C : Addr) (code : Value) (cl : List (Str × Addr)) (fp : List Addr), PE (gx X scope (X.A.in1.in1.deeper (genEnv scope cl C code builtinsNs X.env)) s H C code cl fp) elt te)
    (hs : ∀ v, genFold iter X.env v = pure v)
    (hst : starEach [.GeneratorExp elt [⟨.Name x px, iter, [], 0⟩] scope gpos] X.env = (false, eval (.GeneratorExp elt [⟨.Name x px, iter, [], 0⟩] scope gpos) X.env) :: starEach [] X.env := by rfl) :
    PE X (.Call (.Name "all" p) [.GeneratorExp elt [⟨.Name x px, iter, [], 0⟩] scope gpos] [] pos) (tAllG P ix wi te) := by
  refine ⟨fun pins s σ H Q I h => ?_⟩
  refine wpAny_Call_Name_kw (ld_blt I hg hm hb ?_)
  refine PyProof.Rows.callWith_builtin1 ?_ hst (by rfl)
  rw [hst]
  show wpAny _ _ (spliced ((false, eval (.GeneratorExp elt [⟨.Name x px, iter, [], 0⟩] scope gpos) X.env) :: backTo pos (starEach [] X.env))) _ _ s
  refine Calls.spliced_cons (wpAny_GeneratorExp_make S.co (closure_ok (S.cells I.ok)) S.cell S.dot S.kind (by have := hr.dp; omega) ?_ hs)
  refine thn (hi.run pins s σ H _ I h) fun xv s1 h1 => thn h1 fun itv s2 h2 => ?_
  obtain ⟨it, fp, tn, J, H2, rfl, I2, T, st2, f2, ⟨ps, hP, ht⟩, q2⟩ := h2
  refine ⟨I2.nolimit, ?_⟩
  have hPs : s2.heap.get? P = some { cls := .none, data := .fields ps } := I2.hok P _ hP
  have cd : PySem.W.CodeHd s2.heap c P := TB.code.keeps fun b u e => I2.bk b u e
  have nfP : ∀ b ∈ fp, b ≠ P := fun b hb e => by
    have z := (f2 b hb).1
    rw [e, hP] at z
    cases z
  have cont : ∀ (code : Value) (h3 : Heap) (tk : Nat) (ps' : Array Value), Heap.ExtBut P s2.heap h3 → h3.get? P = some { cls := .none, data := .fields ps' } → (∃ more, ps' = ps ++ more) → TriplesOk ps'.toList →
      wpAny (model X.prog X.w) X.A (builtinsFor X.env.globals X.env.builtins) (fun bi s₄ =>
        ∀ h', h'.Ns s₄.heap.objs.size (fun y => if y = ".0" then some (.ref it) else none) → Heap.SameBut s₄.heap.objs.size (s₄.heap.push { cls := .type "frame", data := .dict #[] }) h' →
          (fun v s' => wpAny (model X.prog X.w) X.A (spliced (backTo pos (starEach [] X.env))) (fun vs s'' => wpAny (model X.prog X.w) X.A (call (.builtin "all") (v :: vs)) (EP X pins σ Q) X.xe s'') X.xe s') (.ref h'.objs.size) { s₄ with
            gens := s₄.gens.push (.fresh (.compStart (.GeneratorExp elt [⟨.Name x px, iter, [], 0⟩] scope gpos) 0 (.ref it) .none (genEnv scope (cloFrom X.env.cells scope.names []) s₄.heap.objs.size code bi X.env))),
            toks := s₄.toks + 1 + 1 + 1,
            heap := h'.push { cls := .type "generator", data := .fields #[.int s₄.gens.size 0, .str "<genexpr>" (s₄.toks + 1), .str (X.env.qual ++ "<genexpr>") (s₄.toks + 1 + 1)] } }) X.xe { s2 with heap := h3, toks := tk } := by
    intro code h3 tk ps' hx hP3 hmore ht3
    obtain ⟨more, em⟩ := hmore
    subst em
    have I3 : Inv X pins σ (upd H2 P (.tbl (ps ++ more))) { s2 with heap := h3, toks := tk } := GxR.inv_tab (g' := s2.gens) (d' := s2.drawn) I2 hP (fun b o hb e => hx b o hb e) hP3 I2.bare
    have hTb : GxR.Tabbed P H2 (upd H2 P (.tbl (ps ++ more))) := ⟨⟨_, upd_same, ht3⟩, fun b hb => upd_ne hb⟩
    have f3 : ∀ b ∈ fp, FpOk X pins (upd H2 P (.tbl (ps ++ more))) b := fun b hb => ⟨by rw [upd_ne (nfP b hb)]; exact (f2 b hb).1, (f2 b hb).2⟩
    have st3 : tn 0 h3 := T.keep _ _ _ st2 fun b hb o e => hx b o (nfP b hb) e
    obtain ⟨W, ⟨m0, w0⟩, hW⟩ := q2 _ hTb
    generalize upd H2 P (.tbl (ps ++ more)) = H3 at I3 hTb f3 w0
    generalize hs4 : ({ s2 with heap := h3, toks := tk } : Shared) = s4 at I3
    have st4 : tn 0 s4.heap := by rw [← hs4]; exact st3
    obtain ⟨bm, ob, e1, e2, e3, e4, e5, e6, e7, e8⟩ := TB.bm
    refine wpAny_builtinsFor (m := X.mg) (by rw [I3.ok.glob]; exact I3.mod.glob.keeps I3.bk) e1 e2 (I3.bk _ _ e5) e6 e7 e8 ?_
    intro h' hn' hs'
    refine Calls.spliced_nil ?_
    have hsz : h'.objs.size = s4.heap.objs.size + 1 := by rw [hs'.1, Heap.size_push]
    have keep' : ∀ b o, s4.heap.get? b = some o → h'.get? b = some o := fun b o e => hs'.extBut b o (Nat.ne_of_lt (Heap.lt_size e)) (Heap.get?_push_of_some _ e)
    generalize hgo : ({ cls := .type "generator", data := .fields #[.int s4.gens.size 0, .str "<genexpr>" (s4.toks + 1), .str (X.env.qual ++ "<genexpr>") (s4.toks + 1 + 1)] } : Obj) = go
    have keep5 : ∀ b o, s4.heap.get? b = some o → (h'.push go).get? b = some o := fun b o e => Heap.get?_push_of_some _ (keep' b o e)
    have hgi : ∀ hh : Heap, hh.get? h'.objs.size = some go → hh.IsGen h'.objs.size s4.gens.size := fun hh e => ⟨go, _, _, e, by rw [← hgo], by rw [← hgo], by rw [← hgo]⟩
    have ha5 : (h'.push go).get? h'.objs.size = some go := Heap.get?_push_size _ (by rw [← hgo]; rfl)
    have hob : ∀ b ∈ fp, ∃ o, s4.heap.get? b = some o := fun b hb => let ⟨o, e, _⟩ := T.obj _ _ st4 b hb; ⟨o, e⟩
    have hgc : ∀ v, go.data ≠ .cell v := fun v z => by
      rw [← hgo] at z
      cases z
    generalize hcl : cloFrom X.env.cells scope.names [] = cl
    have hA : (X.A.in1.in1.deeper (genEnv scope cl s4.heap.objs.size code builtinsNs X.env)).handled = none := hr.hd
    have hAf : (X.A.in1.in1.deeper (genEnv scope cl s4.heap.objs.size code builtinsNs X.env)).frames = some (genEnv scope cl s4.heap.objs.size code builtinsNs X.env :: X.stack) := Around.frames_deeper (A := X.A.in1.in1) I3.ok.frames
    have hex : ∀ b ∈ fp, b ≠ s4.heap.objs.size ∧ b ∉ frs X.stack ∧ ∀ y c, cl.lookup y = some c → c ≠ b := fun b hb => by
      obtain ⟨o, e⟩ := hob b hb
      refine ⟨Nat.ne_of_lt (Heap.lt_size e), fun hm => ?_, fun y c e => ?_⟩
      · rcases List.mem_cons.mp (I3.stkSub b hm) with z | z
        · exact (f3 b hb).2.1 z
        · exact (f3 b hb).2.2.1 z
      · rw [← hcl] at e
        exact (f3 b hb).2.2.2.2.1 y c (NdefX.clo_cm (S.cells I3.ok) e)
    have hpz : ∀ p ∈ [(h'.objs.size, go)], ∀ b ∈ fp, p.1 ≠ b := fun p hp b hb z => by
      rw [List.mem_singleton.mp hp] at z
      obtain ⟨o, e⟩ := hob b hb
      have h1 := Heap.lt_size e
      have z' : h'.objs.size = b := z
      rw [← z', hsz] at h1
      exact Nat.lt_irrefl _ (Nat.lt_trans (Nat.lt_succ_self _) h1)
    have J0 : ∀ (G : Array GenState) (t : Nat), AllBare G → Inv (gx X scope (X.A.in1.in1.deeper (genEnv scope cl s4.heap.objs.size code builtinsNs X.env)) s4 H3 s4.heap.objs.size code cl fp) [(h'.objs.size, go)] (σ.set ix none) H3 { s4 with gens := G, toks := t, heap := h'.push go } := fun G t hG => by
      subst hcl
      exact inv_gx I3 S f3 hob hA hAf keep5 (hn'.push _) hG ha5 (by rw [hsz]; exact Nat.lt_succ_self _) hgc
    have back : ∀ {σ' : L2.St} {H' : Hp} {s5 s6 : Shared}, Inv (gx X scope (X.A.in1.in1.deeper (genEnv scope cl s4.heap.objs.size code builtinsNs X.env)) s4 H3 s4.heap.objs.size code cl fp) [(h'.objs.size, go)] σ' H' s5 → s6.os = s5.os → (∀ b o, s5.heap.get? b = some o → s6.heap.get? b = some o) → AllBare s6.gens → Inv X pins σ H' s6 := fun J5 ho hk hg => inv_back I3 f3 J5 ho hk hg
    have loop := seg_all (s := s4) (H := H3) (elt := elt) (iter := iter) (gpos := gpos) (B := X.A.in1.in1) (C := s4.heap.objs.size) (code := code) (cl := cl) (pz := [(h'.objs.size, go)]) S T over_deeper (he s4 H3 _ code cl fp) hW hpz hex
    refine call_function_tree F.kind_all F.plain_all F.entry_all (F.args_all1 _) ?_
    unfold Builtin.«all»
    refine wpAny_bind (m := oneArg "all" _) (wpAny_pure ?_)
    refine wpAny_bind (wpAny_pyIter_gen (hgi _ ha5) ?_)
    refine wpAny_pure ⟨plainId_quiet F.plain_all_loop _, ?_⟩
    refine all_loop (Rt := fun b s' => EP X pins σ Q (.bool b) s')
      (fun n s' => s'.heap.IsGen h'.objs.size s4.gens.size ∧ s'.heap.NoLimit ∧ AllBare s'.gens ∧ ∃ gs, s'.gens[s4.gens.size]? = some gs ∧
        ∀ s'', Again s' s'' → gs.Goes (model X.prog X.w) X.A.in1.in1 (RA (gx X scope (X.A.in1.in1.deeper (genEnv scope cl s4.heap.objs.size code builtinsNs X.env)) s4 H3 s4.heap.objs.size code cl fp) [(h'.objs.size, go)] Q) (YA (gx X scope (X.A.in1.in1.deeper (genEnv scope cl s4.heap.objs.size code builtinsNs X.env)) s4 H3 s4.heap.objs.size code cl fp) [(h'.objs.size, go)] Q) n (.send .none) s'')
      (fun b s' h => h) (fun n s' E hS => ?_) (m0 + 1) _ ?_
    · obtain ⟨g1, g2, g3, gs, g4, g5⟩ := hS
      have glt : s4.gens.size < s'.gens.size := (Array.getElem?_eq_some_iff.mp g4).1
      refine GenW.wpAny_gsz (n := s4.gens.size + 1) glt ?_
      refine wpAny_pyNext_genexpQ (P := fun _ _ s1 => ∃ σ' H', Inv (gx X scope (X.A.in1.in1.deeper (genEnv scope cl s4.heap.objs.size code builtinsNs X.env)) s4 H3 s4.heap.objs.size code cl fp) [(h'.objs.size, go)] σ' H' s1 ∧ Q (.bl true) H') hr.hd g2 hr.depth g1 g4
        (g5 _ ⟨rfl, rfl, bare_set g3 rfl⟩) (fun v s1 gs' hb hv => ?_) (fun s1 hp h6 hk6 => ?_)
      · intro hsz1
        obtain ⟨b, σ', H', rfl, J1, k1, k2⟩ := hv
        refine .inr ⟨b, rfl, fun hb1 => ?_, fun hb0 => ?_⟩
        · have k2' := k2 hb1
          cases n with
          | zero => exact absurd (k2' s1 ⟨rfl, rfl, J1.bare⟩) id
          | succ n =>
            refine ⟨n, Nat.lt_succ_self n, hgi _ (J1.pin (h'.objs.size, go) (List.mem_append_right _ (List.mem_singleton.mpr rfl))).1, J1.nolimit, bare_set J1.bare hb, gs', ?_, fun s'' z => ?_⟩
            · have hlt : s4.gens.size < s1.gens.size := by
                have z : s4.gens.size + 1 ≤ (s1.setGen s4.gens.size gs').gens.size := hsz1
                rw [GenW.setGen_size] at z
                exact z
              simp [Shared.setGen, hlt]
            · exact k2' s'' ⟨z.heap, z.os, z.bare⟩
        · exact ⟨.bl false, H', back J1 rfl (fun _ _ e => e) (bare_set J1.bare hb), rfl, k1 hb0⟩
      · intro _
        obtain ⟨σ', H', J1, qq⟩ := hp
        exact .inl ⟨rfl, .bl true, H', back J1 rfl hk6 (bare_set J1.bare rfl), rfl, qq⟩
    · refine ⟨hgi _ ha5, I3.nolimit.keeps keep5, AllBare.push I3.bare rfl, _, Array.getElem?_push_size .., fun s'' z => ⟨rfl, ?_⟩⟩
      have J1 := Inv.again (J0 _ (s4.toks + 1 + 1 + 1) (AllBare.push I3.bare rfl)) z
      have st5 : tn 0 s''.heap := by
        rw [z.heap]
        exact T.keep _ _ _ st4 fun b hb o e => keep5 b o e
      have fin := loop m0 (m0 + 1) 0 none H3 s'' s'' (Nat.lt_succ_self _) w0 J1 st5 (fun b hb => (f3 b hb).1)
      show Seg _ _ _ _ _ s'' _ ((compStart (.GeneratorExp elt [⟨.Name x px, iter, [], 0⟩] scope gpos) 0 (.ref it) .none (genEnv scope _ s4.heap.objs.size code builtinsNs X.env)).onRaise (leaving (genEnv scope _ s4.heap.objs.size code builtinsNs X.env))) [] s''
      subst hcl
      unfold compStart
      rw [Sem.onRaise_eq_wrap]
      show Seg _ _ _ _ _ s'' _ ((ask >>= _).wrap _ _ _ _) [] s''
      refine seg_bind_wrap (wpAny_askSetting ?_)
      split
      · exact seg_again rfl fin
      · first
          | exact seg_bind_wrap (wpAny_rule (seg_bind_wrap (wpAny_standAt (seg_bind_wrap (T.self _ 0 s'' _ _ st5 (seg_again rfl fin))))))
          | (refine seg_bind_wrap (wpAny_rule ?_); show Seg _ _ _ _ _ s'' _ ((standAt iter.pos >>= _).wrap _ _ _ _) [] s''; exact seg_bind_wrap (wpAny_standAt (seg_bind_wrap (T.self _ 0 s'' _ _ st5 (seg_again rfl fin)))))
  cases hf : codeAmong gpos ps.toList with
  | none =>
    refine wpAny_genexprCodeX hcode (cd.code hPs ht) (cd.tab hPs) hf fun c' h' tk hx hge hlt hco' _ htab' _ => ?_
    obtain ⟨o1, vs, f1, tf, fl, tg, inF, tx, tt, op, _, _, _, _, _, _, _, _, _, htr, _⟩ := hco'
    exact cont _ h' tk _ hx htab'.2 ⟨_, rfl⟩ htr
  | some cv =>
    refine wpAny_genexprCode_hit hcode (cd.code hPs ht) hf ?_
    exact cont cv s2.heap s2.toks ps (Heap.ExtBut.refl _ _) hPs ⟨#[], by simp⟩ ht
end
end GxA
namespace SS
open PySem PySem.Spec PyProof.Rows L2
section
variable {X : Cx}
/-- name = {k: v for ..} on one row, the name a local: the dict goes to the name ahead of the block's end -/
theorem ps_setDc {i : Nat} {y : Str} {py : Pos} {kx vx tg iter : Expr} {ifs : List Expr} {scope : Scope} {own : List (Str × Nat)} {pos spos : Pos} {wi : TI} {g : TG} {tt : TT} {tk tv : TE} (hc : X.calm = true) (hN : X.N.Nodup) (hy : X.N[i]? = some y) (hyl : X.env.scope.names.lookup y = some .local)
    (hsw : swapsWith (.DictComp kx vx [⟨tg, iter, ifs, 0⟩] scope pos) (some (.Name y py)) spos.line X.env = pure true) (hi : PI X tg iter wi) (ok : BlkOk X.N X.env.scope scope own)
    (hg : ∀ (s : Shared) (H : Hp) (B : Addr) (cl : List (Str × Addr)) (fp : List Addr), PG (X.blk s H scope (compEnvC scope cl B X.env) fp) tg g) (ht : ∀ (s : Shared) (H : Hp) (B : Addr) (cl : List (Str × Addr)) (fp : List Addr), PTs (X.blk s H scope (compEnvC scope cl B X.env) fp) ifs tt)
    (hk : ∀ (s : Shared) (H : Hp) (B : Addr) (cl : List (Str × Addr)) (fp : List Addr), PE (X.blk s H scope (compEnvC scope cl B X.env) fp) kx tk)
    (he : ∀ (s : Shared) (H : Hp) (B : Addr) (cl : List (Str × Addr)) (fp : List Addr), PE (X.blk s H scope (compEnvC scope cl B X.env) fp) vx tv) (hs : ∀ x, foldedSetIterable iter X.env x = pure x := by intro _; rfl) :
    PS X (.Assign [.Name y py] (.DictComp kx vx [⟨tg, iter, ifs, 0⟩] scope pos) spos) (tAsg (tDc wi g tt tk tv (own.map (·.2))) (gName i)) := by
  refine ⟨fun pins s σ H DD I hh => ?_⟩
  rw [exec_Assign_Name_used _ _ _ _ hsw]
  refine wpAny_bind (wpAny_standAt (wpAny_bind ?goal1))
  show wpAny _ X.A (do let _ ← comprehension (.DictComp kx vx [⟨tg, iter, ifs, 0⟩] scope pos) scope X.env (firstIterPos [⟨tg, iter, ifs, 0⟩] pos) newDict false (eval iter X.env) (some (assign (.Name y py) X.env))) _ _ s
  have hh : tDc wi g tt tk tv (own.map (·.2)) σ H (fun x H1 => gName i x σ H1 DD.nx) := hh
  refine wpAny_bind (thn (dc_core (Qf := fun _ s' => SP X pins DD .next s') hc hN I hi ok hg ht hk he hs hh fun L B s' m H' I' q hn f => ?goal2) fun _ s' hq => wpAny_pure (wpAny_pure hq))
  show wpAny _ _ (assign (.Name y py) X.env (.ref L)) _ _ _
  refine wpAny_assign_Name (store_ok2 (v := V.ref L) I' hN hy (.inl hyl) rfl (fun s2 I2 ⟨a, sb, ha⟩ => ?goal3) (.inr hyl))
  obtain ⟨f0, f1, _, f3, f4, f5⟩ := f
  have haB : B ≠ a := ha.elim (fun z => z ▸ f1) (fun z e => f4 y a z e.symm)
  exact ⟨m, hn.sameBut sb haB, fun h3 sb3 => ⟨_, H', I2.turned (t' := s2.toks) (fun b o hb e => (sb3.2 b hb).trans e) f0 f1 f3 f4 f5, q⟩⟩
theorem swD_true {kx vx : Expr} {gs : List Comprehension} {scope : Scope} {pos py : Pos} {y : Str} {l : Nat} {env : Env} (hk : env.scope.kind = .function) (hy : env.scope.names.lookup y = some .local) (hl : (py.line == pos.line) = true)
    (ha : (scope.names.any fun (n, k) => n == y && (k == .local || k == .cell)) = false) : swapsWith (.DictComp kx vx gs scope pos) (some (.Name y py)) l env = pure true := by
  have kind1 : env.kindOf y = some .local := hy
  have kind2 : env.blockKind = .function := by unfold Env.blockKind; rw [hk]; rfl
  unfold swapsWith
  simp only [kind2, kind1, ha, Expr.pos, hl]; rfl
end
end SS
namespace SS
open PySem PySem.Spec PyProof.Rows L2
open MeetsSeq MeetsSeq2 MeetsSeq3 SeqRoads2 in
theorem lstNe_loop {P : Program} {w : World} (l b : Addr) (it it2 : Array Value) (n n2 : Nat) (dd dd2 : Option Addr) (sl sl2 : Array (Option Value)) (hz : it.size = it2.size) (k : Nat) :
    ∀ i : Nat, it.size - i = k → MeetsIn P w (Builtin.«list.__eq__.loop» ⟨[.ref l, .ref b, rawInt i, rawInt 3], []⟩)
      (fun A R s => s.heap.get? l = some { cls := .type "list", dict := dd, data := .seq it n, slots := sl } ∧ s.heap.get? b = some { cls := .type "list", dict := dd2, data := .seq it2 n2, slots := sl2 } ∧
        (∀ j (h1 : j < it.size) (h2 : j < it2.size), SeqAt.EqP P w A.in1 s it[j] it2[j] true) ∧ R (.ok (.ret (.bool false))) s) := by
  induction k with
  | zero =>
    intro i hk A R s h
    obtain ⟨hp, g, d, tk, os⟩ := s
    obtain ⟨hl, hb, he, h⟩ := h
    wp_walk using AutoSeq1.wpAny_loadPart' hl, AutoSeq1.wpAny_loadPart' hb
    have a1 : it[((i : Nat) : Int).toNat]? = none := by simp; omega
    have a2 : it2[((i : Nat) : Int).toNat]? = none := by simp; omega
    rw [a1, a2]
    wp_walk using AutoSeq1.wpAny_loadPart' hl, AutoSeq1.wpAny_loadPart' hb
    show R (.ok (.ret (.bool (it.size != it2.size)))) _
    rw [hz]
    simpa using h
  | succ k ih =>
    intro i hk A R s h
    obtain ⟨hp, g, d, tk, os⟩ := s
    obtain ⟨hl, hb, he, h⟩ := h
    wp_walk using AutoSeq1.wpAny_loadPart' hl, AutoSeq1.wpAny_loadPart' hb
    have b1 : i < it.size := by omega
    have b2 : i < it2.size := by omega
    have a1 : it[((i : Nat) : Int).toNat]? = some it[i] := by simp [b1]
    have a2 : it2[((i : Nat) : Int).toNat]? = some it2[i] := by simp [b2]
    have hc : ((i : Int) + 1) = ((i + 1 : Nat) : Int) := by omega
    rw [a1, a2]
    refine wpAny_bind (he i b1 b2 _ _ ?_)
    wp_walk
    rw [hc]
    exact ⟨plainId_quiet plain_eq_loop _, codeAny_builtin entry_eq_loop (by
      rw [Around.under_plainId plain_eq_loop _]; exact ih (i + 1) (by omega) A R _ ⟨hl, hb, he, h⟩)⟩
open MeetsSeq MeetsSeq2 MeetsSeq3 SeqRoads2 in
theorem lstNe_in {P : Program} {w : World} (l b : Addr) (it it2 : Array Value) (n n2 : Nat) (dd dd2 : Option Addr) (sl sl2 : Array (Option Value)) (hz : it.size = it2.size) :
    MeetsIn P w (Builtin.«list.__ne__» ⟨[.ref l, .ref b], []⟩)
      (fun A R s => s.heap.get? l = some { cls := .type "list", dict := dd, data := .seq it n, slots := sl } ∧ s.heap.get? b = some { cls := .type "list", dict := dd2, data := .seq it2 n2, slots := sl2 } ∧
        (∀ j (h1 : j < it.size) (h2 : j < it2.size), SeqAt.EqP P w A.in1 s it[j] it2[j] true) ∧ R (.ok (.ret (.bool false))) s) := by
  intro A R s h
  obtain ⟨hp, g, d, tk, os⟩ := s
  obtain ⟨hl, hb, he, h⟩ := h
  have f3 := AutoSeq1.sub_list_list
  have nz : ¬ (it.size != it2.size) = true := by simp [hz]
  wp_walk using AutoSeq1.wpAny_loadPart' hl, AutoSeq1.wpAny_loadPart' hb
  exact ⟨plainId_quiet plain_eq_loop _, codeAny_builtin entry_eq_loop (by
    rw [Around.under_plainId plain_eq_loop _]; exact lstNe_loop l b it it2 n n2 dd dd2 sl sl2 hz _ 0 rfl A R _ ⟨hl, hb, he, h⟩)⟩
section
variable {X : Cx}
/-- [..] != [..], two lists that are equal -/
def rNeXL (K : PySem.W.Frag) : R2 := fun x y H Q => ∃ (n : Nat) (p q : Addr) (xs ys : List V), n ≤ 50 ∧ x = .ref p ∧ y = .ref q ∧ SqL K H p xs ∧ SqL K H q ys ∧ Paired (XV K H n) xs ys ∧ Q (.bl false) H
theorem op_neXL (hu : X.A.units + 64 < cLine) : OpR X (compareOp .NotEq) (rNeXL X.K) := by
  intro pins s σ H x y v u Q I rx ry h
  obtain ⟨n, p, r, xs, ys, hn, rfl, rfl, h1, h2, hp, q⟩ := h
  obtain rfl : v = Value.ref p := rx
  obtain rfl : u = Value.ref r := ry
  obtain ⟨us, r1, p1, _⟩ := I.list h1
  obtain ⟨ws, r2, p2, _⟩ := I.list h2
  obtain ⟨⟨c1, d1, e1, g1⟩, o1, o2, n1, o3⟩ := id p1.isList
  obtain ⟨⟨c2, d2, e2, g2⟩, t1, t2, n2, t3⟩ := id p2.isList
  have o2' : c1 = .type "list" := o2
  have o3' : e1 = .seq us.toArray n1 := o3
  have t2' : c2 = .type "list" := t2
  have t3' : e2 = .seq ws.toArray n2 := t3
  subst o2' o3' t2' t3'
  have hz : us.toArray.size = ws.toArray.size := by
    rw [List.size_toArray, List.size_toArray, ← r1.length, ← r2.length]
    exact Paired.length hp
  have ta : s.TypeIs (.ref p) "list" := ⟨_, o1, rfl⟩
  have tb : s.TypeIs (.ref r) "list" := ⟨_, t1, rfl⟩
  refine wpAny_richCompare_same_room (op := .NotEq) ta tb F.slot_list_ne (call_meetsIn F.slot_list_ne ta F.entry_list_ne (F.args_list_ne_2 _ _) (lstNe_in p r us.toArray ws.toArray n1 n2 d1 d2 g1 g2 hz)
    ⟨o1, t1, fun j j1 j2 => ?_, ⟨(fun z => nomatch z), ⟨.bl false, H, I, rfl, q⟩⟩⟩) (by omega)
  have k := items_run (P := X.prog) (w := X.w) (A := X.A.in1) (s := s) (F := XV X.K H n) (fun x y v u hd rv ru => xv_run I n _ (by show X.A.units + 1 + n < cLine; omega) _ _ _ _ hd rv ru) hp r1 r2 j (by simpa using j1) (by simpa using j2)
  simpa using k
end
end SS
namespace SS
open PySem PySem.Spec PyProof.Rows L2
/-! ### a def that is handed the error which a suite holds -/
structure FnP (P : Program) (w : World) (K : PySem.W.Frag) (mg : Str → Option Value) (base : Heap) (k : Nat) (f : Addr) (fd : FuncData) (ps : List Str) (sp : Sp) (pe : Addr × Obj) : Prop where
  len : ∀ vs H Q E, sp vs H Q E → vs.length = ps.length
  run : ∀ (A : Around) (outer : List Env) (s : Shared) (H : Hp) (args : Args) (us : List Value) (vs : List V) (Q : VK) (E : XK), L2H.RoomH k A → L2H.PinOk outer H s pe → Env0 P w K mg base A outer s H → BindsTo s fd args (ps.zip us) → Vals vs us → sp vs H Q E →
    codeAny (model P w) A (.call (.ref f) args) (CR CX0 outer P w H s Q E) s
theorem Fun.okP {P : Program} {w : World} {K : PySem.W.Frag} {mg : Str → Option Value} {base : Heap} {x qual : Str} {st : Stmt} {f : Addr} {fd : FuncData} {N ps : List Str} {k : Nat} {sp : Sp} (F : Fun K x qual st f fd) (S : FnScope N ps (defScope st)) (pe : Addr × Obj)
    (len : ∀ vs H Q E, sp vs H Q E → vs.length = ps.length)
    (hbody : ∀ (cdv : Value) (A : Around) (outer : List Env) (s : Shared) (H : Hp) (vs : List V) (Q : VK) (E : XK), L2H.RoomH k (A.deeper (envOfC qual (defScope st) s.heap.objs.size f cdv)) → sp vs H Q E →
      ∃ t, PSs (L2H.cxH CX0 P w K mg base N qual (defScope st) f cdv A outer s H E pe) (defBody st) t ∧ t { nx := fun _ H' => Q .non H', rt := Q } (L2.start N vs) H) : FnP P w K mg base (k + 1) f fd ps sp pe := by
  obtain ⟨oc, od, kV, doc, pm, an, cdv, ct, osl, rfl, look, code⟩ := F.ex
  refine ⟨len, fun A outer s H args us vs Q E hr pin env bnd r hsp => ?_⟩
  have ll := len _ _ _ _ hsp
  have inK : K.In s.heap := env.mod.kin.keeps fun b o e => (env.bs b o e).1
  have noL : s.heap.NoLimit := env.mod.nolimit.keeps fun b o e => (env.bs b o e).1
  have kinds : ∀ y ∈ ps.zip us, (defScope st).names.lookup y.1 = some .local ∨ ((defScope st).names.lookup y.1 = some .cell ∧ ((cellsFrom (s.heap.objs.size + 1) (defScope st).names []).lookup y.1).isSome = true) := fun ⟨n, v⟩ hy =>
    (S.par n (List.of_mem_zip hy).1).elim .inl fun q => .inr ⟨q, PySem.W.cellsFrom_some _ _ _ (.inl q)⟩
  refine codeAny_call_function hr.depth (inK _ _ look) rfl S.co S.gen rfl (PySem.W.codeRec_of inK code) (bnd _ _ _ _ ?_)
  refine wpAny_newFunctionEnv_cells S.kind kinds fun en he s1 xc => ?_
  subst he
  refine ⟨noL.keeps xc.toInCall.keep, codeAny_func ?_⟩
  obtain ⟨t, ht, hq⟩ := hbody cdv A outer s H vs Q E (hr.deeper _) hsp
  have I : Inv (L2H.cxH CX0 P w K mg base N qual (defScope st) f cdv A outer s H E pe) [] (L2.start N vs) H s1 := L2H.inv_startH S pin env ll r xc
  refine wpAny_mono (ht.run [] s1 (L2.start N vs) H _ I hq) (fun fl s' hs => ?_) fun _ _ z => z
  match fl, hs with
  | .ret _, ⟨v, _, H', J, rv, qv⟩ => exact ⟨v, H', J.os, J.bare, J.base, J.hok, rv, qv⟩
  | .next, ⟨_, H', J, qv⟩ => exact ⟨.non, H', J.os, J.bare, J.base, J.hok, rfl, qv⟩
  | .brk, ⟨_, _, _, qv⟩ => exact False.elim qv
  | .cont, ⟨_, _, _, qv⟩ => exact False.elim qv
theorem roomP {k : Nat} {A : Around} (r : Room k A) (h : Option Value) : L2H.RoomH k (A.mark h) := ⟨r.dp, r.un⟩
/-- as its callers know it -/
structure ClP (P : Program) (w : World) (K : PySem.W.Frag) (mg : Str → Option Value) (base : Heap) (k : Nat) (x : Str) (sp : Sp) (pe : Addr × Obj) : Prop where
  ex : ∃ (f : Addr) (fd : FuncData) (ps : List Str), FnP P w K mg base k f fd ps sp pe ∧ mg x = some (.ref f) ∧ PySem.W.keepIn K (.ref f) = true ∧ Binds K fd ps []
section
variable {X : Cx} {k : Nat} {x : Str} {sp : Sp} {pe : Addr × Obj} {q pos : Pos} {e : Expr} {es : List Expr} {t : TA}
theorem pcP (c : ClP X.prog X.w X.K X.mg X.base k x sp pe) (hr : L2H.RoomH k X.A) (hp : pe ∈ X.pn) (ha : PA X (e :: es) t) (hg : Gl X x := by rfl)
    (hdb : (x == ("__debug__" : Str)) = false := by decide) (he : starEach (e :: es) X.env = (false, eval e X.env) :: starEach es X.env := by rfl) (hpl : (backTo pos (starEach es X.env)).any (·.1) = false := by rfl) :
    PE X (.Call (.Name x q) (e :: es) [] pos) (tCall sp [] E0 t) := by
  obtain ⟨f, fd, ps, F, gm, kp, bd⟩ := c.ex
  refine ⟨fun pins s σ H Q I h => ?_⟩
  refine wpAny_Call_Name_kw (ld_glob I hg gm ?_ hdb)
  refine PySem.W.callWith_K (h₀ := X.base) I.ok.mod.kin kp (thn (ha.run pos pins s σ H _ I h) fun us s1 ⟨vs, H1, I1, r, hv⟩ => ⟨I1.kIn, ?_⟩) he hpl
  have hv : sp (vs ++ []) H1 Q E0 := hv
  rw [List.append_nil] at hv
  have hl : us.length = ps.length := by rw [← r.length]; exact F.len _ _ _ _ hv
  have b := bd s1 us I1.kIn (by rw [List.append_nil]; exact hl)
  rw [List.append_nil] at b
  have P1 := I1.pin pe (List.mem_append_left _ hp)
  have pin : L2H.PinOk X.stack H1 s1 pe := ⟨P1.1, P1.2.1, fun hm => (List.mem_cons.mp (I1.stkSub pe.1 hm)).elim P1.2.2.1 P1.2.2.2.1, P1.2.2.2.2⟩
  refine wpAny_call (codeAny_mono (F.run X.A X.stack s1 H1 ⟨us, []⟩ us vs Q _ hr pin I1.env0 b r hv) fun rr s' hq => ?_)
  match rr, hq with
  | .ok (.ret u), hq => exact I1.after hq
  | .ok .next, hq => exact False.elim hq
  | .ok .brk, hq => exact False.elim hq
  | .ok .cont, hq => exact False.elim hq
  | .error _, hq => exact False.elim hq
/-- isinstance(e, c), e an error that the context holds -/
theorem call_isP {a D : Addr} {oe : Obj} (C : ExcC X.K D) (hz : Zc (.ref D) none oe) (hf : ∃ vs, oe.data = .fields vs) (hp : (a, oe) ∈ X.pn) : CallR X (.builtin "isinstance") (rIsE X.K D a) := by
  intro pins s σ H xs us Q I rr hh
  obtain ⟨c, cv, b, rfl, hcv, ek, qq⟩ := hh
  obtain ⟨v1, v2, rfl, ra, rt⟩ := vals2 rr
  cases (show v1 = Value.ref a from ra)
  have ec := hcv _ rt
  subst ec
  obtain ⟨got, _⟩ := I.pin (a, oe) (List.mem_append_left _ hp)
  obtain ⟨fs, hv⟩ := hf
  have J : PySem.W.InstAt s.heap a oe D none := by
    obtain ⟨o1, o2, o3, o4⟩ := oe
    obtain ⟨w1, w2⟩ := hz
    dsimp only at w1 w2 hv
    subst w1 w2 hv
    exact ⟨got, rfl, rfl, trivial⟩
  exact PySem.W.kia_one (PySem.W.handS_kitx_exc C.hg C.hk C.hs C.hd C.ha C.hn C.ht C.hm) I.kIn J ek (fun z => nomatch z)
    fun tk => ⟨.bl b, H, I.kept (t' := tk) fun _ _ z => z, rfl, qq⟩
/-- l.count(True), of a list of truths -/
def isT : Value → Bool
  | .bool b => b
  | _ => false
theorem vals_bls : ∀ {bs : List Bool} {us : List Value}, Vals (bs.map V.bl) us → us = bs.map Value.bool
  | [], _, .nil => rfl
  | b :: bs, _, .cons h t => by
    have e : _ = Value.bool b := h
    rw [e, vals_bls t]
    rfl
theorem mt_countT : MtR X "list.count" (fun x xs H Q => ∃ (p : Addr) (bs : List Bool), x = .ref p ∧ xs = [.bl true] ∧ SqL X.K H p (bs.map V.bl) ∧ Q (.int (bs.count true : Nat)) H) := by
  intro pins s σ H x xs v us Q I rx rxs h
  obtain ⟨p, bs, rfl, rfl, hs, qq⟩ := h
  cases rx
  obtain ⟨u, rfl, ru⟩ := rxs.one
  cases (show u = Value.bool true from ru)
  obtain ⟨its, rv, ⟨⟨c1, d1, e1, sl⟩, n, ho, hc, _, hd⟩, _⟩ := I.list hs
  simp only at hc hd
  subst hc hd
  have ei := vals_bls rv
  subst ei
  refine call_meets PySem.F.slot_list_count ⟨_, ho, rfl⟩ PySem.F.entry_list_count (PySem.F.args_list_count_2 _ _)
    (SeqAt.list_countAt p (bs.map Value.bool).toArray n d1 sl (.bool true) isT) ⟨ho, fun y hy => ?_, ?_⟩
  · obtain ⟨b, _, rfl⟩ := List.mem_map.mp (show y ∈ bs.map Value.bool by simpa using hy)
    rw [show isT (.bool b) = (b == true) by cases b <;> rfl]
    exact SeqAt.EqAt.bool_bool b true
  · have ec : (bs.map Value.bool).toArray.toList.countP isT = bs.count true := by
      rw [List.toList_toArray, List.countP_map]
      exact List.countP_congr fun b _ => by cases b <;> decide
    refine ⟨.int (bs.count true : Nat), H, I.tok _, ⟨s.toks, ?_⟩, qq⟩
    show Value.int (((bs.map Value.bool).toArray.toList.countP isT : Nat) : Int) s.toks = Value.int ((bs.count true : Nat) : Int) s.toks
    rw [ec]
end
end SS
namespace SS
open PySem PySem.Spec PyProof.Rows L2
/-! ### the least of texts -/
theorem nltT : ∀ (a b c : List Nat), ltCps b a = false → ltCps c b = false → ltCps c a = false
  | [], _, [], _, _ => rfl
  | [], [], _ :: _, _, _ => rfl
  | [], _ :: _, _ :: _, _, _ => rfl
  | a :: as, [], c, h, _ => by simp [ltCps] at h
  | a :: as, b :: bs, [], _, h => by simp [ltCps] at h
  | a :: as, b :: bs, c :: cs, h1, h2 => by
    have ih := nltT as bs cs
    simp only [ltCps, Bool.or_eq_false_iff, decide_eq_false_iff_not, Bool.and_eq_false_imp, beq_iff_eq] at h1 h2 ⊢
    refine ⟨by omega, fun e => ?_⟩
    have e1 : b = a := by omega
    have e2 : c = b := by omega
    exact ih (h1.2 e1) (h2.2 e2)
theorem nltA : ∀ (a b : List Nat), ltCps b a = false → ltCps a b = false → a = b
  | [], [], _, _ => rfl
  | [], b :: bs, _, h => by simp [ltCps] at h
  | a :: as, [], h, _ => by simp [ltCps] at h
  | a :: as, b :: bs, h1, h2 => by
    have ih := nltA as bs
    simp only [ltCps, Bool.or_eq_false_iff, decide_eq_false_iff_not, Bool.and_eq_false_imp, beq_iff_eq] at h1 h2
    have e : a = b := by omega
    rw [e, ih (h1.2 e.symm) (h2.2 e)]
theorem ltIrr : ∀ (a : List Nat), ltCps a a = false
  | [] => rfl
  | a :: as => by simp [ltCps, ltIrr as]
theorem ltNot : ∀ (a b : List Nat), ltCps a b = true → ltCps b a = false
  | [], [], h => by simp [ltCps] at h
  | [], _ :: _, _ => rfl
  | _ :: _, [], h => by simp [ltCps] at h
  | a :: as, b :: bs, h => by
    have ih := ltNot as bs
    simp only [ltCps, Bool.or_eq_true, decide_eq_true_eq, Bool.and_eq_true, beq_iff_eq, Bool.or_eq_false_iff, decide_eq_false_iff_not, Bool.and_eq_false_imp] at h ⊢
    rcases h with h | h
    · exact ⟨by omega, fun e => by omega⟩
    · exact ⟨by omega, fun _ => ih h.2⟩
def leS (a b : Str) : Prop := ltCps b.cps.toList a.cps.toList = false
theorem leS_anti {a b : Str} (h1 : leS a b) (h2 : leS b a) : a = b := by
  have e := nltA _ _ h1 h2
  cases a
  cases b
  congr 1
  exact Array.toList_inj.mp e
theorem best_txt (t : Nat → Str) : ∀ k, argBest (fun i j => ltCps (t i).cps.toList (t j).cps.toList) k ≤ k ∧ ∀ j, j ≤ k → leS (t (argBest (fun i j => ltCps (t i).cps.toList (t j).cps.toList) k)) (t j)
  | 0 => ⟨Nat.le_refl _, fun j hj => by
      rw [show j = 0 by omega]
      exact ltIrr _⟩
  | k + 1 => by
    obtain ⟨a, b⟩ := best_txt t k
    simp only [argBest]
    split
    · rename_i c
      refine ⟨Nat.le_refl _, fun j hj => ?_⟩
      rcases Nat.lt_or_ge j (k + 1) with z | z
      · exact nltT _ _ _ (ltNot _ _ c) (b j (by omega))
      · rw [show j = k + 1 by omega]
        exact ltIrr _
    · rename_i c
      refine ⟨by omega, fun j hj => ?_⟩
      rcases Nat.lt_or_ge j (k + 1) with z | z
      · exact b j (by omega)
      · rw [show j = k + 1 by omega]
        exact Bool.eq_false_iff.mpr c
section
variable {X : Cx}
/-- min(d), d a dict whose keys are texts -/
def rMinT : List V → Hp → VK → Prop := fun vs H Q => ∃ (a : Addr) (kvs : List (Key × V)) (ts : List Str), vs = [V.ref a] ∧ H a = some (.dK kvs) ∧ kvs.map (·.1) = ts.map Sum.inr ∧ ts ≠ [] ∧ ∀ m ∈ ts, (∀ j ∈ ts, leS m j) → Q (.str m) H
theorem cr_minT (hc : X.calm = true) : CallR X (.builtin "min") rMinT := by
  rintro pins s σ H _ us Q I r ⟨a, kvs, ts, rfl, ha, hk, ne, q⟩
  obtain ⟨_, sysOk, es, rel, dof⟩ := dk_of I.hok ha
  obtain ⟨ep, at'⟩ := dof.dictAt
  have isz : a < s.heap.objs.size := by
    obtain ⟨_, _, z, _⟩ := id at'
    exact Heap.lt_size z
  have ks : es.map (·.1) = ts.map Sum.inr := by rw [← KV.keys rel, hk]
  have ln : es.length = ts.length := by simpa using congrArg List.length ks
  have shape : ∀ (i : Nat) (v : Value), (∃ k x, es[i]? = some (k, x) ∧ (mixKind X.prog X.w).is k v = true) → ∃ u, v = Value.str (ts.getD i "") u := by
    rintro i v ⟨k, x, e1, e2⟩
    have e3 : (ts.map Sum.inr)[i]? = some k := by
      rw [← ks, List.getElem?_map, e1]
      rfl
    rw [List.getElem?_map] at e3
    cases e4 : ts[i]? with
    | none =>
      rw [e4] at e3
      cases e3
    | some t =>
      rw [e4] at e3
      cases e3
      have e2 : keyIs (.inr t) v = true := e2
      rcases keyIs_shape e2 with ⟨_, _, z, _⟩ | ⟨y, u, z, e5⟩
      · cases z
      · cases z
        refine ⟨u, ?_⟩
        rw [e5, List.getD_eq_getElem?_getD, e4]
        rfl
  have cmp : CmpOf X.prog X.w X.A.in1 .Lt (fun i v => ∃ k x, es[i]? = some (k, x) ∧ (mixKind X.prog X.w).is k v = true) (fun i j => ltCps (ts.getD i "").cps.toList (ts.getD j "").cps.toList) := by
    intro i j vi vj s' Q' E' hi hj hQ
    obtain ⟨u, rfl⟩ := shape i vi hi
    obtain ⟨u', rfl⟩ := shape j vj hj
    refine lt_str ?_
    rw [show (decide ((ts.getD i "").cps.toList < (ts.getD j "").cps.toList)) = ltCps (ts.getD i "").cps.toList (ts.getD j "").cps.toList from (ltCps_eq _ _).symm]
    exact hQ
  obtain ⟨b1, b2⟩ := best_txt (fun i => ts.getD i "") (es.length - 1)
  have pos : 0 < ts.length := List.length_pos_iff.mpr ne
  rw [Vals.ref1 r]
  refine call_min_walk (wpAny_pyIter_dict (knd := mixKind X.prog X.w) sysOk at' ⟨_, _, _, _, _, _, _, rfl, Walks.dictKeys (knd := mixKind X.prog X.w) (A := X.A.in1) (I.ok.hd hc) s.heap.objs.size a (Nat.ne_of_lt isz) es ep,
    ⟨⟨_, Heap.get?_push_size _ rfl, rfl, rfl⟩, at'.keep fun b u e => Heap.get?_push_of_some _ e⟩, fun b hb => ?_, by omega, cmp, fun v h' tk hP keep => ?_⟩)
  · show b < (s.heap.push _).objs.size
    rw [Heap.size_push]
    rcases List.mem_cons.mp hb with z | z
    · rw [z]
      exact Nat.lt_succ_self _
    · rw [List.mem_singleton.mp z]
      exact Nat.lt_succ_of_lt isz
  · obtain ⟨u, rfl⟩ := shape _ v hP
    refine ⟨.str _, H, I.kept (t' := tk) fun b o e => keep b o (fun z => ?_) (Heap.get?_push_of_some _ e), ⟨u, rfl⟩, q _ ?_ fun t ht => ?_⟩
    · rw [List.mem_singleton.mp z] at e
      exact absurd (Heap.lt_size e) (Nat.lt_irrefl _)
    · have lt : argBest (fun i j => ltCps (ts.getD i "").cps.toList (ts.getD j "").cps.toList) (es.length - 1) < ts.length := by omega
      rw [List.getD_eq_getElem?_getD, List.getElem?_eq_getElem lt]
      exact List.getElem_mem lt
    · obtain ⟨i, il, e⟩ := List.mem_iff_getElem.mp ht
      have e2 : ts.getD i "" = t := by
        rw [List.getD_eq_getElem?_getD, List.getElem?_eq_getElem il, ← e]
        rfl
      rw [← e2]
      exact b2 i (by omega)
end
end SS
namespace SS
open PySem PySem.Spec PyProof.Rows L2
theorem star_items {prog : Program} {w : World} {A : Around} {E : Value → Shared → Prop} {s : Shared} {l : Addr} {x : Value} {xs : List Value} {Q : List Value → Shared → Prop} (hh : A.handled = none) (hl : s.heap.IsList l (x :: xs).toArray) (hz : xs.length ≤ 16000)
    (hQ : ∀ (h' : Heap) (tk : Tok), (∀ b o, b ≠ s.heap.objs.size → s.heap.get? b = some o → h'.get? b = some o) → Q [x, .ref h'.objs.size] { s with heap := h'.push { cls := .type "list", data := .seq xs.toArray }, toks := tk }) : wpAny (model prog w) A (unpackItems (.ref l) 2 (some 1)) Q E s := by
  have hlt : l ≠ s.heap.objs.size := by obtain ⟨o, ho, _⟩ := hl; exact Nat.ne_of_lt (Heap.lt_size ho)
  unfold unpackItems
  refine wpAny_bind ?_
  unfold notIterableAtAll
  refine wpAny_bind (wpAny_specialOf hl.typeIs PySem.F.slot_list_iter.lookup ?_)
  refine wpAny_pure ?_
  simp only [Bool.false_eq_true, if_false]
  refine wpAny_bind (wpAny_holding (wpAny_pyIter_list hl ?_))
  refine wpAny_bind (wpAny_holding (PySem.W.kun_draw hlt 1 0 _ _ ⟨_, Heap.get?_push_size _ rfl, rfl, rfl⟩ (hl.push _) (by simp) fun h₁ hit₁ hs₁ => ?_))
  have hl₁ : h₁.IsList l (x :: xs).toArray := (hl.push _).extBut hs₁.extBut hlt
  rw [Nat.zero_add] at hit₁
  have hit₁' := hit₁
  obtain ⟨oi, hoi, _⟩ := hit₁'
  have hl₁' := hl₁
  obtain ⟨ol, hol, _⟩ := hl₁'
  have ef : List.take 1 (List.drop 0 (x :: xs).toArray.toList) = [x] := by simp
  rw [ef]
  show wpAny _ _ (if ([x] : List Value).length < 1 then _ else _) _ _ _
  rw [if_neg (by simp)]
  refine wpAny_bind (wpAny_holding (PySem.W.kun_collect (s := { s with heap := h₁ }) (T := "list_iterator") (.inr (.inr (.inl rfl))) (Walks.list (A := A.in1) hh s.heap.objs.size l hlt (x :: xs).toArray) (fun j u st => st.1.typeIs) (k := 1) (by simp) ⟨hit₁, hl₁⟩ (Heap.lt_size hoi) (Heap.lt_size hol) (fun h₂ tk hk => ?_) (by rw [sizeLine_eq]; simp; omega)))
  have er : List.drop 1 (x :: xs).toArray.toList = xs := by simp
  rw [er]
  show wpAny _ _ (if xs.length < 2 - 1 - 1 then _ else _) _ _ _
  rw [if_neg (by simp)]
  show wpAny _ _ (newList (xs.take (xs.length - (2 - 1 - 1))) >>= fun d => pure ([x] ++ [d] ++ xs.drop (xs.length - (2 - 1 - 1)))) _ _ _
  have e1 : xs.take (xs.length - (2 - 1 - 1)) = xs := by simp
  have e2 : xs.drop (xs.length - (2 - 1 - 1)) = [] := by simp
  rw [e1, e2]
  refine wpAny_bind (wpAny_newList (wpAny_pure ?_) (by rw [sizeLine_eq]; omega))
  exact hQ h₂ tk fun b o hb e => hk b o hb (hs₁.extBut b o hb (Heap.get?_push_of_some _ e))
section
variable {X : Cx} {pos p : Pos}
/-- a, *b = a list of one or more -/
def gStar (K : PySem.W.Frag) (t : TGs) : TG := fun v σ H Q => ∃ a x xs, v = .ref a ∧ SqL K H a (x :: xs) ∧ xs.length ≤ 16000 ∧ ∀ D, H D = none → t [x, .ref D] σ (upd H D (.lst xs)) Q
theorem pg_star {e1 e2 : Expr} {k : Nat} {t : TGs} (hc : X.calm = true) (h : PGs X [e1, e2] t)
    (hn : (assignEach [e1, .Starred e2 p] X.env).length = 2 := by rfl) (hst : (assignEach [e1, .Starred e2 p] X.env).findIdx? (·.1) = some 1 := by rfl) (hm : (assignEach [e1, .Starred e2 p] X.env).map (·.2) = (assignEach [e1, e2] X.env).map (·.2) := by rfl) : PG X (.Tuple [e1, .Starred e2 p] k pos) (gStar X.K t) := by
  refine ⟨fun pins s σ H v u Q I r hw => ?_⟩
  obtain ⟨a, x, xs, e1', hq, hl, hw⟩ := hw
  subst e1'
  cases r
  obtain ⟨its, rv, pl, hz⟩ := I.list hq
  cases rv with
  | @cons _ y _ ys r0 rv =>
  have hl' : s.heap.IsList a (y :: ys).toArray := by
    obtain ⟨o, m, e, c, d, q⟩ := pl
    exact ⟨o, e, c, m, q⟩
  rw [PyProof.Rows.assign_Tuple]
  refine wpAny_bind (wpAny_standAt ?_)
  unfold unpack
  rw [hn, hst, hm]
  refine wpAny_bind (wpAny_holding (star_items (I.ok.hd hc) hl' (by rw [← rv.length]; exact hl) fun h' tk hx => ?_))
  have I1 : Inv X pins σ H { s with heap := h', toks := tk } := I.kept (t' := tk) fun b o e => hx b o (Nat.ne_of_lt (Heap.lt_size e)) e
  have hf : H h'.objs.size = none := I1.hok.fresh (Nat.le_refl _)
  have I2 := I1.laid (t' := tk) (o := .lst xs) (h' := h'.push { cls := .type "list", data := .seq ys.toArray }) (fun b u e => Heap.get?_push_of_some _ e) (Nat.le_refl _) ⟨by rw [sizeLine_eq]; omega, ys, 0, rv, Heap.get?_push_size _ rfl⟩
  exact h.run pins _ σ _ [x, .ref h'.objs.size] _ Q I2 (.cons r0 (.cons rfl .nil)) (hw _ hf)
end
end SS
namespace SS
open PySem PySem.Spec PyProof.Rows L2 TL NumText
/-! ### fractions as texts -/
def digB (l : List Nat) : Bool := l.all fun c => decide (48 ≤ c) && decide (c ≤ 57)
def wokB (l : List Nat) : Bool := decide (1 ≤ l.length) && decide (l.length ≤ 30) && digB l
def leadB (l : List Nat) : Bool := decide (l.head? = some 48) && decide (1 < l.length)
def figs (l : List Nat) : Option Nat := if (wokB l && !leadB l) = true then some (digitsVal l) else none
theorem digB_iff {l : List Nat} : digB l = true ↔ AllDigits l := by
  unfold digB AllDigits
  rw [List.all_eq_true]
  refine ⟨fun h c hc => ?_, fun h c hc => ?_⟩
  · have z := h c hc
    rw [Bool.and_eq_true, decide_eq_true_iff, decide_eq_true_iff] at z
    exact z
  · rw [Bool.and_eq_true, decide_eq_true_iff, decide_eq_true_iff]
    exact h c hc
theorem wokB_iff {l : List Nat} : wokB l = true ↔ 1 ≤ l.length ∧ l.length ≤ 30 ∧ AllDigits l := by
  unfold wokB
  rw [Bool.and_eq_true, Bool.and_eq_true, decide_eq_true_iff, decide_eq_true_iff, digB_iff, and_assoc]
theorem dv_snoc (l : List Nat) (c : Nat) : digitsVal (l ++ [c]) = digitsVal l * 10 + (c - 48) := by
  unfold digitsVal
  rw [List.foldl_append]
  rfl
theorem snoc_ind {p : List Nat → Prop} (h0 : p []) (hs : ∀ l c, p l → p (l ++ [c])) (l : List Nat) : p l := by
  rw [← List.reverse_reverse l]
  induction l.reverse with
  | nil => exact h0
  | cons c r ih =>
    rw [List.reverse_cons]
    exact hs _ _ ih
theorem dgv_lt (l : List Nat) : AllDigits l → digitsVal l < 10 ^ l.length := by
  refine snoc_ind (p := fun l => AllDigits l → digitsVal l < 10 ^ l.length) (fun _ => by decide) (fun l c ih h => ?_) l
  have z := ih fun x hx => h x (List.mem_append_left _ hx)
  have y := h c (List.mem_append_right _ List.mem_cons_self)
  rw [dv_snoc, List.length_append, show [c].length = 1 from rfl, Nat.pow_succ]
  omega
theorem num_self (l : List Nat) : AllDigits l → l ≠ [] → (l.head? ≠ some 48 → numL (digitsVal l) = l ∧ 1 ≤ digitsVal l) := by
  refine snoc_ind (p := fun l => AllDigits l → l ≠ [] → (l.head? ≠ some 48 → numL (digitsVal l) = l ∧ 1 ≤ digitsVal l)) (fun _ z => absurd rfl z) (fun l c ih h _ hd => ?_) l
  have y := h c (List.mem_append_right _ List.mem_cons_self)
  have dl : AllDigits l := fun x hx => h x (List.mem_append_left _ hx)
  rw [dv_snoc]
  by_cases e : l = []
  · subst e
    have hc : c ≠ 48 := fun z => hd (by rw [z]; rfl)
    have e0 : digitsVal [] * 10 + (c - 48) = c - 48 := by
      show 0 * 10 + (c - 48) = c - 48
      omega
    rw [e0, numL_lt (by omega), show 48 + (c - 48) = c by omega]
    exact ⟨rfl, by omega⟩
  · have hd' : l.head? ≠ some 48 := fun z => hd (by
      cases l with
      | nil => exact absurd rfl e
      | cons a r => exact z)
    obtain ⟨i1, i2⟩ := ih dl e hd'
    rw [numL_step (by omega), show (digitsVal l * 10 + (c - 48)) / 10 = digitsVal l by omega, show 48 + (digitsVal l * 10 + (c - 48)) % 10 = c by omega, i1]
    exact ⟨rfl, by omega⟩
theorem num_head (n : Nat) : 1 < (numL n).length → (numL n).head? ≠ some 48 := by
  induction n using Nat.strongRecOn with
  | _ n ih =>
    intro h
    by_cases c : n < 10
    · rw [numL_lt c] at h
      exact absurd h (by simp)
    · rw [numL_step (by omega)]
      have hh : (numL (n / 10) ++ [48 + n % 10]).head? = (numL (n / 10)).head? := by
        cases e : numL (n / 10) with
        | nil => exact absurd e (numL_ne _)
        | cons a r => rfl
      rw [hh]
      by_cases c2 : n / 10 < 10
      · rw [numL_lt c2]
        intro z
        have z2 : 48 + n / 10 = 48 := Option.some.inj z
        omega
      · refine ih (n / 10) (by omega) ?_
        rw [numL_step (by omega), List.length_append]
        have := List.length_pos_iff.mpr (numL_ne (n / 10 / 10))
        show 1 < _ + 1
        omega
/-- written again it is the very text just where it has no needless nought -/
theorem num_fig {l : List Nat} (h : AllDigits l) (ne : l ≠ []) : numL (digitsVal l) = l ↔ leadB l = false := by
  unfold leadB
  refine ⟨fun e => ?_, fun e => ?_⟩
  · by_cases c : 1 < l.length
    · have z := num_head (digitsVal l) (by rw [e]; exact c)
      rw [e] at z
      rw [decide_eq_false z]
      rfl
    · rw [decide_eq_false c, Bool.and_false]
  · by_cases c : l.head? = some 48
    · rw [decide_eq_true c, Bool.true_and, decide_eq_false_iff_not] at e
      cases l with
      | nil => exact absurd rfl ne
      | cons a r =>
        cases r with
        | nil =>
          have ea : a = 48 := Option.some.inj c
          rw [ea]
          decide
        | cons b r => exact absurd (by simp) e
    · exact (num_self l h ne c).1
theorem dv_zero {l : List Nat} (h : AllDigits l) (ne : l ≠ []) (hl : leadB l = false) : digitsVal l = 0 ↔ l = [48] := by
  have z := (num_fig h ne).mpr hl
  refine ⟨fun e => ?_, fun e => by rw [e]; decide⟩
  rw [e] at z
  rw [← z]
  decide
/-- the signs of a whole number -/
def zL (n : Int) : List Nat := if n < 0 then 45 :: numL n.natAbs else numL n.natAbs
theorem tl_int (n : Int) : tl (Str.ofString (toString n)) = zL n := by
  cases n with
  | ofNat m =>
    have z := tl_num m
    rw [show ((m : Nat) : Int) = Int.ofNat m from rfl] at z
    rw [z]
    unfold zL
    have h0 : ¬ Int.ofNat m < 0 := Int.not_lt.mpr (Int.natCast_nonneg m)
    rw [if_neg h0]
    rfl
  | negSucc m =>
    have e : toString (Int.negSucc m) = "-" ++ toString (((m + 1 : Nat) : Nat) : Int) := rfl
    rw [e, tl_ofString, String.toList_append, List.map_append, ← tl_ofString (toString (((m + 1 : Nat) : Nat) : Int)), tl_num]
    unfold zL
    rw [if_pos (by omega)]
    rfl
def ngB (l : List Nat) : Bool := decide (l.head? = some 45)
def bare (l : List Nat) : List Nat := if ngB l = true then l.tail else l
def sg (b : Bool) (n : Nat) : Int := if b = true then -(n : Int) else (n : Int)
/-- the fraction that a text writes -/
def rdL (ng : Bool) : List (Option Nat) → Option (Int × Int)
  | [some n] => if (ng && decide (n = 0)) = true then none else some (sg ng n, 1)
  | [some n, some d] => if (decide (d < 2) || decide (Nat.gcd n d ≠ 1) || (ng && decide (n = 0))) = true then none else some (sg ng n, (d : Int))
  | _ => none
def rd (l : List Nat) : Option (Int × Int) := rdL (ngB l) ((spl [47] 0 [] (bare l)).map figs)
/-- with its sign ahead -/
def lead (ng : Bool) (u : List Nat) : List Nat := if ng = true then 45 :: u else u
theorem lead_bare (l : List Nat) : lead (ngB l) (bare l) = l := by
  unfold lead bare ngB
  by_cases c : l.head? = some 45
  · rw [decide_eq_true c, if_pos rfl, if_pos rfl]
    cases l with
    | nil => cases c
    | cons a r =>
      have : a = 45 := Option.some.inj c
      rw [this]
      rfl
  · rw [decide_eq_false c]
    rfl
theorem cut47 (u : List Nat) : 47 ∉ u ∨ ∃ a b, u = a ++ 47 :: b ∧ 47 ∉ a := by
  induction u with
  | nil => exact .inl List.not_mem_nil
  | cons c r ih =>
    by_cases e : c = 47
    · exact .inr ⟨[], r, by rw [e]; rfl, List.not_mem_nil⟩
    · rcases ih with h | ⟨a, b, rfl, h⟩
      · exact .inl fun z => by
          rcases List.mem_cons.mp z with z | z
          · exact e z.symm
          · exact h z
      · refine .inr ⟨c :: a, b, rfl, fun z => ?_⟩
        rcases List.mem_cons.mp z with z | z
        · exact e z.symm
        · exact h z
theorem spl47_one {u : List Nat} (h : 47 ∉ u) : spl [47] 0 [] u = [u] := by
  have z := spl_last1 (S := []) (acc := []) h
  rw [List.nil_append] at z
  exact z
theorem spl47_cut {a b : List Nat} (h : 47 ∉ a) : spl [47] 0 [] (a ++ 47 :: b) = a :: spl [47] 0 [] b := by
  have z := spl_part1 (S := []) (acc := []) (rest := b) h
  rw [List.nil_append] at z
  exact z
theorem par47_none {u : List Nat} (h : 47 ∉ u) : par [47] [] u = none := par_none1 (S := []) h
theorem par47_cut {a b : List Nat} (h : 47 ∉ a) : par [47] [] (a ++ 47 :: b) = some (a, b) := by
  have z := par_part1 (S := []) (acc := []) (rest := b) h
  rw [List.nil_append] at z
  exact z
theorem spl_pos (u : List Nat) : 1 ≤ (spl [47] 0 [] u).length := by
  rcases cut47 u with h | ⟨a, b, rfl, h⟩
  · rw [spl47_one h]
    exact Nat.le_refl 1
  · rw [spl47_cut h]
    simp
theorem dig_no {l : List Nat} (h : AllDigits l) {c : Nat} (hc : c < 48 ∨ 57 < c) : c ∉ l := fun m => by
  have z := h c m
  omega
theorem zsg_nat {ng : Bool} {n : Nat} {u : List Nat} (hd : AllDigits u) (ne : u ≠ []) : zL (sg ng n) = lead ng u ↔ numL n = u ∧ ¬ (ng = true ∧ n = 0) := by
  cases ng with
  | false =>
    show zL (n : Int) = u ↔ _
    unfold zL
    rw [if_neg (by omega), Int.natAbs_natCast]
    exact ⟨fun e => ⟨e, fun z => Bool.noConfusion z.1⟩, fun e => e.1⟩
  | true =>
    show zL (-(n : Int)) = 45 :: u ↔ _
    unfold zL
    by_cases c : n = 0
    · subst c
      refine ⟨fun e => ?_, fun e => absurd ⟨rfl, rfl⟩ e.2⟩
      exfalso
      rw [if_neg (by decide)] at e
      have z : numL 0 = [48] := by decide
      rw [show (-((0 : Nat) : Int)).natAbs = 0 from rfl, z] at e
      have z2 := (List.cons.inj e).1
      exact absurd z2 (by decide)
    · rw [if_pos (by omega), show (-(n : Int)).natAbs = n by omega]
      exact ⟨fun e => ⟨(List.cons.inj e).2, fun z => c z.2⟩, fun e => by rw [e.1]⟩
/-- no stroke -/
theorem rd_one {l : List Nat} (h : 47 ∉ bare l) (w : wokB (bare l) = true) : (zL (sg (ngB l) (digitsVal (bare l))) = l → rd l = some (sg (ngB l) (digitsVal (bare l)), 1)) ∧ (zL (sg (ngB l) (digitsVal (bare l))) ≠ l → rd l = none) := by
  obtain ⟨w1, w2, w3⟩ := wokB_iff.mp w
  have ne : bare l ≠ [] := List.length_pos_iff.mp w1
  have er : rd l = rdL (ngB l) [figs (bare l)] := by
    unfold rd
    rw [spl47_one h]
    rfl
  have z := zsg_nat (ng := ngB l) (n := digitsVal (bare l)) w3 ne
  rw [lead_bare, num_fig w3 ne] at z
  rw [er]
  unfold figs
  rw [w, Bool.true_and]
  constructor
  · intro e
    obtain ⟨z1, z2⟩ := z.mp e
    rw [z1]
    show (if (ngB l && decide (digitsVal (bare l) = 0)) = true then none else _) = _
    rw [if_neg fun y => z2 (by rw [Bool.and_eq_true, decide_eq_true_iff] at y; exact y)]
  · intro e
    cases c : leadB (bare l) with
    | true => rfl
    | false =>
      show (if (ngB l && decide (digitsVal (bare l) = 0)) = true then none else _) = _
      rw [if_pos]
      rw [Bool.and_eq_true, decide_eq_true_iff]
      exact Classical.byContradiction fun y => e (z.mpr ⟨c, y⟩)
theorem rd_one_no {l : List Nat} (h : 47 ∉ bare l) (w : wokB (bare l) = false) : rd l = none := by
  unfold rd
  rw [spl47_one h]
  show rdL (ngB l) [figs (bare l)] = none
  unfold figs
  rw [w]
  rfl
theorem rd_two_no {l a b : List Nat} (e : bare l = a ++ 47 :: b) (h : 47 ∉ a) (w : wokB a = false ∨ wokB b = false) : rd l = none := by
  unfold rd
  rw [e, spl47_cut h]
  rcases cut47 b with hb | ⟨b1, b2, rfl, hb⟩
  · rw [spl47_one hb]
    show rdL (ngB l) [figs a, figs b] = none
    rcases w with w | w
    · unfold figs
      rw [w]
      rfl
    · unfold figs
      rw [w]
      cases (if (wokB a && !leadB a) = true then some (digitsVal a) else none) <;> rfl
  · rw [spl47_cut hb]
    have p := spl_pos b2
    cases es : spl [47] 0 [] b2 with
    | nil =>
      rw [es] at p
      exact absurd p (by decide)
    | cons x r =>
      show rdL (ngB l) (figs a :: figs b1 :: figs x :: _) = none
      cases figs a <;> cases figs b1 <;> rfl
theorem split47 {a b c d : List Nat} (ha : 47 ∉ a) (hc : 47 ∉ c) (e : a ++ 47 :: b = c ++ 47 :: d) : a = c ∧ b = d := by
  have z1 := par47_cut (b := b) ha
  rw [e, par47_cut hc] at z1
  have z2 := Option.some.inj z1
  exact ⟨(Prod.mk.inj z2).1.symm, (Prod.mk.inj z2).2.symm⟩
theorem lead_app (ng : Bool) (a b : List Nat) : lead ng (a ++ b) = lead ng a ++ b := by
  cases ng <;> rfl
theorem zL_no (n : Int) : 47 ∉ zL n := by
  unfold zL
  split
  · intro z
    rcases List.mem_cons.mp z with z | z
    · exact absurd z (by decide)
    · exact numL_free (.inl (by decide)) z
  · exact numL_free (.inl (by decide))
theorem lead_no {ng : Bool} {a : List Nat} (h : 47 ∉ a) : 47 ∉ lead ng a := by
  cases ng with
  | false => exact h
  | true =>
    intro z
    rcases List.mem_cons.mp z with z | z
    · exact absurd z (by decide)
    · exact h z
/-- how a fraction is written -/
def fL (N : Int × Int) : List Nat := if N.2 = 1 then zL N.1 else zL N.1 ++ 47 :: zL N.2
/-- a stroke -/
theorem rd_two {l a b : List Nat} (e : bare l = a ++ 47 :: b) (wa : wokB a = true) (wb : wokB b = true) {p q : Nat} (d0 : digitsVal b ≠ 0) (hp : p * Nat.gcd (digitsVal a) (digitsVal b) = digitsVal a) (hq : q * Nat.gcd (digitsVal a) (digitsVal b) = digitsVal b) :
    (fL (sg (ngB l) p, (q : Int)) = l → rd l = some (sg (ngB l) p, (q : Int))) ∧ (fL (sg (ngB l) p, (q : Int)) ≠ l → rd l = none) := by
  obtain ⟨a1, a2, a3⟩ := wokB_iff.mp wa
  obtain ⟨b1, b2, b3⟩ := wokB_iff.mp wb
  have na : a ≠ [] := List.length_pos_iff.mp a1
  have nb : b ≠ [] := List.length_pos_iff.mp b1
  have ha : 47 ∉ a := dig_no a3 (.inl (by decide))
  have hb : 47 ∉ b := dig_no b3 (.inl (by decide))
  have el : l = lead (ngB l) a ++ 47 :: b := by
    have z := lead_bare l
    rw [e, lead_app] at z
    exact z.symm
  have er : rd l = rdL (ngB l) [figs a, figs b] := by
    unfold rd
    rw [e, spl47_cut ha, spl47_one hb]
    rfl
  have g0 : 0 < Nat.gcd (digitsVal a) (digitsVal b) := Nat.gcd_pos_of_pos_right _ (by omega)
  have q0 : 0 < q := Nat.pos_of_ne_zero fun z => by
    rw [z, Nat.zero_mul] at hq
    exact d0 hq.symm
  have eqv : fL (sg (ngB l) p, (q : Int)) = l ↔ leadB a = false ∧ leadB b = false ∧ ¬ digitsVal b < 2 ∧ Nat.gcd (digitsVal a) (digitsVal b) = 1 ∧ ¬ (ngB l = true ∧ digitsVal a = 0) := by
    constructor
    · intro f
      unfold fL at f
      by_cases c : (q : Int) = 1
      · rw [if_pos c] at f
        exfalso
        have z := zL_no (sg (ngB l) p)
        have f' : zL (sg (ngB l) p) = l := f
        rw [f', el] at z
        exact z (List.mem_append_right _ List.mem_cons_self)
      · rw [if_neg c] at f
        have f' : zL (sg (ngB l) p) ++ 47 :: zL (q : Int) = lead (ngB l) a ++ 47 :: b := f.trans el
        obtain ⟨f1, f2⟩ := split47 (zL_no _) (lead_no ha) f'
        obtain ⟨f3, f4⟩ := (zsg_nat a3 na).mp f1
        have f5 : numL q = b := by
          unfold zL at f2
          rw [if_neg (by omega), Int.natAbs_natCast] at f2
          exact f2
        have v1 : p = digitsVal a := by rw [← f3, numL_val]
        have v2 : q = digitsVal b := by rw [← f5, numL_val]
        have g1 : Nat.gcd (digitsVal a) (digitsVal b) = 1 := by
          rw [← v2] at hq
          have z : q * Nat.gcd (digitsVal a) q = q * 1 := by rw [Nat.mul_one]; exact hq
          have z2 := Nat.eq_of_mul_eq_mul_left q0 z
          rw [← v2]
          exact z2
        refine ⟨(num_fig a3 na).mp (by rw [← v1]; exact f3), (num_fig b3 nb).mp (by rw [← v2]; exact f5), by omega, g1, ?_⟩
        rw [← v1]
        exact f4
    · rintro ⟨c1, c2, c3, c4, c5⟩
      rw [c4, Nat.mul_one] at hp hq
      subst hp hq
      unfold fL
      rw [if_neg (by show ¬ (digitsVal b : Int) = 1; omega)]
      show zL (sg (ngB l) (digitsVal a)) ++ 47 :: zL (digitsVal b : Int) = l
      rw [(zsg_nat a3 na).mpr ⟨(num_fig a3 na).mpr c1, c5⟩]
      have z : zL (digitsVal b : Int) = b := by
        unfold zL
        rw [if_neg (by omega), Int.natAbs_natCast]
        exact (num_fig b3 nb).mpr c2
      rw [z]
      exact el.symm
  rw [er]
  constructor
  · intro f
    obtain ⟨c1, c2, c3, c4, c5⟩ := eqv.mp f
    have hp' := hp
    have hq' := hq
    rw [c4, Nat.mul_one] at hp' hq'
    unfold figs
    rw [wa, wb, c1, c2]
    show (if (decide (digitsVal b < 2) || decide (Nat.gcd (digitsVal a) (digitsVal b) ≠ 1) || (ngB l && decide (digitsVal a = 0))) = true then none else _) = _
    rw [if_neg, hp', hq']
    rw [Bool.or_eq_true, Bool.or_eq_true, Bool.and_eq_true, decide_eq_true_iff, decide_eq_true_iff, decide_eq_true_iff]
    rintro ((z | z) | z)
    · exact c3 z
    · exact z c4
    · exact c5 z
  · intro f
    unfold figs
    rw [wa, wb]
    cases c1 : leadB a with
    | true => cases leadB b <;> rfl
    | false =>
      cases c2 : leadB b with
      | true => rfl
      | false =>
        show (if (decide (digitsVal b < 2) || decide (Nat.gcd (digitsVal a) (digitsVal b) ≠ 1) || (ngB l && decide (digitsVal a = 0))) = true then none else _) = _
        rw [if_pos]
        rw [Bool.or_eq_true, Bool.or_eq_true, Bool.and_eq_true, decide_eq_true_iff, decide_eq_true_iff, decide_eq_true_iff]
        exact Classical.byContradiction fun y => f (eqv.mpr ⟨c1, c2, fun z => y (.inl (.inl z)), Classical.byContradiction fun z => y (.inl (.inr z)), fun z => y (.inr z)⟩)
theorem rd_two_0 {l a b : List Nat} (e : bare l = a ++ 47 :: b) (h : 47 ∉ a) (wb : wokB b = true) (d0 : digitsVal b = 0) : rd l = none := by
  by_cases wa : wokB a = true
  · obtain ⟨b1, b2, b3⟩ := wokB_iff.mp wb
    unfold rd
    rw [e, spl47_cut h, spl47_one (dig_no b3 (.inl (by decide)))]
    show rdL (ngB l) [figs a, figs b] = none
    unfold figs
    rw [wa, wb]
    cases leadB a with
    | true => cases leadB b <;> rfl
    | false =>
      cases leadB b with
      | true => rfl
      | false =>
        show (if (decide (digitsVal b < 2) || decide (Nat.gcd (digitsVal a) (digitsVal b) ≠ 1) || (ngB l && decide (digitsVal a = 0))) = true then none else _) = _
        rw [if_pos]
        rw [d0]
        rfl
  · exact rd_two_no e h (.inl (Bool.eq_false_iff.mpr wa))
end SS
namespace SS
open PySem PySem.Spec PyProof.Rows L2 TL PySem.StrLaws
section
variable {X : Cx}
/-- x.rsplit(sep, k) -/
theorem mt_rsplitMax : MtR X "str.rsplit" (fun x xs H Q => ∃ (a b : Str) (k : Int), x = .str a ∧ xs = [.str b, .int k] ∧ (b.length == 0) = false ∧ -(2 ^ 63) ≤ k ∧ k < 2 ^ 63 ∧ a.length + 2 ≤ sizeLine ∧ rNewStrs (Txt.rsplitMax a b k) H Q) := by
  intro pins s σ H x xs v us Q I rx rs h
  obtain ⟨a, b, k, rfl, rfl, hb, k1, k2, hz, h⟩ := h
  obtain ⟨t, rfl⟩ := rx
  cases rs with
  | cons r1 rs =>
    cases rs with
    | cons r2 rs =>
      cases rs
      obtain ⟨u, rfl⟩ := r1
      obtain ⟨v, rfl⟩ := r2
      have e1 : decide (k < -(2 ^ 63 : Int)) = false := decide_eq_false (by omega)
      have e2 : decide (k ≥ 2 ^ 63) = false := decide_eq_false (by omega)
      have hk : (decide (k < -(2 ^ 63 : Int)) || decide (k ≥ 2 ^ 63)) = false := by rw [e1, e2, Bool.or_false]
      have hn : (Builtin.Str.partsBetween a (Builtin.Str.occurrencesFromRight a b (limitOf a k)) b.length).length ≤ sizeLine := by
        have e1 := StrLaws.occR_length_le_len a b (limitOf a k)
        rw [length_partsBetween]; omega
      have hl : (Txt.rsplitMax a b k).length ≤ sizeLine := by
        unfold Txt.rsplitMax
        split
        · show 1 ≤ sizeLine; omega
        · split
          · show 1 ≤ sizeLine; omega
          · exact hn
      cases h1 : (decide (a.length < b.length) || decide (Builtin.Str.strKind a < Builtin.Str.strKind b))
      · cases hf : (Builtin.Str.occurrencesFromRight a b (limitOf a k)).isEmpty
        · refine call_meets PySem.F.slot_str_rsplit (typeIs_str _ _ _) PySem.F.entry_str_rsplit (PySem.F.args_str_rsplit_3 _ _ _) (meets_str_rsplit_sep_max a b k t u v hk h1 hb hf (by omega) hn) ?_
          show EP X pins σ Q (.ref s.heap.objs.size) { s with toks := _, heap := s.heap.push { cls := .type "list", data := .seq (strsFrom s.toks (Builtin.Str.partsBetween a (Builtin.Str.occurrencesFromRight a b (limitOf a k)) b.length)).toArray } }
          rw [strsFrom_eq]
          exact laid_strs (ys := Txt.rsplitMax a b k) I ((numbered_texts _ _).trans ((if_neg (ne_true_of_eq_false h1)).trans (if_neg (ne_true_of_eq_false hf))).symm) hl h
        · refine call_meets PySem.F.slot_str_rsplit (typeIs_str _ _ _) PySem.F.entry_str_rsplit (PySem.F.args_str_rsplit_3 _ _ _) (meets_str_rsplit_max_not_found a b k t u v hk h1 hb hf) ?_
          exact laid_strs (l := [(a, t)]) (ys := Txt.rsplitMax a b k) (k := s.toks) I ((if_neg (ne_true_of_eq_false h1)).trans (if_pos hf)).symm hl h
      · refine call_meets PySem.F.slot_str_rsplit (typeIs_str _ _ _) PySem.F.entry_str_rsplit (PySem.F.args_str_rsplit_3 _ _ _) (meets_str_rsplit_max_cannot_occur a b k t u v hk h1) ?_
        exact laid_strs (l := [(a, t)]) (ys := Txt.rsplitMax a b k) (k := s.toks) I (if_pos h1).symm hl h
end
/-! ### what it tells -/
open Builtin.Str in
def stepR (s sub : Str) (limit : Nat) (st : Array Nat × Nat) (k : Nat) : Array Nat × Nat :=
  if (st.fst.size < limit ∧ s.length - k + sub.length ≤ st.snd) ∧ subAt s sub (s.length - k) = true then (st.fst.push (s.length - k), s.length - k) else st
theorem occR_fold (s sub : Str) (limit : Nat) : ∀ (l : List Nat) (st : Array Nat × Nat), (forIn l st (occRBody s sub limit)).run = l.foldl (stepR s sub limit) st
  | [], st => rfl
  | a :: l, st => by
    rw [List.forIn_cons, List.foldl_cons]
    unfold occRBody
    split
    · rename_i hc
      have e : stepR s sub limit st a = (st.fst.push (s.length - a), s.length - a) := if_pos hc
      rw [e]
      exact occR_fold s sub limit l _
    · rename_i hc
      have e : stepR s sub limit st a = st := if_neg hc
      rw [e]
      exact occR_fold s sub limit l _
theorem stepR_skip {s sub : Str} {limit : Nat} : ∀ (l : List Nat) (st : Array Nat × Nat), (∀ k ∈ l, Builtin.Str.subAt s sub (s.length - k) = false) → l.foldl (stepR s sub limit) st = st
  | [], _, _ => rfl
  | a :: l, st, h => by
    rw [List.foldl_cons]
    have e : stepR s sub limit st a = st := if_neg fun z => by
      rw [h a List.mem_cons_self] at z
      cases z.2
    rw [e]
    exact stepR_skip l st fun k hk => h k (List.mem_cons_of_mem _ hk)
theorem stepR_full {s sub : Str} {limit : Nat} : ∀ (l : List Nat) (st : Array Nat × Nat), limit ≤ st.fst.size → l.foldl (stepR s sub limit) st = st
  | [], _, _ => rfl
  | a :: l, st, h => by
    rw [List.foldl_cons]
    have e : stepR s sub limit st a = st := if_neg fun z => by
      have := z.1.1
      omega
    rw [e]
    exact stepR_full l st h
theorem tl_blank : tl (" " : Str) = [32] := by decide
theorem len_blank : (" " : Str).length = 1 := by decide
/-- where the blanks stand -/
theorem blank_at (x : Str) (i : Nat) : Builtin.Str.subAt x " " i = true ↔ (tl x)[i]? = some 32 := by
  have z := at_iff (x := x) (y := " ") (by rw [tl_blank]; simp) i
  rw [tl_blank] at z
  have e : pre [32] ((tl x).drop i) = true ↔ (tl x)[i]? = some 32 := by
    unfold pre
    rw [beq_iff_eq, ← List.head?_drop]
    cases (tl x).drop i with
    | nil => exact ⟨(fun z => by cases z), (fun z => by cases z)⟩
    | cons a r =>
      show (a :: r.take 0) = [32] ↔ some a = some 32
      rw [List.take_zero]
      exact ⟨fun z => by rw [(List.cons.inj z).1], fun z => by rw [Option.some.inj z]⟩
  rw [← e, ← z]
  refine ⟨fun h => ⟨?_, h⟩, fun h => h.2⟩
  have sz := subAt_size h
  rw [len_blank] at sz ⊢
  omega
theorem rsplit_three {x : Str} {a b c : List Nat} (e : tl x = a ++ 32 :: (b ++ 32 :: c)) (hb : 32 ∉ b) (hc : 32 ∉ c) : (Txt.rsplitMax x " " 2).map tl = [a, b, c] := by
  have n : x.length = a.length + b.length + c.length + 2 := by
    rw [len_tl, e, List.length_append, List.length_cons, List.length_append, List.length_cons]
    omega
  have g1 : ∀ i, i < a.length → (tl x)[i]? = a[i]? := fun i hi => by
    rw [e, List.getElem?_append_left hi]
  have g2 : (tl x)[a.length]? = some 32 := by
    rw [e, List.getElem?_append_right (Nat.le_refl _), Nat.sub_self]
    rfl
  have g3 : ∀ i, i < b.length → (tl x)[a.length + 1 + i]? = b[i]? := fun i hi => by
    rw [e, List.getElem?_append_right (by omega), show a.length + 1 + i - a.length = i + 1 by omega, List.getElem?_cons_succ, List.getElem?_append_left hi]
  have g4 : (tl x)[a.length + 1 + b.length]? = some 32 := by
    rw [e, List.getElem?_append_right (by omega), show a.length + 1 + b.length - a.length = b.length + 1 by omega, List.getElem?_cons_succ, List.getElem?_append_right (Nat.le_refl _), Nat.sub_self]
    rfl
  have g5 : ∀ i, (tl x)[a.length + 1 + b.length + 1 + i]? = c[i]? := fun i => by
    rw [e, List.getElem?_append_right (by omega), show a.length + 1 + b.length + 1 + i - a.length = (b.length + 1 + i) + 1 by omega, List.getElem?_cons_succ, List.getElem?_append_right (by omega), show b.length + 1 + i - b.length = i + 1 by omega, List.getElem?_cons_succ]
  have occ : Builtin.Str.occurrencesFromRight x " " 2 = [a.length, a.length + 1 + b.length] := by
    rw [occR_eq, occR_fold]
    have er : List.range' 0 (x.length + 1) = List.range' 0 (c.length + 1) ++ ([c.length + 1] ++ (List.range' (c.length + 2) b.length ++ ([c.length + 2 + b.length] ++ List.range' (c.length + 3 + b.length) a.length))) := by
      have r1 : [c.length + 2 + b.length] ++ List.range' (c.length + 3 + b.length) a.length = List.range' (c.length + 2 + b.length) (1 + a.length) := by
        rw [← List.range'_append_1]
        rw [show c.length + 2 + b.length + 1 = c.length + 3 + b.length by omega]
        rfl
      have r2 : [c.length + 1] ++ List.range' (c.length + 2) (b.length + (1 + a.length)) = List.range' (c.length + 1) (1 + (b.length + (1 + a.length))) := by
        exact List.range'_append_1 (s := c.length + 1) (m := 1) (n := b.length + (1 + a.length))
      rw [r1, List.range'_append_1, r2]
      have r3 := List.range'_append_1 (s := 0) (m := c.length + 1) (n := 1 + (b.length + (1 + a.length)))
      rw [Nat.zero_add] at r3
      rw [r3, n]
      congr 1
      omega
    rw [er, List.foldl_append, stepR_skip (List.range' 0 (c.length + 1)), List.foldl_append]
    · have s1 : [c.length + 1].foldl (stepR x " " 2) (#[], x.length) = (#[a.length + 1 + b.length], a.length + 1 + b.length) := by
        show stepR x " " 2 (#[], x.length) (c.length + 1) = _
        have ei : x.length - (c.length + 1) = a.length + 1 + b.length := by omega
        unfold stepR
        rw [ei, len_blank]
        rw [if_pos ⟨⟨by show 0 < 2; decide, by show a.length + 1 + b.length + 1 ≤ x.length; omega⟩, (blank_at x _).mpr g4⟩]
        rfl
      rw [s1, List.foldl_append, stepR_skip (List.range' (c.length + 2) b.length), List.foldl_append]
      · have s2 : [c.length + 2 + b.length].foldl (stepR x " " 2) (#[a.length + 1 + b.length], a.length + 1 + b.length) = (#[a.length + 1 + b.length, a.length], a.length) := by
          show stepR x " " 2 (#[a.length + 1 + b.length], a.length + 1 + b.length) (c.length + 2 + b.length) = _
          have ei : x.length - (c.length + 2 + b.length) = a.length := by omega
          unfold stepR
          rw [ei, len_blank]
          rw [if_pos ⟨⟨by show 1 < 2; decide, by show a.length + 1 ≤ a.length + 1 + b.length; omega⟩, (blank_at x _).mpr g2⟩]
          rfl
        rw [s2, stepR_full _ _ (Nat.le_refl 2)]
        rfl
      · intro k hk
        rw [List.mem_range'_1] at hk
        obtain ⟨j, hj, ej⟩ : ∃ j, j < b.length ∧ x.length - k = a.length + 1 + j := ⟨b.length - 1 - (k - (c.length + 2)), by omega, by omega⟩
        refine Bool.eq_false_iff.mpr fun z => ?_
        have z2 := (blank_at x _).mp z
        rw [ej, g3 j hj] at z2
        exact hb (List.mem_of_getElem? z2)
    · intro k hk
      rw [List.mem_range'_1] at hk
      obtain ⟨j, ej⟩ : ∃ j, x.length - k = a.length + 1 + b.length + 1 + j := ⟨c.length - k, by omega⟩
      refine Bool.eq_false_iff.mpr fun z => ?_
      have z2 := (blank_at x _).mp z
      rw [ej, g5 j] at z2
      exact hc (List.mem_of_getElem? z2)
  unfold Txt.rsplitMax
  have el : limitOf x 2 = 2 := rfl
  rw [if_neg, el, occ, if_neg (by simp), partsBetween_eq]
  · show [tl (Builtin.Str.strSub x 0 a.length), tl (Builtin.Str.strSub x (a.length + 1) (a.length + 1 + b.length)), tl (Builtin.Str.strSub x (a.length + 1 + b.length + 1) x.length)] = [a, b, c]
    rw [tl_strSub, tl_strSub, tl_strSub_end]
    congr 1
    · rw [List.drop_zero, Nat.sub_zero, e, List.take_left]
    · congr 1
      · rw [e, show a.length + 1 = a.length + 1 from rfl, List.drop_append, List.drop_of_length_le (by omega), show a.length + 1 - a.length = 1 by omega]
        show (([] : List Nat) ++ (b ++ 32 :: c)).take _ = b
        rw [List.nil_append, show a.length + 1 + b.length - (a.length + 1) = b.length by omega, List.take_left]
      · congr 1
        rw [e, show a.length + 1 + b.length + 1 = (a ++ 32 :: (b ++ [32])).length by simp; omega]
        rw [show a ++ 32 :: (b ++ 32 :: c) = (a ++ 32 :: (b ++ [32])) ++ c by simp, List.drop_left]
  · rw [decide_eq_false (show ¬ x.length < (" " : Str).length by rw [len_blank]; omega), decide_eq_false (kind_ok (by decide +kernel))]
    decide
end SS
namespace SiI
open PySem PySem.Spec PyProof.Rows L2 L2.DX
/-! ### tuples that are their items and no more: locked, with no dict of their own -/
def Fz (H : Hp) (a : Addr) (xs : List V) : Prop := ∃ o, H a = some (.frz o (.tup xs)) ∧ o.dict = none
theorem Fz.sq {K : PySem.W.Frag} {H : Hp} {a : Addr} {xs : List V} (h : Fz H a xs) : SqT K H a xs := by
  obtain ⟨o, e, _⟩ := h
  exact .inl (.inr ⟨o, e⟩)
theorem Fz.new {H : Hp} {a : Addr} {xs : List V} {o : Obj} (h : o.dict = none) : Fz (upd H a (.frz o (.tup xs))) a xs := ⟨o, upd_same, h⟩
theorem eqB_same {prog : Program} {w : World} {A : Around} {E : Value → Shared → Prop} {s : Shared} {a : Addr} {Q : Bool → Shared → Prop} (h : Q true s) : wpAny (model prog w) A (eqBool (.ref a) (.ref a)) Q E s := by
  unfold eqBool
  refine wpAny_holding ?_
  refine wpAny_ite_split (fun _ => wpAny_bind (wpAny_rule (wpAny_pure h))) (fun hn => absurd (beq_self_eq_true (Value.ref a)) hn)
/-! ### a rank of texts -/
def rkS (l : List Str) (x : Str) : Int := (l.countP fun y => ltCps y.cps.toList x.cps.toList : Nat)
theorem countP_lt {α : Type} {p q : α → Bool} : ∀ (l : List α), (∀ z ∈ l, p z = true → q z = true) → (∃ x ∈ l, q x = true ∧ p x = false) → l.countP p < l.countP q
  | [], _, h => by
    obtain ⟨_, h, _⟩ := h
    cases h
  | z :: l, h1, h2 => by
    have le : l.countP p ≤ l.countP q := List.countP_mono_left fun x hx e => h1 x (List.mem_cons_of_mem _ hx) e
    rw [List.countP_cons, List.countP_cons]
    obtain ⟨x, hx, e1, e2⟩ := h2
    rcases List.mem_cons.mp hx with rfl | hx
    · rw [e1, e2]
      simp
      omega
    · have ih := countP_lt l (fun z hz => h1 z (List.mem_cons_of_mem _ hz)) ⟨x, hx, e1, e2⟩
      have hz := h1 z (List.mem_cons_self ..)
      cases ep : p z with
      | true =>
        rw [hz ep]
        simp
        exact ih
      | false =>
        cases eq : q z <;> simp <;> omega
theorem lt_mono {a b c : List Nat} (h1 : ltCps a b = true) (h2 : ltCps c b = false) : ltCps a c = true := by
  cases e : ltCps a c with
  | true => rfl
  | false =>
    rw [SS.nltT b c a h2 e] at h1
    cases h1
theorem rk_lt {l : List Str} {x y : Str} (hx : x ∈ l) (h : ltCps x.cps.toList y.cps.toList = true) : rkS l x < rkS l y := by
  have z := countP_lt (p := fun z : Str => ltCps z.cps.toList x.cps.toList) (q := fun z : Str => ltCps z.cps.toList y.cps.toList) l (fun z _ e => lt_mono e (SS.ltNot _ _ h)) ⟨x, hx, h, SS.ltIrr _⟩
  unfold rkS
  exact Int.ofNat_lt.mpr z
theorem rk_le {l : List Str} {x y : Str} (h : ltCps x.cps.toList y.cps.toList = false) : rkS l y ≤ rkS l x := by
  have z := List.countP_mono_left (l := l) (p := fun z : Str => ltCps z.cps.toList y.cps.toList) (q := fun z : Str => ltCps z.cps.toList x.cps.toList) fun z _ e => lt_mono e h
  unfold rkS
  exact Int.ofNat_le.mpr z
theorem rk_dec {l : List Str} {x y : Str} (hx : x ∈ l) : decide (x.cps.toList < y.cps.toList) = decide (rkS l x < rkS l y) := by
  rw [lt_meets]
  cases e : ltCps x.cps.toList y.cps.toList with
  | true => exact (decide_eq_true (rk_lt hx e)).symm
  | false =>
    have := rk_le (l := l) e
    exact (decide_eq_false (by omega)).symm
theorem rk_leS {l : List Str} {x y : Str} (hy : y ∈ l) (h : rkS l x ≤ rkS l y) : SS.leS x y := by
  show ltCps y.cps.toList x.cps.toList = false
  cases e : ltCps y.cps.toList x.cps.toList with
  | false => rfl
  | true =>
    have := rk_lt (l := l) hy e
    omega
/-! ### the sort of pairs (text, object), told by addresses -/
abbrev vrf (z : Addr × Str × Addr) : Value := .ref z.1
/-- the text of the pair at an address -/
def txAt (zs : List (Addr × Str × Addr)) (v : Value) : Str := match v with
  | .ref a => ((zs.find? fun z => decide (z.1 = a)).map (·.2.1)).getD Str.empty
  | _ => Str.empty
theorem find_one {α β : Type} [DecidableEq β] (f : α → β) : ∀ {l : List α}, (l.map f).Nodup → ∀ z ∈ l, (l.find? fun y => decide (f y = f z)) = some z
  | [], _, z, h => by cases h
  | y :: l, nd, z, h => by
    rw [List.map_cons, List.nodup_cons] at nd
    rcases List.mem_cons.mp h with rfl | h
    · rw [List.find?_cons_of_pos (by simp)]
    · have ne : f y ≠ f z := fun e => nd.1 (by rw [e]; exact List.mem_map.mpr ⟨z, h, rfl⟩)
      rw [List.find?_cons_of_neg (by simpa using ne)]
      exact find_one f nd.2 z h
theorem txAt_of {zs : List (Addr × Str × Addr)} (nd : (zs.map (·.1)).Nodup) {z : Addr × Str × Addr} (h : z ∈ zs) : txAt zs (vrf z) = z.2.1 := by
  show ((zs.find? fun y => decide (y.1 = z.1)).map (·.2.1)).getD Str.empty = z.2.1
  rw [find_one (·.1) nd z h]
  rfl
/-- what stands at each address -/
def Here (h : Heap) (zs : List (Addr × Str × Addr)) : Prop := ∀ z ∈ zs, ∃ t, IsTup h z.1 #[.str z.2.1 t, .ref z.2.2]
section
open PySem.W
variable {prog : Program} {w : World} {A : Around} {E : Value → Shared → Prop} {s : Shared}
theorem firsts_s {h : Heap} : ∀ zs : List (Addr × Str × Addr), Here h zs → ∃ fs : List Value, KatTups h (zs.map vrf) fs ∧ fs.length = zs.length ∧ ∀ f ∈ fs, ∃ (y : Str) (t : Tok), f = Value.str y t
  | [], _ => ⟨[], KatTups.nil, rfl, fun f hf => nomatch hf⟩
  | z :: zs, x => by
    obtain ⟨fs, k, hl, hi⟩ := firsts_s zs fun u hu => x u (List.mem_cons_of_mem _ hu)
    obtain ⟨t, o, ho, hc, n, hd⟩ := x z (List.mem_cons_self ..)
    refine ⟨.str z.2.1 t :: fs, KatTups.cons ho hc hd rfl k, congrArg (· + 1) hl, fun f hf => ?_⟩
    rcases List.mem_cons.mp hf with e | e
    · exact ⟨_, t, e⟩
    · exact hi f e
/-- two pairs compared -/
theorem cmp_s {zs : List (Addr × Str × Addr)} (H : Here s.heap zs) (ndk : (zs.map (·.2.1)).Nodup) {z y : Addr × Str × Addr} (hz : z ∈ zs) (hy : y ∈ zs) {Q : Bool → Shared → Prop} (h : Q (decide (z.2.1.cps.toList < y.2.1.cps.toList)) s) :
    wpAny (model prog w) A (keyLt' (tuples' true) (vrf z) (vrf y)) Q E s := by
  obtain ⟨t, o, ho, hc, n, hd⟩ := H z hz
  obtain ⟨t', o', ho', hc', n', hd'⟩ := H y hy
  refine kat_lt ho hd ho' hd' ?_
  show KatLex prog w A true false Q [(Value.str z.2.1 t, Value.str y.2.1 t'), (Value.ref z.2.2, Value.ref y.2.2)] 0 s
  refine kat_cons (eqBool_str ?_)
  by_cases e : z.2.1 = y.2.1
  · have e' : z = y := by
      have q1 := find_one (·.2.1) ndk z hz
      have q2 := find_one (·.2.1) ndk y hy
      rw [e] at q1
      exact Option.some.inj (q1.symm.trans q2)
    rw [show (z.2.1 == y.2.1) = true from beq_iff_eq.mpr e]
    rw [e', decide_eq_false (List.lt_irrefl _)] at h
    rw [e']
    exact kat_yes (kat_cons (eqB_same (kat_yes (kat_nil h))))
  · rw [show (z.2.1 == y.2.1) = false from beq_eq_false_iff_ne.mpr e]
    refine kat_no ?_
    show wpAny _ _ (oneLt' true _ _) _ _ _
    exact oneLt_str h
theorem mem_vrf {zs : List (Addr × Str × Addr)} {p : Value × Value} (h : p ∈ (pairsOf (zs.map vrf)).toList) : ∃ z ∈ zs, p.1 = vrf z := by
  rw [pairsOf_toList] at h
  obtain ⟨z, hz, e⟩ := List.mem_map.mp (mem_zip_self h).2
  exact ⟨z, hz, e.symm⟩
theorem sort_raw {l : Addr} {zs : List (Addr × Str × Addr)} {Q : Value → Shared → Prop} (ho : s.heap.get? l = some (seqObj "list" (zs.map vrf).toArray 0)) (h64 : zs.length < 64) (nd : (zs.map (·.1)).Nodup) (ndk : (zs.map (·.2.1)).Nodup)
    (H : Here s.heap zs) (nl : ∀ z ∈ zs, z.1 ≠ l)
    (h : ∀ (ys : List (Addr × Str × Addr)) (out : Array Value), out.toList = ys.map vrf → ys.Perm zs → (ys.map (·.2.1)).Pairwise SS.leS → Q .none { s with heap := sortedHeap s.heap l (zs.map vrf) out }) :
    wpAny (model prog w) A (call (.builtin "list.sort") [.ref l]) Q E s := by
  have Hm : Here (TS.midHeap s.heap l (zs.map vrf)) zs := fun z hz => by
    obtain ⟨t, o, ho, r⟩ := H z hz
    exact ⟨t, o, TS.midHeap_old (nl z hz) ho, r⟩
  refine wpAny_call_entry slot_list_sort ⟨_, ho, rfl⟩ entry_list_sort (SK.plain_sort (r := fun v => rkS (zs.map (·.2.1)) (txAt zs v)) ho (by rw [List.length_map]; exact h64) (fun h2 Qk hQk => ?_) fun ps out o1 o2 o3 => ⟨.none, rfl, ?_⟩) (args_list_sort _)
  · obtain ⟨fs, k, hl, hi⟩ := firsts_s zs Hm
    rw [List.length_map] at h2
    refine kat_kind (T := Value.type "str") k (by omega) (fun f hf => ?_) rfl (hQk _ fun p q hp hq Q' E' hQ => ?_)
    · obtain ⟨y, t, rfl⟩ := hi f hf
      show PySem.W.Looks (model prog w) _ (pure (Value.type "str")) (Value.type "str")
      exact .now
    · obtain ⟨z, hz, e1⟩ := mem_vrf hp
      obtain ⟨y, hy, e2⟩ := mem_vrf hq
      have hQ' : Q' (decide (rkS (zs.map (·.2.1)) (txAt zs p.1) < rkS (zs.map (·.2.1)) (txAt zs q.1))) { s with heap := TS.midHeap s.heap l (zs.map vrf) } := hQ
      rw [e1, e2, txAt_of nd hz, txAt_of nd hy, ← rk_dec (List.mem_map.mpr ⟨z, hz, rfl⟩)] at hQ'
      rw [e1, e2]
      have hb : (Value.type "str" != Value.type "tuple") = true := by first | rfl | decide | simp
      rw [hb]
      exact cmp_s (s := { s with heap := TS.midHeap s.heap l (zs.map vrf) }) Hm ndk hz hy hQ'
  · have ez : zs.map (fun z => (vrf z, vrf z)) = (zs.map vrf).zip (zs.map vrf) := by rw [List.zip_map', ]
    obtain ⟨ys, pz, ey⟩ := perm_lift (fun z => (vrf z, vrf z)) o2 zs ez
    refine h ys out ?_ pz ?_
    · rw [o1, ← ey, List.map_map]
      all_goals rfl
    · rw [← ey, List.pairwise_map] at o3
      rw [List.pairwise_map]
      refine List.Pairwise.imp_of_mem (fun {x y} hx hy q => ?_) o3
      have q' : rkS (zs.map (·.2.1)) (txAt zs (vrf x)) ≤ rkS (zs.map (·.2.1)) (txAt zs (vrf y)) := q
      rw [txAt_of nd (pz.mem_iff.mp hx), txAt_of nd (pz.mem_iff.mp hy)] at q'
      exact rk_leS (List.mem_map.mpr ⟨y, pz.mem_iff.mp hy, rfl⟩) q'
theorem sortedK {r d : Addr} {K : Type} [DecidableEq K] {knd : PySem.KeyKind prog w K} {kvs : List (K × Value)} {ep : Nat} {Q : Value → Shared → Prop} (hh : A.handled = none) (hv : s.heap.IsItemsView r d) (hm : s.heap.DictAt knd d kvs ep) (hn : kvs.length ≤ sizeLine)
    (h : ∀ (h' : Heap) (tk : Nat) (as : List Addr), (∀ b o, s.heap.get? b = some o → h'.get? b = some o) → as.length = kvs.length → KdxG knd kvs s.heap.objs.size h' as →
      wpAny (model prog w) A.in1 (call (.builtin "list.sort") [.ref h'.objs.size]) (fun _ s' => Q (.ref h'.objs.size) s') E { s with heap := h'.push { cls := .type "list", data := .seq (as.map Value.ref).toArray }, toks := tk }) :
    wpAny (model prog w) A (call (.builtin "sorted") [.ref r]) Q E s := by
  refine Calls.call_function_entry kind_sorted plain_sorted entry_sorted (args_sorted1 _) ?_
  unfold Builtin.«sorted»
  refine wpAny_bind (m := checkCount "sorted" 1 1 _) (wpAny_pure ?_)
  refine wpAny_bind (PySem.W.kdx_collect (A := A.in1) hh hv hm hn fun h' tk as hk hl hG => ?_)
  refine wpAny_bind (wpAny_newList ?_ (by rw [List.length_map, hl]; exact hn))
  have hg := h h' tk as hk hl hG
  refine wpAny_bind (wpAny_holding (wpAny_mono hg (fun _ s' x => ?_) fun _ _ e => e))
  exact wpAny_pure ⟨_, rfl, x⟩
end
/-! ### by values -/
section
variable {X : Cx}
def entK (e : Str × Addr) : L2.Key × V := (Sum.inr e.1, V.ref e.2)
/-- d.items() -/
def rItemsK : V → List V → Hp → VK → Prop := fun x xs H Q => ∃ (a : Addr) (kvs : List (L2.Key × V)), x = .ref a ∧ xs = [] ∧ H a = some (.dK kvs) ∧ ∀ p, H p = none → Q (.ref p) (upd H p (itemsO p a))
theorem mt_itemsK : MtR X "dict.items" rItemsK := by
  intro pins s σ H x xs v us Q I rx rxs h
  obtain ⟨a, kvs, rfl, rfl, ha, q⟩ := h
  cases rx
  cases rxs
  obtain ⟨z, hd, xs', rel, o, es, ep, ho, hx, hdat, _⟩ := dk_of I.hok ha
  refine DT.callItems (es := es) (ep := ep) hd ⟨o, ho, hx, hdat⟩ ?_
  have hf : H s.heap.objs.size = none := I.hok.fresh (Nat.le_refl _)
  exact ⟨.ref s.heap.objs.size, upd H s.heap.objs.size (itemsO s.heap.objs.size a), I.laid (t' := s.toks) (fun b u e => Heap.get?_push_of_some _ e) (Nat.le_refl _) (itemsO_ok (Heap.get?_push_size _ rfl)), rfl, q _ hf⟩
/-- sorted(d.items()), the keys texts, the values objects -/
def rSortItK : List V → Hp → VK → Prop := fun vs H Q => ∃ (p a : Addr) (ks : List (Str × Addr)), vs = [.ref p] ∧ H p = some (itemsO p a) ∧ H a = some (.dK (ks.map entK)) ∧ ks.length < 64 ∧ (ks.map (·.1)).Nodup ∧
  ∀ (H' : Hp) (l : Addr) (ps : List (Addr × Str × Addr)), (∀ b o, H b = some o → H' b = some o) → (ps.map (·.2)).Perm ks → (ps.map (·.2.1)).Pairwise SS.leS → H' l = some (.lst (ps.map fun z => V.ref z.1)) →
    (∀ z ∈ ps, H' z.1 = some (.tup [.str z.2.1, .ref z.2.2])) → Q (.ref l) H'
theorem small2' : 2 ≤ sizeLine := by decide
theorem pairs_at {P : Program} {w : World} {h' : Heap} {lo : Addr} {as : List Addr} {ks : List (Str × Addr)} {vs : List (L2.Key × Value)} (rel : KV (ks.map entK) vs) (hG : PySem.W.KdxG (mixKind P w) vs lo h' as) (j : Nat) (b : Addr) (hj : as[j]? = some b) :
    ∃ (e : Str × Addr) (t : Tok), ks[j]? = some e ∧ h'.get? b = some { cls := .type "tuple", data := .seq #[Value.str e.1 t, Value.ref e.2] } := by
  obtain ⟨key, k, x, hx, hk', hg⟩ := hG.pairs j b hj
  obtain ⟨e0, he0, r1, r2⟩ := pget rel hx
  rw [List.getElem?_map] at he0
  cases hkj : ks[j]? with
  | none =>
    rw [hkj] at he0
    exact nomatch (show (none : Option (L2.Key × V)) = some e0 from he0)
  | some e =>
    rw [hkj] at he0
    have ee : entK e = e0 := Option.some.inj he0
    rw [← ee] at r1 r2
    have r1' : Sum.inr e.1 = k := r1
    have r2' : x = Value.ref e.2 := r2
    rw [← r1'] at hk'
    obtain ⟨t, ek⟩ := Value.isStrOf_shape (x := e.1) (v := key) hk'
    refine ⟨e, t, rfl, ?_⟩
    rw [hg, ek, r2']
/-- the pairs of a dict with texts as keys and objects as values, laid -/
theorem zip_at {P : Program} {w : World} {h' : Heap} {lo : Addr} {as : List Addr} {ks : List (Str × Addr)} {vs : List (L2.Key × Value)} (rel : KV (ks.map entK) vs) (hG : PySem.W.KdxG (mixKind P w) vs lo h' as) : Here h' (as.zip ks) := fun z hz => by
  obtain ⟨j, hj⟩ := List.mem_iff_getElem?.mp hz
  obtain ⟨j1, j2⟩ := List.getElem?_zip_eq_some.mp hj
  obtain ⟨e, t, he, hg⟩ := pairs_at rel hG j z.1 j1
  have ee : e = z.2 := Option.some.inj (he.symm.trans j2)
  rw [ee] at hg
  exact ⟨t, _, hg, rfl, 0, rfl⟩
/-- tuples that were laid since are tracked, pair by pair -/
theorem track {pins : List (Addr × Obj)} {σ : L2.St} {H0 H1 : Hp} {s : Shared} {h' : Heap} {tk : Nat} (I0 : Inv X pins σ H0 s) (I1 : Inv X pins σ H1 { s with heap := h', toks := tk }) {zs : List (Addr × Str × Addr)} (nd : (zs.map (·.1)).Nodup)
    (H : Here h' zs) (hz : ∀ z ∈ zs, s.heap.objs.size ≤ z.1 ∧ H1 z.1 = none) : ∃ H2, Inv X pins σ H2 { s with heap := h', toks := tk } ∧ (∀ b o, H1 b = some o → H2 b = some o) ∧ ∀ z ∈ zs, H2 z.1 = some (.tup [.str z.2.1, .ref z.2.2]) := by
  obtain ⟨H2, I2, g, q⟩ := takeT (P := fun b vs => ∃ z ∈ zs, z.1 = b ∧ vs = [.str z.2.1, .ref z.2.2]) I0 (zs.map (·.1)) H1 I1 nd fun b hb => by
    obtain ⟨z, m, rfl⟩ := List.mem_map.mp hb
    obtain ⟨t, tp⟩ := H z m
    exact ⟨(hz z m).1, (hz z m).2, _, ⟨z, m, rfl, rfl⟩, fun H3 => ⟨small2', [.str z.2.1 t, .ref z.2.2], .cons ⟨t, rfl⟩ (.cons rfl .nil), tp⟩⟩
  refine ⟨H2, I2, g, fun z m => ?_⟩
  obtain ⟨vs, ⟨y, my, e, rfl⟩, hH⟩ := q z.1 (List.mem_map.mpr ⟨z, m, rfl⟩)
  have q1 := find_one (·.1) nd z m
  have q2 := find_one (·.1) nd y my
  rw [e] at q2
  obtain rfl := Option.some.inj (q1.symm.trans q2)
  exact hH
theorem cr_sortedItemsK (hc : X.calm = true) : CallR X (.builtin "sorted") rSortItK := by
  intro pins s σ H xs us Q I r h
  obtain ⟨p, a, ks, rfl, hp, ha, h64, hnd, q⟩ := h
  obtain rfl := Vals.ref1 r
  obtain ⟨z, _, vs, rel, dd⟩ := dk_of I.hok ha
  obtain ⟨ep, hat⟩ := dd.dictAt
  have l1 := Paired.length rel
  rw [List.length_map] at l1
  refine sortedK (knd := mixKind X.prog X.w) (kvs := vs) (ep := ep) (I.ok.hd hc) (I.hok p _ hp).1 hat (by rw [sizeLine_eq]; omega) fun h' tk as hk hl hG => ?_
  have m1 : (as.zip ks).map (·.1) = as := List.map_fst_zip (by omega)
  have m2 : (as.zip ks).map (·.2) = ks := List.map_snd_zip (by omega)
  have m3 : (as.zip ks).map (·.2.1) = ks.map (·.1) := by rw [← m2, List.map_map, m2]; rfl
  have m4 : (as.zip ks).map vrf = as.map Value.ref := by
    have e : (as.zip ks).map vrf = ((as.zip ks).map (·.1)).map Value.ref := by rw [List.map_map]; rfl
    rw [e, m1]
  have at' := zip_at rel hG
  have up : ∀ z ∈ as.zip ks, s.heap.objs.size < z.1 := fun z hz => hG.above _ (List.of_mem_zip hz).1
  have len : (as.zip ks).length = ks.length := by rw [List.length_zip]; omega
  have nd1 : ((as.zip ks).map (·.1)).Nodup := by rw [m1]; exact List.Pairwise.imp Nat.ne_of_lt hG.rise
  rw [← m4]
  generalize as.zip ks = zs at *
  have I' : Inv X pins σ H { s with heap := h', toks := tk } := I.kept hk
  have lt' : ∀ {b : Addr} {o : Obj}, h'.get? b = some o → b ≠ h'.objs.size := fun e => Nat.ne_of_lt (Heap.lt_size e)
  have pu : ∀ {b : Addr} {o : Obj}, h'.get? b = some o → (h'.push { cls := .type "list", data := .seq (zs.map vrf).toArray }).get? b = some o := fun e => Heap.get?_push_of_some _ e
  refine sort_raw (s := { s with heap := h'.push { cls := .type "list", data := .seq (zs.map vrf).toArray }, toks := tk }) (Heap.get?_push_size _ rfl) (by rw [len]; exact h64) nd1 (by rw [m3]; exact hnd) (fun z hz => ?_) (fun z hz => ?_) fun ys out ho py so => ?_
  · obtain ⟨t, o, e, r⟩ := at' z hz
    exact ⟨t, o, pu e, r⟩
  · obtain ⟨t, o, e, r⟩ := at' z hz
    exact lt' e
  · have kS : ∀ b o, h'.get? b = some o → (sortedHeap (h'.push { cls := .type "list", data := .seq (zs.map vrf).toArray }) h'.objs.size (zs.map vrf) out).get? b = some o := fun b o e => (sortedHeap_old (lt' e) (Heap.lt_size (pu e))).trans (pu e)
    have hob : (h'.push { cls := .type "list", data := .seq (zs.map vrf).toArray }).get? h'.objs.size = some (seqObj "list" (zs.map vrf).toArray 0) := Heap.get?_push_size _ rfl
    obtain ⟨eF, heF⟩ := sortedHeap_at (vs := zs.map vrf) (out := out) hob
    have rv : Vals (ys.map fun z => V.ref z.1) out.toList := by
      rw [ho]
      exact vals_maps (fun z : Addr × Str × Addr => V.ref z.1) vrf ys fun _ _ => rfl
    have ly := py.length_eq
    have I2 := I'.laid (h' := sortedHeap (h'.push { cls := .type "list", data := .seq (zs.map vrf).toArray }) h'.objs.size (zs.map vrf) out) (t' := tk) (o := .lst (ys.map fun z => V.ref z.1)) kS (Nat.le_refl _) ⟨by rw [List.length_map, sizeLine_eq]; omega, out.toList, eF, rv, heF⟩
    have hn0 : H h'.objs.size = none := I'.hok.fresh (Nat.le_refl _)
    obtain ⟨H2, I3, g, qt⟩ := track I I2 (zs := zs) nd1 (fun z hz => by obtain ⟨t, o, e, r⟩ := at' z hz; exact ⟨t, o, kS _ _ e, r⟩) fun z hz => by
      obtain ⟨t, o, e, r⟩ := at' z hz
      exact ⟨Nat.le_of_lt (up z hz), by rw [upd_ne (lt' e)]; exact I.hok.fresh (Nat.le_of_lt (up z hz))⟩
    have p2 := py.map (·.2)
    rw [m2] at p2
    exact ⟨.ref h'.objs.size, H2, I3, rfl, q H2 h'.objs.size ys (fun b o e => g b o (by rw [upd_ne (ne_of_none e hn0)]; exact e)) p2 so (g _ _ upd_same) fun z hz => qt z (py.mem_iff.mp hz)⟩
end
end SiI
namespace SiI
open PySem PySem.Spec PyProof.Rows L2 L2.DX
section
variable {prog : Program} {w : World} {A : Around} {E : Value → Shared → Prop} {s : Shared} {r d : Addr} {K : Type} [DecidableEq K] {knd : PySem.KeyKind prog w K} {kvs : List (K × Value)} {ep : Nat}
theorem code_tuple_items {Q₁ : Value → Shared → Prop} (hh : A.handled = none) (hv : s.heap.IsItemsView r d) (hm : s.heap.DictAt knd d kvs ep) (hn : kvs.length ≤ sizeLine)
    (h : ∀ (h' : Heap) (tk : Nat) (as : List Addr), (∀ b o, s.heap.get? b = some o → h'.get? b = some o) → as.length = kvs.length → PySem.W.KdxG knd kvs s.heap.objs.size h' as →
      Q₁ (.ref h'.objs.size) { s with heap := h'.push { cls := .type "tuple", data := .seq (as.map Value.ref).toArray }, toks := tk }) :
    codeAny (model prog w) A (.call (.builtin "tuple.__new__") ⟨[.type "tuple", .ref r], []⟩) (wants Q₁ E) s := by
  refine codeAny_of_tree ?_
  show wpAny _ A.in1 (do checkBuiltinCall "tuple.__new__" ⟨[.type "tuple", .ref r], []⟩; again (.builtin "tuple.__new__" ⟨[.type "tuple", .ref r], []⟩)) _ _ s
  refine wpAny_bind (wpAny_of_eq (F.newCall_tuple_1 _) (wpAny_pure ⟨plainId_quiet F.plain_tuple_new _, codeAny_builtin F.entry_tuple_new ?_⟩))
  rw [Around.under_plainId F.plain_tuple_new _]
  have hsub := sub_tuple_self
  have hinit := init_tuple_lookup
  have hmh := madeHere_tuple
  have hTI : s.TypeIs (.ref r) "dict_items" := let ⟨o, ho, hc, _⟩ := hv; ⟨o, ho, hc⟩
  have hh1 : A.in1.handled = none := hh
  wp_walk using wpAny_typeOf hTI, PySem.W.kdx_collect (A := A.in1) hh1 hv hm hn
  intro h' tk as hk hl hG
  show wpAny _ _ (Builtin.Tuple.tupleExact (as.map Value.ref).toArray >>= fun v => ret v) _ _ _
  unfold Builtin.Tuple.tupleExact
  refine wpAny_bind (wpAny_newObj_type ?_ (by show (as.map Value.ref).toArray.size ≤ sizeLine; simp only [List.size_toArray, List.length_map]; omega))
  refine wpAny_pure ?_
  exact h h' tk as hk hl hG
theorem call_tup_items {Q : Value → Shared → Prop} (hh : A.handled = none) (hv : s.heap.IsItemsView r d) (hm : s.heap.DictAt knd d kvs ep) (hn : kvs.length ≤ sizeLine)
    (hQ : ∀ (h' : Heap) (tk : Nat) (as : List Addr), (∀ b o, s.heap.get? b = some o → h'.get? b = some o) → as.length = kvs.length → PySem.W.KdxG knd kvs s.heap.objs.size h' as →
      Q (.ref h'.objs.size) { s with heap := h'.push { cls := .type "tuple", data := .seq (as.map Value.ref).toArray }, toks := tk }) :
    wpAny (model prog w) A (call (.type "tuple") [.ref r]) Q E s := by
  refine callType_codes (Q₁ := fun obj s₁ => s₁.TypeIs obj "tuple" ∧ Q obj s₁) F.called_tuple (F.typeCall_tuple_1 _) F.entry_object_init
    (code_tuple_items (A := A.in1) hh hv hm hn fun h' tk as hk hl hG => ⟨⟨_, Heap.get?_push_size _ rfl, rfl⟩, hQ h' tk as hk hl hG⟩) fun obj s₁ h₁ => ?_
  exact ⟨h₁.1, F.args_object_init_2 obj _, object_init_meets F.called_tuple.init.lookup F.called_tuple.made (by decide) prog w A.in1 _ s₁ ⟨h₁.1, rfl, h₁.2⟩⟩
end
section
variable {X : Cx}
theorem vals_rf : ∀ as : List Addr, Vals (as.map V.ref) (as.map Value.ref)
  | [] => .nil
  | _ :: as => .cons rfl (vals_rf as)
/-- tuple(d.items()), the keys texts, the values objects -/
def rTupIt : List V → Hp → VK → Prop := fun vs H Q => ∃ (p a : Addr) (ks : List (Str × Addr)), vs = [.ref p] ∧ H p = some (itemsO p a) ∧ H a = some (.dK (ks.map entK)) ∧
  ∀ (H' : Hp) (l : Addr) (ps : List (Addr × Str × Addr)), (∀ b o, H b = some o → H' b = some o) → ps.map (·.2) = ks → Fz H' l (ps.map fun z => V.ref z.1) →
    (∀ z ∈ ps, H' z.1 = some (.tup [.str z.2.1, .ref z.2.2])) → Q (.ref l) H'
theorem cr_tupIt (hc : X.calm = true) : CallR X (.type "tuple") rTupIt := by
  intro pins s σ H xs us Q I r h
  obtain ⟨p, a, ks, rfl, hp, ha, q⟩ := h
  obtain rfl := Vals.ref1 r
  obtain ⟨z, _, vs, rel, dd⟩ := dk_of I.hok ha
  obtain ⟨ep, hat⟩ := dd.dictAt
  have l1 := Paired.length rel
  rw [List.length_map] at l1 z
  refine call_tup_items (knd := mixKind X.prog X.w) (kvs := vs) (ep := ep) (I.ok.hd hc) (I.hok p _ hp).1 hat (by omega) fun h' tk as hk hl hG => ?_
  have m1 : (as.zip ks).map (·.1) = as := List.map_fst_zip (by omega)
  have at' := zip_at rel hG
  have up : ∀ z ∈ as.zip ks, s.heap.objs.size < z.1 := fun z hz => hG.above _ (List.of_mem_zip hz).1
  have nd1 : ((as.zip ks).map (·.1)).Nodup := by rw [m1]; exact List.Pairwise.imp Nat.ne_of_lt hG.rise
  have I' : Inv X pins σ H { s with heap := h', toks := tk } := I.kept hk
  have hn0 : H h'.objs.size = none := I'.hok.fresh (Nat.le_refl _)
  have pu : ∀ b o, h'.get? b = some o → (h'.push { cls := .type "tuple", data := .seq (as.map Value.ref).toArray }).get? b = some o := fun b o e => Heap.get?_push_of_some _ e
  have I2 := I'.laid (h' := h'.push { cls := .type "tuple", data := .seq (as.map Value.ref).toArray }) (t' := tk) (o := .frz { cls := .type "tuple", data := .seq (as.map Value.ref).toArray } (.tup (as.map V.ref))) pu (Nat.le_refl _)
    (show ObjOk X.prog X.w _ _ _ (.frz _ (.tup (as.map V.ref))) from ⟨Heap.get?_push_size _ rfl, by rw [List.length_map]; omega, as.map Value.ref, vals_rf as, IsTup.new _ _⟩)
  obtain ⟨H2, I3, g, qt⟩ := track I I2 nd1 (fun z hz => by obtain ⟨t, o, e, r⟩ := at' z hz; exact ⟨t, o, pu _ _ e, r⟩) fun z hz => by
    obtain ⟨t, o, e, r⟩ := at' z hz
    exact ⟨Nat.le_of_lt (up z hz), by rw [upd_ne (Nat.ne_of_lt (Heap.lt_size e))]; exact I.hok.fresh (Nat.le_of_lt (up z hz))⟩
  refine ⟨.ref h'.objs.size, H2, I3, rfl, q H2 h'.objs.size (as.zip ks) (fun b o e => g b o (by rw [upd_ne (ne_of_none e hn0)]; exact e)) (List.map_snd_zip (by omega)) ?_ fun z hz => qt z hz⟩
  have m5 : (as.zip ks).map (fun z => V.ref z.1) = as.map V.ref := by
    have e : (as.zip ks).map (fun z => V.ref z.1) = ((as.zip ks).map (·.1)).map V.ref := by rw [List.map_map]; rfl
    rw [e, m1]
  rw [m5]
  exact ⟨_, g _ _ upd_same, rfl⟩
/-- tuple(a list), with no dict of its own -/
theorem cr_tupF : CallR X (.type "tuple") (fun xs H Q => ∃ p ys, xs = [.ref p] ∧ SqL X.K H p ys ∧ ∀ l o, H l = none → o.dict = none → Q (.ref l) (upd H l (.frz o (.tup ys)))) := by
  intro pins s σ H xs us Q I r h
  obtain ⟨p, ys, rfl, hq, q⟩ := h
  obtain ⟨u, rfl, rx⟩ := vals1 r
  cases rx
  obtain ⟨its, r', pl, hz⟩ := I.list hq
  have hlen := r'.length
  refine call_tuple_list pl.isList (fun h' kp => ?_) (by simp only [List.size_toArray] <;> omega)
  have I1 : Inv X pins σ H { s with heap := h' } := I.kept (t' := s.toks) kp
  have I2 : Inv X pins σ (upd H h'.objs.size (.frz { cls := .type "tuple", data := .seq its.toArray } (.tup ys))) { s with heap := h'.push { cls := .type "tuple", data := .seq its.toArray } } :=
    I1.laid (t' := s.toks) (fun b o e => Heap.get?_push_of_some _ e) (Nat.le_refl _) (show ObjOk X.prog X.w _ _ _ (.frz _ (.tup ys)) from ⟨Heap.get?_push_size _ rfl, hz, its, r', IsTup.new _ _⟩)
  exact ⟨.ref h'.objs.size, _, I2, rfl, q _ _ (I1.hok.fresh (Nat.le_refl _)) rfl⟩
def tTupF (t : TA) : TE := fun σ H Q => t σ H fun xs H1 => xs.length ≤ sizeLine ∧ ∀ p o, H1 p = none → o.dict = none → Q (.ref p) (upd H1 p (.frz o (.tup xs)))
theorem pe_tupF {es : List Expr} {t : TA} {pos : Pos} {x1} (h : PA X es t) : PE X (.Tuple es x1 pos) (tTupF t) := by
  refine ⟨fun pins s σ H Q I hq => ?_⟩
  refine wpAny_Tuple_spliced (thn (h.run pos pins s σ H _ I hq) fun us s1 ⟨xs, H1, I1, r, z, q⟩ => ⟨by rw [← r.length]; exact z, ?_⟩)
  have hf : H1 s1.heap.objs.size = none := I1.hok.fresh (Nat.le_refl _)
  exact ⟨.ref s1.heap.objs.size, upd H1 s1.heap.objs.size (.frz { cls := .type "tuple", data := .seq us.toArray } (.tup xs)), I1.laid (t' := s1.toks) (fun b u e => Heap.get?_push_of_some _ e) (Nat.le_refl _) ⟨Heap.get?_push_size _ rfl, z, us, r, ⟨_, Heap.get?_push_size _ rfl, rfl, _, rfl⟩⟩, rfl, q _ _ hf rfl⟩
/-- the pairs, their keys and values -/
theorem pairs_of2 {pins : List (Addr × Obj)} {σ : L2.St} {H : Hp} {s : Shared} (I : Inv X pins σ H s) : ∀ {ps : List Addr} {kvs : List (L2.Key × V)}, Paired (fun p kv => SqT X.K H p [kV kv.1, kv.2]) ps kvs →
    ∃ (prs : List (L2.Key × Value)) (qs : List (Value × Value)), KV kvs prs ∧ prs.length = ps.length ∧ qs.length = ps.length ∧
      ∀ (j : Nat) (k v : Value), qs[j]? = some (k, v) → ∃ b c, ps[j]? = some b ∧ IsTup s.heap b #[k, v] ∧ prs[j]? = some (c, v) ∧ keyIs c k = true
  | _, _, .nil => ⟨[], [], .nil, rfl, rfl, fun j k v e => by simp at e⟩
  | _, _, .cons (a := p) (b := kv) h t => by
    obtain ⟨prs, qs, r, hl, hl2, hp⟩ := pairs_of2 I t
    obtain ⟨its, rv, ht, _⟩ := I.tuple h
    obtain ⟨u, y, ei, ru, ry⟩ := vals2 rv
    subst ei
    refine ⟨(kv.1, y) :: prs, (u, y) :: qs, .cons ⟨rfl, ry⟩ r, by rw [List.length_cons, List.length_cons, hl], by rw [List.length_cons, List.length_cons, hl2], fun j k v e => ?_⟩
    cases j with
    | zero =>
      have e' : (u, y) = (k, v) := Option.some.inj e
      cases e'
      exact ⟨p, kv.1, rfl, ht, rfl, kV_is (P := X.prog) (w := X.w) ru⟩
    | succ j =>
      obtain ⟨b, c, e1, e2, e3, e4⟩ := hp j k v (by simpa using e)
      exact ⟨b, c, by simpa using e1, e2, by simpa using e3, e4⟩
/-- dict(a tuple of pairs) -/
theorem cr_dictF (hcalm : X.calm = true) : CallR X (.type "dict") (fun xs H Q => ∃ (a : Addr) (ps : List Addr) (kvs : List (L2.Key × V)), xs = [.ref a] ∧ Fz H a (ps.map V.ref) ∧ Paired (fun p kv => SqT X.K H p [kV kv.1, kv.2]) ps kvs ∧
    ∀ p, H p = none → Q (.ref p) (upd H p (.dK (mergeK [] kvs)))) := by
  intro pins s σ H xs us Q I r q
  obtain ⟨a, ps, kvs, ex, ⟨o, hq, hdn⟩, hp, q⟩ := q
  subst ex
  obtain ⟨u, eu, rx⟩ := vals1 r
  subst eu
  cases rx
  obtain ⟨ho, hz, its, rv, tp⟩ := (show ObjOk X.prog X.w H s.heap a (.frz o (.tup (ps.map V.ref))) from I.hok a _ hq)
  have ei := refs_at rv
  subst ei
  rw [List.length_map] at hz
  obtain ⟨o', ho', hc', n, hd'⟩ := tp
  have eo : o = o' := Option.some.inj (ho.symm.trans ho')
  subst eo
  obtain ⟨prs, qs, rel, hl, hl2, hpr⟩ := pairs_of2 I hp
  refine PySem.call_dict_pairs (knd := mixKind X.prog X.w) (kvs := prs) (PySem.PairArg.tuple a (ps.map Value.ref).toArray (fun j => ps.getD j 0) qs) (I.ok.hd hcalm) ⟨⟨o, n, ho, hc', hdn, hd'⟩, ?_, fun j k v e => ?_⟩ ⟨by rw [hl, hl2], fun j k v e => ?_⟩ (by rw [hl2]; exact hz) fun h' tk hd'' k => ?_
  · simp [hl2]
  · obtain ⟨b, c, e1, e2, e3, e4⟩ := hpr j k v e
    have eg : ps.getD j 0 = b := by
      rw [List.getD_eq_getElem?_getD, e1]
      rfl
    refine ⟨by simp [e1], .inl ?_⟩
    show s.heap.IsTuple (ps.getD j 0) #[k, v]
    rw [eg]
    exact e2
  · obtain ⟨b, c, e1, e2, e3, e4⟩ := hpr j k v e
    exact ⟨c, e3, e4⟩
  · have hm : (s.heap.objs.size == sysModules) = false := beq_eq_false_iff_ne.mpr (Nat.ne_of_gt I.big)
    have hlen : (mergeK [] kvs).length ≤ sizeLine := by
      refine Nat.le_trans (length_mergeK kvs []) ?_
      rw [List.length_nil, Nat.zero_add, Paired.length rel, hl]
      exact hz
    exact ⟨.ref s.heap.objs.size, upd H s.heap.objs.size (.dK (mergeK [] kvs)), I.laid (t' := tk) (fun b o e => k b o (by simp) e) (Nat.le_refl _) (show ObjOk X.prog X.w _ _ _ (.dK (mergeK [] kvs)) from ⟨hlen, hm, merged [] prs, KV.merge rel .nil, hd''⟩), rfl, q _ (I.hok.fresh (Nat.le_refl _))⟩
end
end SiI
namespace KyS
open PySem PySem.Spec PyProof.Rows L2 LamX
section
variable {prog : Program} {w : World} {A : Around} {s : Shared} {f c' t : Addr} {qual y x : Str} {params : Arguments} {scope : Scope} {cl : List (Str × Addr)} {pm ctv : Value} {p1 p2 p3 : Pos} {j : Nat} {its : List Value} {tk : Tok}
/-- a lambda that tells the first item of the tuple it gets, a text -/
theorem lam_first (hroom : A.depth < recursionLimit) (lim : s.heap.NoLimit)
    (hf : s.heap.get? f = some (PySem.W.kla_obj "<lambda>" qual params (.Subscript (.Name y p1) (.Constant (.int 0) j p2) p3) scope cl pm c' ctv))
    (hcd : s.heap.CodeRec (.ref c') qual) (hk : scope.kind = .function) (hco : scope.isCoroutine = false) (hgen : scope.isGenerator = false) (hcell : ∀ z ∈ scope.names, z.2 ≠ .cell)
    (hbind : ∀ v : Value, bindArgs (PySem.W.kla_fn "<lambda>" qual params (.Subscript (.Name y p1) (.Constant (.int 0) j p2) p3) scope cl pm (.ref c') ctv) ⟨[v], []⟩ = pure [(y, v)])
    (hloc : scope.names.lookup y = some .local) (hd : (y == ("__debug__" : Str)) = false) (ht : IsTup s.heap t its.toArray) (h0 : its[0]? = some (.str x tk)) :
    wpAny (model prog w) A (call (.ref f) [.ref t]) (PySem.W.KeyPure (.str x) s) (fun _ _ => False) s := by
  refine wpAny_call ?_
  refine PySem.W.kla_callFunE hroom hf rfl hco hgen rfl hcd ?_
  rw [hbind]
  refine wpAny_pure (wpAny_newFunctionEnv hcell (fun z hz => by rw [List.mem_singleton.mp hz]; exact hloc) (fun h₁ hns hsb => ⟨lim.fresh _ hsb, ?_⟩) hk)
  have kp : ∀ b o, s.heap.get? b = some o → h₁.get? b = some o := fun b o e => hsb.extBut b o (Nat.ne_of_lt (Heap.lt_size e)) (Heap.get?_push_of_some _ e)
  show codeAny _ _ (.expr _ (PySem.W.envX qual scope s.heap.objs.size f (.ref c') cl)) _ _
  refine PySem.W.kla_codeExpr ?_
  refine Subscript_ ?_
  have hl : (PySem.W.envX qual scope s.heap.objs.size f (.ref c') cl).kindOf y = some .local := hloc
  refine wpAny_Name (wpAny_loadName_local (v := .ref t) hk hl hns (by simp) ?_) hd
  refine wpAny_Constant_int ?_
  obtain ⟨ob, e, c⟩ := ht
  have ht' : IsTup h₁ t its.toArray := ⟨ob, kp _ _ e, c⟩
  have hlen : 0 < its.length := (List.getElem?_eq_some_iff.mp h0).1
  refine item_tupleL (j := 0) ht' (by decide) (by decide) (by
    have e : decide ((0 : Int) < (its.length : Int)) = true := decide_eq_true (by omega)
    simp [seqIndex?, hlen]) h0 ?_
  exact ⟨_, _, rfl, kp, .str x tk⟩
end
/-! ### sorted(xs, key=f), xs a list or a tuple -/
section
variable {prog : Program} {w : World} {A : Around} {E : Value → Shared → Prop} {s : Shared}
theorem leS_of {a b : Str} (h : decide (a.cps.toList ≤ b.cps.toList) = true) : SS.leS a b := by
  show ltCps b.cps.toList a.cps.toList = false
  rw [ltCps_eq]
  exact decide_eq_false fun q => List.not_lt.mpr (of_decide_eq_true h) q
theorem sorted_key_seq {β : Type} {R : Value → β → Prop} {bs : List β} {l : Addr} {T : String} {o : Obj} {n : Nat} {vs : List Value} {f : Value} {kw : List (Str × Value)} {Q : Value → Shared → Prop} (k : β → Str) (hT : T = "list" ∨ T = "tuple")
    (ho : s.heap.get? l = some o) (hc : o.cls = .type T) (hd : o.data = .seq vs.toArray n) (e : PySem.W.EachIs R vs bs) (hL : vs.length ≤ sizeLine) (hu : A.units + 10 < cLine)
    (ha1 : argsOk "sorted" ⟨[.ref l], kw⟩) (ha2 : ∀ x, argsOk "list.sort" ⟨[.ref x], kw⟩) (ht : ∀ x, Builtin.«list.sort» ⟨[.ref x], kw⟩ = PyProof.Rows.ksk_tree x f false)
    (turn : ∀ (v : Value) (x : β), R v x → x ∈ bs → ∀ (h : Heap) (tk : Nat), (∀ b o, s.heap.get? b = some o → h.get? b = some o) →
      wpAny (model prog w) A.in1.in1 (call f [v]) (PySem.W.KeyPure (.str (k x)) { s with heap := h, toks := tk }) (fun _ _ => False) { s with heap := h, toks := tk })
    (h : ∀ (h1 : Heap) (D : Addr) (out : List Value) (c : Nat) (h' : Heap) (tk : Nat) (ys : List β), (∀ b o, s.heap.get? b = some o → h1.get? b = some o) → (∀ b o, h1.get? b = some o → h'.get? b = some o) → h1.objs.size ≤ D → h'.get? D = some (seqObj "list" (List.toArray out) c) → out.length = vs.length → PySem.W.EachIs R out ys → ys.Perm bs → (ys.map k).Pairwise SS.leS →
      Q (.ref D) { s with heap := h', toks := tk }) :
    wpAny (model prog w) A (call (.builtin "sorted") [.ref l] kw) Q E s := by
  refine call_function_entry_kw kind_sorted plain_sorted entry_sorted ha1 ?_
  unfold Builtin.«sorted»
  refine wpAny_bind (m := checkCount "sorted" 1 1 _) (wpAny_pure ?_)
  refine wpAny_bind (wpAny_collect_seq l hT ho hc hd (fun h1 k1 => ?_) (by simpa using hL))
  rw [List.toList_toArray]
  refine wpAny_bind (wpAny_newList ?_ hL)
  have hD : (h1.push (seqObj "list" vs.toArray 0)).get? h1.objs.size = some (seqObj "list" vs.toArray 0) := Heap.get?_push_size _ rfl
  refine wpAny_bind (wpAny_holding (wpAny_call_entry_kw slot_list_sort ⟨_, hD, rfl⟩ entry_list_sort ?_ (ha2 _)))
  rw [ht]
  have up : ∀ {g : Heap}, PySem.W.KeepsBut h1.objs.size (h1.push (seqObj "list" vs.toArray 0)) g → ∀ b o, s.heap.get? b = some o → g.get? b = some o := fun {g} kp b o q =>
    kp b o (Nat.ne_of_lt (Heap.lt_size (k1 b o q))) (Heap.get?_push_of_some _ (k1 b o q))
  refine PySem.W.keyH_tree (kz := bs.map fun b => .str (k b)) (s := { s with heap := h1.push (seqObj "list" vs.toArray 0) }) hD (by rw [List.length_map]; exact e.length.symm) hL (PySem.W.AllAlike.of fun _ _ => by simp [PySem.W.alike]) (PySem.W.Sortable.others fun _ => ⟨by simp, fun _ => by simp⟩) ?_
    (PySem.W.keyH_turns (k := fun b => .str (k b)) (s := { s with heap := h1.push (seqObj "list" vs.toArray 0) }) e fun v x hR hx h tk kp => turn v x hR hx h tk (up kp)) fun h' tk out c kp hD' ko => ?_
  · intro d hd'
    obtain ⟨b, _, rfl⟩ := List.mem_map.mp hd'
    show A.units + 1 + 1 + PyData.depth (.str (k b)) < cLine
    simp only [PyData.depth]
    omega
  · refine ⟨_, rfl, wpAny_pure ⟨_, rfl, ?_⟩⟩
    refine h h1 h1.objs.size out c h' tk (bs.mergeSort (PySem.W.dataLe false fun b => .str (k b))) k1 (fun b o q => kp b o (Nat.ne_of_lt (Heap.lt_size q)) (Heap.get?_push_of_some _ q)) (Nat.le_refl _) hD' ?_ (PySem.W.keyedOut_each (fun b => .str (k b)) ko e) (List.mergeSort_perm _ _) ?_
    · exact ko.length (by rw [List.length_map]; exact e.length.symm)
    · rw [List.pairwise_map, PySem.W.dataLe_str]
      refine (List.pairwise_mergeSort (le := fun a b => decide ((k a).cps.toList ≤ (k b).cps.toList)) (fun a b c h1 h2 => ?_) (fun a b => ?_) bs).imp fun h => leS_of h
      · exact decide_eq_true (List.le_trans (of_decide_eq_true h1) (of_decide_eq_true h2))
      · rcases List.le_total (k a).cps.toList (k b).cps.toList with q | q
        · simp [q]
        · simp [q]
end
end KyS
namespace KyS
open PySem PySem.Spec PyProof.Rows L2 LamX
theorem SqT.extN {K : PySem.W.Frag} {H H' : Hp} {a : Addr} {xs : List V} (h : SqT K H a xs) (e : ExtN H H') : SqT K H' a xs := by
  rcases h with (h | ⟨o, h⟩) | h
  · exact .inl (.inl (e _ _ h fun ps => by simp))
  · exact .inl (.inr ⟨o, e _ _ h fun ps => by simp⟩)
  · exact .inr h
theorem SqL.extN {K : PySem.W.Frag} {H H' : Hp} {a : Addr} {xs : List V} (h : SqL K H a xs) (e : ExtN H H') : SqL K H' a xs := by
  rcases h with (h | ⟨o, h⟩) | h
  · exact .inl (.inl (e _ _ h fun ps => by simp))
  · exact .inl (.inr ⟨o, e _ _ h fun ps => by simp⟩)
  · exact .inr h
/-- its one name is its parameter -/
structure LamP (y : Str) (scope : Scope) : Prop where
  kind : scope.kind = .function
  co : scope.isCoroutine = false
  gen : scope.isGenerator = false
  names : scope.names = [(y, .local)]
/-- an item: where it lies, its first item, the other ones -/
abbrev It := Addr × Str × List V
def tSortKey (K : PySem.W.Frag) (T : List (Addr × Str)) (tx : TE) : TE := fun σ H Q => tx σ H fun v H1 => ∃ (a : Addr) (zs : List It), v = .ref a ∧ (SqL K H1 a (zs.map fun z => V.ref z.1) ∨ SqT K H1 a (zs.map fun z => V.ref z.1)) ∧
  (∀ z ∈ zs, SqT K H1 z.1 (.str z.2.1 :: z.2.2)) ∧ Tabs T H1 ∧
  ∀ (H3 : Hp) (D : Addr) (ys : List It), ExtN H1 H3 → Tabs T H3 → ys.Perm zs → (ys.map fun z => z.2.1).Pairwise SS.leS → (∀ u, H1 D = some u → ∃ ps, u = .tbl ps) → H3 D = some (.lst (ys.map fun z => V.ref z.1)) → Q (.ref D) H3
theorem vals_refs {α : Type} (f : α → Addr) : ∀ {zs : List α} {its : List Value}, Vals (zs.map fun z => V.ref (f z)) its → its = zs.map fun z => Value.ref (f z)
  | [], _, r => by cases r; rfl
  | z :: zs, _, r => by
    cases r with
    | cons h t =>
      rw [vals_refs f t]
      exact congrArg (· :: _) h
theorem each_refs {α : Type} (f : α → Addr) : ∀ zs : List α, PySem.W.EachIs (fun (v : Value) (z : α) => v = Value.ref (f z)) (zs.map fun z => Value.ref (f z)) zs
  | [] => .nil
  | _ :: zs => .cons rfl (each_refs f zs)
theorem of_each_refs {α : Type} (f : α → Addr) : ∀ {vs : List Value} {zs : List α}, PySem.W.EachIs (fun (v : Value) (z : α) => v = Value.ref (f z)) vs zs → vs = zs.map fun z => Value.ref (f z)
  | _, _, .nil => rfl
  | _, _, .cons h t => by rw [h, of_each_refs f t]; rfl
theorem vals_of_refs {α : Type} (f : α → Addr) : ∀ zs : List α, Vals (zs.map fun z => V.ref (f z)) (zs.map fun z => Value.ref (f z))
  | [] => .nil
  | _ :: zs => .cons rfl (vals_of_refs f zs)
section
variable {X : Cx}
/-- sorted(xs, key=lambda y: y[0]) -/
theorem pe_sortedKey0 {T : List (Addr × Str)} {y : Str} {c P : Addr} {k : Nat} {params : Arguments} {scope : Scope} {e : Expr} {te : TE} {j : Nat} {p p1 p2 p3 lpos kpos pos : Pos} (hg : Gl X (Str.ofString "sorted")) (hm : X.mg (Str.ofString "sorted") = none) (ha : PE X e te)
    (TB : TabB X.base X.mg c P) (hcode : X.env.code = .ref c) (hmT : (P, X.env.qual ++ "<lambda>") ∈ T) (hu : ∀ p ∈ T, p.1 = P → p.2 = X.env.qual ++ "<lambda>") (hr : Room (k + 2) X.A) (L : LamP y scope) (hdef : defaultsOf params X.env = ([], []))
    (hbind : ∀ (q : Str) (cl : List (Str × Addr)) (pm cv ctv : Value) (v : Value), bindArgs (PySem.W.kla_fn "<lambda>" q params (.Subscript (.Name y p1) (.Constant (.int 0) j p2) p3) scope cl pm cv ctv) ⟨[v], []⟩ = pure [(y, v)])
    (hd : (y == ("__debug__" : Str)) = false := by decide)
    (he : backTo pos (starEach [e] X.env) = (false, eval e X.env) :: backTo pos (starEach [] X.env) := by rfl) (hpl : (backTo pos (starEach [e] X.env)).any (·.1) = false := by rfl) :
    PE X (.Call (.Name (Str.ofString "sorted") p) [e] [⟨some (Str.ofString "key"), .Lambda params (.Subscript (.Name y p1) (.Constant (.int 0) j p2) p3) scope lpos, kpos⟩] pos) (tSortKey X.K T te) := by
  refine ⟨fun pins s σ H Q I h => ?_⟩
  refine wpAny_Call_Name_kw (ld_blt I hg hm (by decide +kernel : bootBuiltins (Str.ofString "sorted") = some (.builtin "sorted")) ?_ (by decide) (by decide))
  refine PyProof.Rows.callWith_kw ?_ he hpl rfl rfl
  rw [he]
  show wpAny _ _ (spliced ((false, eval e X.env) :: [])) _ _ s
  refine Calls.spliced_cons (thn (ha.run pins s σ H _ I h) fun u s1 ⟨x, H1, I1, r1, q1⟩ => ?_)
  obtain ⟨a, zs, rfl, hseq, hit, hT, hq⟩ := q1
  obtain rfl : u = Value.ref a := r1
  refine Calls.spliced_nil ?_
  show wpAny _ _ (evalAll ((do let v ← eval (.Lambda params (.Subscript (.Name y p1) (.Constant (.int 0) j p2) p3) scope lpos) X.env; standAt pos; pure v) :: [])) _ _ s1
  refine wpAny_evalAll_cons (wpAny_bind (lam_make2 I1 TB hcode hmT hu hT hdef (fun z hz ez => ?_) fun f c' pm ctv H2 s2 I2 eN T2 hf hfn hfr hco => ?_))
  · rw [L.names] at hz
    rw [List.mem_singleton.mp hz] at ez
    cases ez
  refine wpAny_bind (wpAny_standAt (wpAny_pure ?_))
  refine wpAny_evalAll_nil ?_
  show wpAny _ _ (call (.builtin "sorted") [.ref a] [(Str.ofString "key", .ref f)]) _ _ s2
  obtain ⟨⟨oc, vs, tq, hoc, hdc, hvc⟩, _, _⟩ := I2.hok c' _ hco
  obtain ⟨Tt, o, n, hTt, ho, hcl, hdat, hz⟩ : ∃ (Tt : String) (o : Obj) (n : Nat), (Tt = "list" ∨ Tt = "tuple") ∧ s2.heap.get? a = some o ∧ o.cls = .type Tt ∧ o.data = .seq (zs.map fun z => Value.ref z.1).toArray n ∧ zs.length ≤ sizeLine := by
    rcases hseq with hl | ht
    · obtain ⟨its, rv, hl', hz⟩ := I2.list (SqL.extN hl eN)
      have e1 := vals_refs (fun z : It => z.1) rv
      subst e1
      obtain ⟨o, n, q1, q2, q3, q4⟩ := hl'
      exact ⟨"list", o, n, .inl rfl, q1, q2, q4, by simpa using hz⟩
    · obtain ⟨its, rv, hl', hz⟩ := I2.tuple (SqT.extN ht eN)
      have e1 := vals_refs (fun z : It => z.1) rv
      subst e1
      obtain ⟨o, q1, q2, n, q4⟩ := hl'
      exact ⟨"tuple", o, n, .inr rfl, q1, q2, q4, by simpa using hz⟩
  have hun := hr.un
  have hdp := hr.dp
  refine sorted_key_seq (R := fun v (z : It) => v = Value.ref z.1) (bs := zs) (fun z => z.2.1) hTt ho hcl hdat (each_refs (fun z : It => z.1) zs) (by simpa using hz) (by omega) (PyProof.Rows.ksk_s1 _ _) (fun _ => PyProof.Rows.ksk_l1 _ _) (fun x => PyProof.Rows.ksk_t1 f x) (fun v z hv hz h tk kp => ?_) fun h1 D out ce h' tk ys k1 k2 hD hget hlen hR hperm hsrt => ?_
  · subst hv
    obtain ⟨its, rv, ht, _⟩ := I2.tuple (SqT.extN (hit z hz) eN)
    cases rv with
    | cons r t =>
      obtain ⟨tq', rfl⟩ := r
      obtain ⟨ob, eo, co⟩ := ht
      refine lam_first (s := { s2 with heap := h, toks := tk }) (by show X.A.depth < _; omega) (I2.nolimit.keeps kp) (kp _ _ hf) ⟨c', oc, vs, tq, rfl, kp _ _ hoc, hdc, hvc⟩ L.kind L.co L.gen (fun z hz => ?_) (fun v => hbind _ _ _ _ _ v) (by rw [L.names]; simp) hd ⟨ob, kp _ _ eo, co⟩ rfl
      rw [L.names] at hz
      rw [List.mem_singleton.mp hz]
      simp
  · have e1 := of_each_refs (fun z : It => z.1) hR
    subst e1
    have I3 : Inv X pins σ H2 { s2 with heap := h1 } := I2.kept (t' := s2.toks) k1
    have hfree : H2 D = none := I3.hok.fresh hD
    have hys : ys.length ≤ sizeLine := by rw [hperm.length_eq]; exact hz
    have I4 : Inv X pins σ (upd H2 D (.lst (ys.map fun z => V.ref z.1))) { s2 with heap := h', toks := tk } :=
      I3.laid k2 hD ⟨by simpa using hys, _, ce, vals_of_refs (fun z : It => z.1) ys, hget⟩
    have kk : ∀ b o, H2 b = some o → upd H2 D (.lst (ys.map fun z => V.ref z.1)) b = some o := fun b o q => by rw [upd_ne (ne_of_none q hfree)]; exact q
    have h1n : ∀ u, H1 D = some u → ∃ ps, u = .tbl ps := fun u q => by
      by_cases z : ∃ ps, u = .tbl ps
      · exact z
      · rw [eN D u q fun ps e => z ⟨ps, e⟩] at hfree
        cases hfree
    exact ⟨.ref D, _, I4, rfl, hq _ D ys (eN.trans (ExtN.of kk)) (T2.ext kk) hperm hsrt h1n upd_same⟩
end
end KyS
namespace SS
open PySem PySem.Spec PyProof.Rows L2
def topS (i : Nat) : Stmt := PySem.Challenge.pw_scopestore_k16_no_steps.main.body.getD i (.Pass ⟨0, 0, 0, 0⟩)
abbrev sCd : Stmt := topS 20
abbrev sFo : Stmt := topS 21
abbrev sAre : Stmt := topS 22
abbrev sPlus : Stmt := topS 23
abbrev sTimes : Stmt := topS 24
abbrev sFitsW : Stmt := topS 25
abbrev sFitsF : Stmt := topS 26
abbrev sWn : Stmt := topS 28
abbrev sSumOf : Stmt := topS 29
abbrev sSumPlus : Stmt := topS 30
abbrev sSumTimes : Stmt := topS 31
abbrev sRbn : Stmt := topS 33
abbrev sEbn : Stmt := topS 35
abbrev sNamesRow : Stmt := topS 36
abbrev sFitsTm : Stmt := topS 37
abbrev sFitsAdd : Stmt := topS 38
abbrev sFitsStep : Stmt := topS 39
abbrev sRowBehind : Stmt := topS 40
abbrev sStepped : Stmt := topS 41
abbrev sFresh : Stmt := topS 43
abbrev sMixed : Stmt := topS 44
abbrev sFill : Stmt := topS 45
abbrev sTake : Stmt := topS 46
abbrev sWhole : Stmt := topS 47
abbrev sSh : Stmt := topS 48
abbrev sFrac : Stmt := topS 49
abbrev sLPlus : Stmt := topS 50
abbrev sLTimes : Stmt := topS 51
abbrev sIsf : Stmt := topS 52
abbrev sLWorth : Stmt := topS 53
abbrev sAdd : Stmt := topS 54
abbrev sSname : Stmt := topS 55
abbrev sNames : Stmt := topS 56
abbrev sNumber : Stmt := topS 57
abbrev sSsum : Stmt := topS 58
abbrev sShort : Stmt := topS 59
abbrev sSRow : Stmt := topS 60
abbrev sSpoint : Stmt := topS 61
abbrev sCopied : Stmt := topS 62
abbrev sDoneL : Stmt := topS 63
abbrev sHanded : Stmt := topS 64
abbrev sKind6 : Stmt := topS 65
abbrev sWithin : Stmt := topS 66
abbrev sRowPlus : Stmt := topS 67
abbrev sEquals : Stmt := topS 68
abbrev sSteps : Stmt := topS 69
abbrev sIsStep : Stmt := topS 70
abbrev sOdd : Stmt := topS 71
abbrev sAskedFor : Stmt := topS 72
abbrev sLaw : Stmt := topS 73
end SS
namespace SS
open PySem PySem.Spec PyProof.Rows L2
section
variable {P : Program} {w : World} {K : PySem.W.Frag} {mg : Str → Option Value} {base : Heap}
/-! ### the greatest common divisor -/
def spGcd : Sp := fun vs H Q _ => ∃ a b : Int, vs = [.int a, .int b] ∧ Q (.int ((Int.gcd a b : Nat) : Int)) H
theorem scCd : FnScope ["a", "b"] ["a", "b"] (defScope sCd) := ⟨rfl, rfl, rfl, by decide +kernel, rfl, by decide +kernel, by decide +kernel⟩
theorem ok_cd {f : Addr} {fd : FuncData} {k : Nat} (F : Fun K "common_divisor" "common_divisor" sCd f fd) (ma : mg "abs" = none) : FnOk P w K mg base CX0 (k + 1) f fd ["a", "b"] spGcd := by
  refine F.ok scCd (fun vs H Q E h => ?_) (fun cdv A outer s H vs Q E hr h => ?_)
  · obtain ⟨a, b, rfl, _⟩ := h
    rfl
  · obtain ⟨a, b, rfl, q⟩ := h
    refine ⟨_, pss_cons (ps_par (i := 0) (j := 1) rfl scCd.nd rfl rfl (by decide) rfl rfl
        (pa_cons (pe_callB call_abs (by rfl) ma boot_abs (pa_cons (pv 0) pa_nil)) (pa_cons (pe_callB call_abs (by rfl) ma boot_abs (pa_cons (pv 1) pa_nil)) pa_nil)) rfl)
      (pss_cons (ps_while PassesOwn.never (pt_cmpR op_gt (pv 1) pe_int (nomark _))
        (pss_one (ps_par (i := 0) (j := 1) rfl scCd.nd rfl rfl (by decide) rfl rfl (pa_cons (pv 1) (pa_cons (pe_op op_mod (pv 0) (pv 1)) pa_nil)) rfl)))
      (pss_one (ps_ret (pv 0)))), ?_⟩
    refine ⟨_, rfl, a, rfl, _, rfl, b, rfl, _, _, rfl, ?_⟩
    refine ⟨fun m σ H' => ∃ x y : Int, σ = [some (.int x), some (.int y)] ∧ H' = H ∧ 0 ≤ x ∧ 0 ≤ y ∧ Int.gcd x y = Int.gcd a b ∧ m = y.toNat,
      ⟨_, _, _, rfl, rfl, by split <;> omega, by split <;> omega, gcd_abs a b, rfl⟩, fun m σ H' hW => ?_⟩
    obtain ⟨x, y, rfl, rfl, hx, hy, hg, rfl⟩ := hW
    refine ⟨_, rfl, _, _, rfl, rfl, _, rfl, ite2 (fun e => ?_) (fun e => ?_)⟩
    · have e' : 0 < y := of_decide_eq_true e
      refine ⟨fun σ' H1 => ∃ x' y' : Int, σ' = [some (.int x'), some (.int y')] ∧ H1 = H' ∧ 0 ≤ x' ∧ 0 ≤ y' ∧ Int.gcd x' y' = Int.gcd a b ∧ y' < y, fun σ' H1 hN => ?_, ?_⟩
      · obtain ⟨x', y', r1, r2, r3, r4, r5, r6⟩ := hN
        exact ⟨y'.toNat, by omega, x', y', r1, r2, r3, r4, r5, rfl⟩
      · refine ⟨_, rfl, _, rfl, _, rfl, x, y, rfl, rfl, e', _, _, rfl, y, x % y, rfl, rfl, hy, Int.emod_nonneg _ (by omega), ?_, Int.emod_lt_of_pos _ e'⟩
        rw [gcd_turn hx e', hg]
    · have e' : ¬ 0 < y := fun z => e (decide_eq_true z)
      have y0 : y = 0 := by omega
      subst y0
      refine ⟨_, rfl, ?_⟩
      rw [← hg, gcd_end x hx] at q
      exact q
theorem scSh : FnScope ["_law_one", "_law_other"] ["_law_one", "_law_other"] (defScope sSh) := ⟨rfl, rfl, rfl, by decide +kernel, rfl, by decide +kernel, by decide +kernel⟩
theorem ok_sh {f : Addr} {fd : FuncData} {k : Nat} (F : Fun K "_law_shared" "_law_shared" sSh f fd) (ma : mg "abs" = none) : FnOk P w K mg base CX0 (k + 1) f fd ["_law_one", "_law_other"] spGcd := by
  refine F.ok scSh (fun vs H Q E h => ?_) (fun cdv A outer s H vs Q E hr h => ?_)
  · obtain ⟨a, b, rfl, _⟩ := h
    rfl
  · obtain ⟨a, b, rfl, q⟩ := h
    refine ⟨_, pss_cons (ps_par (i := 0) (j := 1) rfl scSh.nd rfl rfl (by decide) rfl rfl
        (pa_cons (pe_callB call_abs (by rfl) ma boot_abs (pa_cons (pv 0) pa_nil)) (pa_cons (pe_callB call_abs (by rfl) ma boot_abs (pa_cons (pv 1) pa_nil)) pa_nil)) rfl)
      (pss_cons (ps_while PassesOwn.never (pt_cmpR op_gt (pv 1) pe_int (nomark _))
        (pss_one (ps_par (i := 0) (j := 1) rfl scSh.nd rfl rfl (by decide) rfl rfl (pa_cons (pv 1) (pa_cons (pe_op op_mod (pv 0) (pv 1)) pa_nil)) rfl)))
      (pss_one (ps_ret (pv 0)))), ?_⟩
    refine ⟨_, rfl, a, rfl, _, rfl, b, rfl, _, _, rfl, ?_⟩
    refine ⟨fun m σ H' => ∃ x y : Int, σ = [some (.int x), some (.int y)] ∧ H' = H ∧ 0 ≤ x ∧ 0 ≤ y ∧ Int.gcd x y = Int.gcd a b ∧ m = y.toNat,
      ⟨_, _, _, rfl, rfl, by split <;> omega, by split <;> omega, gcd_abs a b, rfl⟩, fun m σ H' hW => ?_⟩
    obtain ⟨x, y, rfl, rfl, hx, hy, hg, rfl⟩ := hW
    refine ⟨_, rfl, _, _, rfl, rfl, _, rfl, ite2 (fun e => ?_) (fun e => ?_)⟩
    · have e' : 0 < y := of_decide_eq_true e
      refine ⟨fun σ' H1 => ∃ x' y' : Int, σ' = [some (.int x'), some (.int y')] ∧ H1 = H' ∧ 0 ≤ x' ∧ 0 ≤ y' ∧ Int.gcd x' y' = Int.gcd a b ∧ y' < y, fun σ' H1 hN => ?_, ?_⟩
      · obtain ⟨x', y', r1, r2, r3, r4, r5, r6⟩ := hN
        exact ⟨y'.toNat, by omega, x', y', r1, r2, r3, r4, r5, rfl⟩
      · refine ⟨_, rfl, _, rfl, _, rfl, x, y, rfl, rfl, e', _, _, rfl, y, x % y, rfl, rfl, hy, Int.emod_nonneg _ (by omega), ?_, Int.emod_lt_of_pos _ e'⟩
        rw [gcd_turn hx e', hg]
    · have e' : ¬ 0 < y := fun z => e (decide_eq_true z)
      have y0 : y = 0 := by omega
      subst y0
      refine ⟨_, rfl, ?_⟩
      rw [← hg, gcd_end x hx] at q
      exact q
end
end SS

namespace SS
open PySem PySem.Spec PyProof.Rows L2
/-- what the top says of an own class of errors, straight or not under ValueError, at C -/
structure ExT (K : PySem.W.Frag) (mg : Str → Option Value) (x : Str) (C : Addr) : Prop where
  gC : mg x = some (.ref C)
  xC : PySem.W.excIn K C [.type "ValueError", .type "Exception", .type "BaseException", .type "object"] "ValueError.__new__" = true
  kC : PySem.W.keepIn K (.ref C) = true
  bC : PySem.W.subIn K (.ref C) (.type "BaseException") = some true
  tC : PySem.W.typeIn K (.ref C) = some (.type "type")
theorem logOf {b : Int} {n : Nat} (h0 : 0 < n) (h : b.natAbs < 2 ^ n) (hn : n ≤ 9000) : b.natAbs.log2 < 9000 := Nat.lt_of_lt_of_le (PySem.Flt.log2_lt_of h0 h) hn
theorem sgd_ok {t b : Int} (h : b ≠ 0) (hb : b.natAbs < 2 ^ 8000) (i : Int) : CDivG i (sgd t b) := by
  refine ⟨sgd_ne h, logOf (n := 8000) (by decide) ?_ (by decide)⟩
  rw [sgd_abs]
  refine Nat.lt_of_le_of_lt (Nat.le_of_dvd (Int.natAbs_pos.mpr h) ?_) hb
  exact Nat.gcd_dvd_right ..
section
variable {P : Program} {w : World} {K : PySem.W.Frag} {mg : Str → Option Value} {base : Heap}
/-! ### fraction_of; the law's own _law_frac -/
def spFo (C : Addr) : Sp := fun vs H Q E => ∃ t b : Int, vs = [.int t, .int b] ∧ (b = 0 → E (.ref C) none H) ∧
  (b ≠ 0 → b.natAbs < 2 ^ 8000 ∧ ∀ p, H p = none → Q (.ref p) (upd H p (.tup [.int (fr1 t b), .int (fr2 t b)])))
theorem scFo : FnScope ["top", "bottom", "divisor"] ["top", "bottom"] (defScope sFo) := ⟨rfl, rfl, rfl, by decide +kernel, rfl, by decide +kernel, by decide +kernel⟩
theorem ok_fo {f C : Addr} {fd : FuncData} (F : FunD K "fraction_of" "fraction_of" (defArgs sFo) (defBody sFo) (defScope sFo) [.int 1] [] f fd) (T : ExT K mg "NoFraction" C)
    (cd : Cl P w K mg base CX0 1 "common_divisor" spGcd []) : FnOk P w K mg base (L2.CX P w) 2 f fd ["top", "bottom"] (spFo C) := by
  refine F.ok scFo (fun vs H Q E h => ?_) (fun cdv A outer s H vs Q E hr h => ?_)
  · obtain ⟨a, b, rfl, _⟩ := h
    rfl
  · obtain ⟨t, b, rfl, q0, q1⟩ := h
    refine ⟨_, pss_cons (ps_if (pt_cmpR op_eq (pv 1) pe_int (nomark _))
        (pss_one (ps_raise rfl (takes_of rfl rfl rfl rfl) (pmk_own PySem.F.excBase_ValueError T.xC T.gC T.kC (raises_own T.bC T.tC) (by exact rfl)))) pss_nil)
      (pss_cons (ps_set (i := 2) scFo.nd rfl (.inl rfl) (pc0 cd hr (by decide) (pa_cons (pv 0) (pa_cons (pv 1) pa_nil))))
      (pss_cons (ps_if (pt_cmpR op_lt (pv 1) pe_int (nomark _)) (pss_one (ps_set (i := 2) scFo.nd rfl (.inl rfl) (pe_un un_neg (pv 2)))) pss_nil)
      (pss_one (ps_ret (pe_tup (pa_cons (pe_op op_fdivG (pv 0) (pv 2)) (pa_cons (pe_op op_fdivG (pv 1) (pv 2)) pa_nil))))))), ?_⟩
    refine ⟨_, rfl, rfl, _, rfl, ite2 (fun e => ?_) (fun e => ?_)⟩
    · exact q0 (V.int.inj (of_decide_eq_true e))
    · have h0 : b ≠ 0 := fun z => e (by rw [z]; exact decide_eq_true rfl)
      obtain ⟨hb, q⟩ := q1 h0
      refine ⟨_, rfl, _, rfl, t, b, rfl, ?_⟩
      refine ⟨_, rfl, _, _, rfl, rfl, _, rfl, ite2 (fun e2 => ?_) (fun e2 => ?_)⟩
      · have e3 : sgd t b = -((Int.gcd t b : Nat) : Int) := if_pos (of_decide_eq_true e2)
        refine ⟨_, rfl, _, rfl, ?_⟩
        refine ⟨_, rfl, _, rfl, t, sgd t b, rfl, by rw [e3], sgd_ok h0 hb t, _, rfl, _, rfl, b, sgd t b, rfl, by rw [e3], sgd_ok h0 hb b, small2, q⟩
      · have e3 : sgd t b = ((Int.gcd t b : Nat) : Int) := if_neg fun z => e2 (decide_eq_true z)
        refine ⟨_, rfl, _, rfl, t, sgd t b, rfl, by rw [e3], sgd_ok h0 hb t, _, rfl, _, rfl, b, sgd t b, rfl, by rw [e3], sgd_ok h0 hb b, small2, q⟩
end
end SS

namespace SS
open PySem PySem.Spec PyProof.Rows L2
section
variable {P : Program} {w : World} {K : PySem.W.Frag} {mg : Str → Option Value} {base : Heap}
def spFrac : Sp := fun vs H Q _ => ∃ t b : Int, vs = [.int t, .int b] ∧ b ≠ 0 ∧ b.natAbs < 2 ^ 8000 ∧ ∀ p, H p = none → Q (.ref p) (upd H p (.tup [.int (fr1 t b), .int (fr2 t b)]))
theorem scFrac : FnScope ["_law_top", "_law_bottom", "_law_by"] ["_law_top", "_law_bottom"] (defScope sFrac) := ⟨rfl, rfl, rfl, by decide +kernel, rfl, by decide +kernel, by decide +kernel⟩
theorem ok_frac {f : Addr} {fd : FuncData} (F : Fun K "_law_frac" "_law_frac" sFrac f fd) (sh : Cl P w K mg base CX0 1 "_law_shared" spGcd []) : FnOk P w K mg base CX0 2 f fd ["_law_top", "_law_bottom"] spFrac := by
  refine F.ok scFrac (fun vs H Q E h => ?_) (fun cdv A outer s H vs Q E hr h => ?_)
  · obtain ⟨a, b, rfl, _⟩ := h
    rfl
  · obtain ⟨t, b, rfl, h0, hb, q⟩ := h
    refine ⟨_, pss_cons (ps_set (i := 2) scFrac.nd rfl (.inl rfl) (pc0 sh hr (by decide) (pa_cons (pv 0) (pa_cons (pv 1) pa_nil))))
      (pss_cons (ps_if (pt_cmpR op_lt (pv 1) pe_int (nomark _)) (pss_one (ps_set (i := 2) scFrac.nd rfl (.inl rfl) (pe_op op_sub pe_int (pv 2)))) pss_nil)
      (pss_one (ps_ret (pe_tup (pa_cons (pe_op op_fdivG (pv 0) (pv 2)) (pa_cons (pe_op op_fdivG (pv 1) (pv 2)) pa_nil)))))), ?_⟩
    refine ⟨_, rfl, _, rfl, t, b, rfl, ?_⟩
    refine ⟨_, rfl, _, _, rfl, rfl, _, rfl, ite2 (fun e2 => ?_) (fun e2 => ?_)⟩
    · have e3 : sgd t b = -((Int.gcd t b : Nat) : Int) := if_pos (of_decide_eq_true e2)
      refine ⟨_, rfl, _, _, rfl, rfl, ?_⟩
      refine ⟨_, rfl, _, rfl, t, sgd t b, rfl, by rw [e3]; exact congrArg V.int (Int.zero_sub _), sgd_ok h0 hb t, _, rfl, _, rfl, b, sgd t b, rfl, by rw [e3]; exact congrArg V.int (Int.zero_sub _), sgd_ok h0 hb b, small2, q⟩
    · have e3 : sgd t b = ((Int.gcd t b : Nat) : Int) := if_neg fun z => e2 (decide_eq_true z)
      refine ⟨_, rfl, _, rfl, t, sgd t b, rfl, by rw [e3], sgd_ok h0 hb t, _, rfl, _, rfl, b, sgd t b, rfl, by rw [e3], sgd_ok h0 hb b, small2, q⟩
end
end SS

namespace SS
open PySem PySem.Spec PyProof.Rows L2
section
variable {P : Program} {w : World} {K : PySem.W.Frag} {mg : Str → Option Value} {base : Heap}
/-! ### the law's draws: fresh, mixed, fill, take -/
def spFresh (K : PySem.W.Frag) : Sp := fun vs H Q _ => ∃ (a : Addr) (ns : List Int), vs = [.ref a] ∧ SqL K H a (ns.map V.int) ∧
  ∀ H' st c, Same H H' → H st = none → H c = none → StA st c H' → Q (.ref st) H'
theorem scFresh : FnScope ["_law_script"] ["_law_script"] (defScope sFresh) := ⟨rfl, rfl, rfl, by decide +kernel, rfl, by decide +kernel, by decide +kernel⟩
theorem cut63 (xs : List V) : (cutV xs none (some 63)) = xs.take 63 := by
  unfold cutV
  rw [HT.sIx_none, show HT.sIx xs.length xs.length (some 63) = min 63 xs.length from HT.sIx_nat xs.length xs.length 63]
  show List.take (min 63 xs.length - 0) (xs.drop 0) = xs.take 63
  rw [List.drop_zero, Nat.sub_zero]
  by_cases h : xs.length ≤ 63
  · rw [Nat.min_eq_right h, List.take_length, List.take_of_length_le h]
  · rw [Nat.min_eq_left (by omega)]
theorem ok_fresh {f : Addr} {fd : FuncData} {k : Nat} (F : Fun K "_law_fresh" "_law_fresh" sFresh f fd) : FnOk P w K mg base CX0 (k + 1) f fd ["_law_script"] (spFresh K) := by
  refine F.ok scFresh (fun vs H Q E h => ?_) (fun cdv A outer s H vs Q E hr h => ?_)
  · obtain ⟨a, ns, rfl, _⟩ := h
    rfl
  · obtain ⟨a, ns, rfl, hS, q⟩ := h
    refine ⟨_, pss_one (ps_ret (pe_lst (pa_cons (pe_slice sl_list (pv 0) po_none (po_some pe_int)) (pa_cons pe_int (pa_cons pe_int (pa_cons pe_bl pa_nil)))))), ?_⟩
    refine ⟨_, rfl, 63, rfl, a, _, rfl, hS, fun c nc => ?_⟩
    refine ⟨by show 4 ≤ sizeLine; decide, fun st nst => ?_⟩
    have ncs : c ≠ st := fun e => by
      rw [e, upd_same] at nst
      cases nst
    have s1 := same_new (o := .lst (cutV (ns.map V.int) none (some 63))) nc
    refine q _ st c (s1.trans (same_new nst)) (s1.free nst) nc ⟨0, 0, false, ns.take 63, upd_same, ?_, ?_, ncs⟩
    · rw [upd_ne ncs, upd_same, cut63, List.map_take]
    · rw [List.length_take]
      exact Nat.min_le_left _ _
def spMixed : Sp := fun vs H Q _ => ∃ z : Int, vs = [.int z] ∧ ∀ H' (m : Int), Same H H' → Q (.int m) H'
theorem scMixed : FnScope ["_law_seed", "_law_primes", "_law_number_here", "_law_k", "_law_prime", "_law_far", "_law_square", "_law_power"] ["_law_seed"] (defScope sMixed) := ⟨rfl, rfl, rfl, by decide +kernel, rfl, by decide +kernel, by decide +kernel⟩
def primes : List Int := [2147483647, 2147483629, 2147483587, 2147483579, 2147483563]
def adds : List Int := [11, 101, 1009, 10007, 100003]
theorem at_some {xs : List Int} {i : Nat} (h : i < xs.length) : atI (xs.map V.int) (i : Int) = some (.int xs[i]) :=
  atI_nat (by rw [List.getElem?_map, List.getElem?_eq_getElem h]; rfl)
theorem primes_ok : ∀ x ∈ primes, 0 < x ∧ x < 2 ^ 31 := by decide
theorem ok_mixed {f : Addr} {fd : FuncData} {k : Nat} (F : Fun K "_law_mixed" "_law_mixed" sMixed f fd) (me : mg "enumerate" = none) : FnOk P w K mg base CX0 (k + 1) f fd ["_law_seed"] spMixed := by
  refine F.ok scMixed (fun vs H Q E h => ?_) (fun cdv A outer s H vs Q E hr h => ?_)
  · obtain ⟨a, rfl, _⟩ := h
    rfl
  · obtain ⟨z, rfl, q⟩ := h
    refine ⟨_, pss_cons (ps_set (i := 1) scMixed.nd rfl (.inl rfl) (pe_tup (pa_cons pe_int (pa_cons pe_int (pa_cons pe_int (pa_cons pe_int (pa_cons pe_int pa_nil)))))))
      (pss_cons (ps_set (i := 2) scMixed.nd rfl (.inl rfl) pe_int)
      (pss_cons (ps_for PassesOwn.never rfl (pi_enT (by rfl) me (pa_cons (pv 1) pa_nil)) (pg_tup rfl (pgs_cons (pg_name (i := 3) scMixed.nd rfl (.inl rfl)) (pgs_cons (pg_name (i := 4) scMixed.nd rfl (.inl rfl)) pgs_nil)))
        (pss_cons (ps_set (i := 5) scMixed.nd rfl (.inl rfl) (pe_op op_add (pv 0) (pe_ix ix_tup (pe_tup (pa_cons pe_int (pa_cons pe_int (pa_cons pe_int (pa_cons pe_int (pa_cons pe_int pa_nil)))))) (pv 3) (fun _ _ => rfl))))
        (pss_cons (ps_set (i := 5) scMixed.nd rfl (.inl rfl) (pe_op op_mod (pe_op op_mul (pv 5) (pe_op op_add pe_int (pe_op op_mul pe_int (pv 3)))) (pv 4)))
        (pss_cons (ps_set (i := 6) scMixed.nd rfl (.inl rfl) (pe_op op_mod (pe_op op_mul (pv 5) (pv 5)) (pv 4)))
        (pss_cons (ps_set (i := 7) scMixed.nd rfl (.inl rfl) (pe_op op_mod (pe_op op_mul (pe_op op_mod (pe_op op_mul (pv 6) (pv 6)) (pv 4)) (pv 5)) (pv 4)))
        (pss_one (ps_set (i := 2) scMixed.nd rfl (.inl rfl) (pe_op op_add (pe_op op_mul (pv 2) (pv 4)) (pv 7)))))))))
      (pss_one (ps_ret (pv 2))))), ?_⟩
    refine ⟨by show 5 ≤ sizeLine; decide, fun t nt => ?_⟩
    have s1 := same_new (o := .tup (primes.map V.int)) nt
    have e1 : (upd H t (.tup (primes.map V.int))) t = some (.tup (primes.map V.int)) := upd_same
    refine ⟨_, rfl, t, primes.map V.int, rfl, .inl (.inl e1), ?_⟩
    refine ⟨fun i m σ H3 => ∃ (nn : Int) (y3 y4 y5 y6 y7 : Option V), σ = [some (.int z), some (.ref t), some (.int nn), y3, y4, y5, y6, y7] ∧ i + m = 5 ∧ Same (upd H t (.tup (primes.map V.int))) H3,
      ⟨5, 0, none, none, none, none, none, rfl, rfl, Same.refl _⟩, fun i m σ H3 hW => ?_⟩
    obtain ⟨nn, y3, y4, y5, y6, y7, rfl, em, sm⟩ := hW
    have e3 : SqT K H3 t (primes.map V.int) := .inl (.inl (sm _ _ e1))
    by_cases hi : i < 5
    · have hp : i < primes.length := hi
      refine .inr ⟨⟨_, _, e3, by rw [List.getElem?_map, List.getElem?_eq_getElem hp]; rfl⟩,
        fun σ' H' => ∃ (nn : Int) (y3 y4 y5 y6 y7 : Option V), σ' = [some (.int z), some (.ref t), some (.int nn), y3, y4, y5, y6, y7] ∧ Same (upd H t (.tup (primes.map V.int))) H', fun σ' H' hN => ?_, fun x H' hy => ?_⟩
      · obtain ⟨a1, a2, a3, a4, a5, a6, r1, r2⟩ := hN
        exact ⟨m - 1, by omega, a1, a2, a3, a4, a5, a6, r1, by omega, r2⟩
      · obtain ⟨T, v, rfl, nT, rfl, fv⟩ := hy
        have ev : v = .int primes[i] := by
          have zz := fv _ e3
          rw [List.getElem?_map, List.getElem?_eq_getElem hp] at zz
          exact (Option.some.inj zz).symm
        subst ev
        have pr : 0 < primes[i] ∧ primes[i] < 2 ^ 31 := primes_ok _ (List.getElem_mem hp)
        generalize primes[i] = pp at pr
        have sT := same_new (o := .tup [.int (i : Nat), .int pp]) nT
        refine ⟨T, [.int (i : Nat), .int pp], rfl, .inl (.inl upd_same), rfl, _, _, rfl, _, _, rfl, rfl, ?_⟩
        -- far = seed + (..)[k]
        refine ⟨_, rfl, by show 5 ≤ sizeLine; decide, fun U nU => ?_⟩
        have sU := same_new (o := .tup (adds.map V.int)) nU
        have hA : i < adds.length := hi
        refine ⟨_, rfl, U, adds.map V.int, (i : Int), .int adds[i], rfl, rfl, .inl (.inl upd_same), at_some hA, z, adds[i], rfl, rfl, ?_⟩
        obtain ⟨far, hfar⟩ : ∃ far, z + adds[i] = far := ⟨_, rfl⟩
        -- far = far * (48271 + 2 * k) % prime
        refine ⟨_, rfl, _, rfl, 2, (i : Int), rfl, rfl, .inl ⟨by decide, by decide⟩, 48271, 2 * (i : Int), rfl, rfl, far, _, congrArg V.int hfar, rfl, .inr ⟨by omega, by omega⟩, _, rfl, _, pp, rfl, rfl, pr.1, ?_⟩
        obtain ⟨fa, hfa⟩ : ∃ fa, far * (48271 + 2 * (i : Int)) % pp = fa := ⟨_, rfl⟩
        have f1 := Int.emod_nonneg (far * (48271 + 2 * (i : Int))) (b := pp) (by omega)
        have f2 := Int.emod_lt_of_pos (far * (48271 + 2 * (i : Int))) pr.1
        rw [hfa] at f1 f2
        -- square
        refine ⟨_, rfl, _, rfl, fa, fa, congrArg V.int hfa, congrArg V.int hfa, .inl ⟨by omega, by omega⟩, _, rfl, _, pp, rfl, rfl, pr.1, ?_⟩
        obtain ⟨sq, hsq⟩ : ∃ sq, fa * fa % pp = sq := ⟨_, rfl⟩
        have g1 := Int.emod_nonneg (fa * fa) (b := pp) (by omega)
        have g2 := Int.emod_lt_of_pos (fa * fa) pr.1
        rw [hsq] at g1 g2
        -- power
        refine ⟨_, rfl, _, rfl, sq, sq, congrArg V.int hsq, congrArg V.int hsq, .inl ⟨by omega, by omega⟩, _, rfl, _, pp, rfl, rfl, pr.1, _, rfl, _, fa, rfl, congrArg V.int hfa, .inr ⟨by omega, by omega⟩, _, rfl, _, pp, rfl, rfl, pr.1, ?_⟩
        -- number
        refine ⟨_, rfl, _, rfl, nn, pp, rfl, rfl, .inr ⟨by omega, by omega⟩, _, rfl, _, _, rfl, rfl, ?_⟩
        exact ⟨_, _, _, _, _, _, rfl, sm.trans (sT.trans sU)⟩
    · refine .inl ⟨⟨_, e3, by show 5 = i; omega⟩, _, rfl, q _ nn (s1.trans sm)⟩
end
end SS

namespace SS
open PySem PySem.Spec PyProof.Rows L2
section
variable {P : Program} {w : World} {K : PySem.W.Frag} {mg : Str → Option Value} {base : Heap}
def spFill : Sp := fun vs H Q _ => ∃ st c : Addr, vs = [.ref st] ∧ StA st c H ∧ ∀ H', But st H H' → StA st c H' → Q .non H'
theorem scFill : FnScope ["_law_state", "_law_cells", "_law_at", "_law_seed"] ["_law_state"] (defScope sFill) := ⟨rfl, rfl, rfl, by decide +kernel, rfl, by decide +kernel, by decide +kernel⟩
theorem ok_fill {f : Addr} {fd : FuncData} (F : Fun K "_law_fill" "_law_fill" sFill f fd) (ml : mg "len" = none) (mx : Cl P w K mg base CX0 1 "_law_mixed" spMixed []) : FnOk P w K mg base CX0 2 f fd ["_law_state"] spFill := by
  refine F.ok scFill (fun vs H Q E h => ?_) (fun cdv A outer s H vs Q E hr h => ?_)
  · obtain ⟨a, _, rfl, _⟩ := h
    rfl
  · obtain ⟨st, c, rfl, hst, q⟩ := h
    refine ⟨_, pss_cons (ps_par (i := 1) (j := 2) rfl scFill.nd rfl rfl (by decide) rfl rfl (pa_cons (pe_ix ix_list (pv 0) pe_int (fun _ _ => rfl)) (pa_cons (pe_ix ix_list (pv 0) pe_int (fun _ _ => rfl)) pa_nil)) rfl)
      (pss_cons (ps_set (i := 3) scFill.nd rfl (.inl rfl) (pe_op op_add (pe_op op_mul pe_int (pv 2)) pe_int))
      (pss_cons (ps_if (pt_cmpR op_gt (pe_callB call_len_seq (by rfl) ml PySem.boot_len (pa_cons (pv 1) pa_nil)) pe_int (nomark _))
        (pss_cons (ps_set (i := 3) scFill.nd rfl (.inl rfl) (pe_op op_mul pe_int (pe_op op_fdiv (pv 2) (pe_callB call_len_seq (by rfl) ml PySem.boot_len (pa_cons (pv 1) pa_nil)))))
        (pss_one (ps_set (i := 3) scFill.nd rfl (.inl rfl) (pe_op op_add (pv 3) (pe_ix ix_list (pv 1) (pe_op op_mod (pv 2) (pe_callB call_len_seq (by rfl) ml PySem.boot_len (pa_cons (pv 1) pa_nil))) (fun _ _ => rfl))))))
        pss_nil)
      (pss_cons (ps_asg (pe_op op_add (pv 2) pe_int) (pg_sub (pv 0) pe_int set_list))
      (pss_cons (ps_asg (pe_or (pe_cmpR op_ge (pv 2) (pe_callB call_len_seq (by rfl) ml PySem.boot_len (pa_cons (pv 1) pa_nil)) (nomark _)) (pe_one (pe_cmpR op_lt (pv 3) (pe_op op_pow pe_int pe_int) (nomark _)))) (pg_sub (pv 0) pe_int set_list))
      (pss_one (ps_if (pt_val (pe_ix ix_list (pv 0) pe_int (fun _ _ => rfl)))
        (pss_one (ps_asg (pc0 mx hr (by decide) (pa_cons (pv 3) pa_nil)) (pg_sub (pv 0) pe_int set_list)))
        (pss_one (ps_asg (pe_op op_sub (pv 3) (pe_op op_pow pe_int pe_int)) (pg_sub (pv 0) pe_int set_list))))))))), ?_⟩
    obtain ⟨i, n, b, xs, h1, h2, h3, h4⟩ := hst
    refine ⟨_, rfl, st, _, 0, _, rfl, rfl, SqL.of h1, atI_nat (j := 0) rfl, _, rfl, st, _, 1, _, rfl, rfl, SqL.of h1, atI_nat (j := 1) rfl, _, _, rfl, ?_⟩
    refine ⟨_, rfl, 31, i, rfl, rfl, .inl ⟨by decide, by decide⟩, _, 7, rfl, rfl, ?_⟩
    refine ⟨_, rfl, c, _, rfl, .inl (SqL.of h2), _, _, rfl, rfl, _, rfl, ite2 (fun e => ?_) (fun e => ?_)⟩
    have e0 : (0 : Int) < ((xs.map V.int).length : Int) := of_decide_eq_true e
    have e1 : 0 < xs.length := by
      rw [List.length_map] at e0
      omega
    have el : ((xs.map V.int).length : Int) = (xs.length : Int) := by rw [List.length_map]
    refine ⟨_, rfl, _, rfl, c, _, rfl, .inl (SqL.of h2), i, (xs.length : Int), rfl, congrArg V.int el, ⟨by omega, by omega⟩, 104729, _, rfl, rfl, .inl ⟨by decide, by decide⟩, ?_⟩
    have m1 := Int.emod_nonneg i (b := (xs.length : Int)) (by omega)
    have m2 := Int.emod_lt_of_pos i (b := (xs.length : Int)) (by omega)
    have m3 : (i % (xs.length : Int)).toNat < xs.length := by omega
    have m4 : atI (xs.map V.int) (i % (xs.length : Int)) = some (.int xs[(i % (xs.length : Int)).toNat]) := by
      have e5 : i % (xs.length : Int) = (((i % (xs.length : Int)).toNat : Nat) : Int) := by omega
      exact at_of e5 (by rw [List.getElem?_map, List.getElem?_eq_getElem m3]; rfl)
    refine ⟨_, rfl, _, rfl, _, rfl, _, rfl, c, _, rfl, .inl (SqL.of h2), i, (xs.length : Int), rfl, congrArg V.int el, by omega, c, _, _, _, rfl, rfl, SqL.of h2, m4, _, _, rfl, rfl, ?_⟩
    all_goals
      refine ⟨_, rfl, i, 1, rfl, rfl, _, rfl, st, _, 1, 1, rfl, rfl, h1, rfl, ?_⟩
      have k2 : ∀ o : HO, (upd H st o) c = some (.lst (xs.map V.int)) := fun o => by
        rw [upd_ne h4]
        exact h2
      refine ⟨_, rfl, _, rfl, c, _, rfl, .inl (SqL.of (k2 _)), _, _, rfl, rfl, _, rfl, ite2 (fun e2 => ?_) (fun e2 => ?_)⟩
      rotate_left
      refine ⟨_, rfl, 10, 18, rfl, rfl, ⟨by decide, by decide, by decide⟩, _, _, rfl, rfl, ?_⟩
      all_goals
        refine ⟨_, rfl, st, _, 3, 3, rfl, rfl, upd_same, rfl, ?_⟩
        refine ⟨_, rfl, st, _, 3, _, rfl, rfl, SqL.of upd_same, atI_nat (j := 3) rfl, _, rfl, ite2 (fun e3 => ?_) (fun e3 => ?_)⟩
        · refine ⟨_, rfl, _, rfl, fun H3 m sm => ?_⟩
          refine ⟨_, rfl, st, _, 2, 2, rfl, rfl, sm _ _ upd_same, rfl, ?_⟩
          refine q _ (((But.upd.trans But.upd).trans (Same.but sm)).trans But.upd) ⟨_, _, _, xs, upd_same, ?_, h3, h4⟩
          rw [upd_ne h4]
          refine sm _ _ ?_
          rw [upd_ne h4]
          exact k2 _
        · refine ⟨_, rfl, 10, 18, rfl, rfl, ⟨by decide, by decide, by decide⟩, _, _, rfl, rfl, _, rfl, st, _, 2, 2, rfl, rfl, upd_same, rfl, ?_⟩
          refine q _ ((But.upd.trans But.upd).trans But.upd) ⟨_, _, _, xs, upd_same, ?_, h3, h4⟩
          rw [upd_ne h4, upd_ne h4]
          exact k2 _
end
end SS

namespace SS
open PySem PySem.Spec PyProof.Rows L2
section
variable {P : Program} {w : World} {K : PySem.W.Frag} {mg : Str → Option Value} {base : Heap}
def spTake : Sp := fun vs H Q _ => ∃ (st c : Addr) (many : Int), vs = [.ref st, .int many] ∧ 0 < many ∧ many.natAbs < 2 ^ 8000 ∧ StA st c H ∧
  ∀ H' (d : Int), But st H H' → StA st c H' → 0 ≤ d → d < many → Q (.int d) H'
theorem scTake : FnScope ["_law_state", "_law_many", "_law_turns", "_law_digit"] ["_law_state", "_law_many"] (defScope sTake) := ⟨rfl, rfl, rfl, by decide +kernel, rfl, by decide +kernel, by decide +kernel⟩
theorem StA.put {st : Addr} {H : Hp} {c : Addr} {i n : Int} {f : Bool} {xs : List Int} (h2 : H c = some (.lst (xs.map V.int))) (h3 : xs.length ≤ 63) (h4 : c ≠ st) : StA st c (upd H st (.lst [.ref c, .int i, .int n, .bl f])) :=
  ⟨i, n, f, xs, upd_same, by rw [upd_ne h4]; exact h2, h3, h4⟩
theorem ok_take {f : Addr} {fd : FuncData} (F : Fun K "_law_take" "_law_take" sTake f fd) (fl : Cl P w K mg base CX0 2 "_law_fill" spFill []) : FnOk P w K mg base CX0 3 f fd ["_law_state", "_law_many"] spTake := by
  refine F.ok scTake (fun vs H Q E h => ?_) (fun cdv A outer s H vs Q E hr h => ?_)
  · obtain ⟨a, _, b, rfl, _⟩ := h
    rfl
  · obtain ⟨st, c, many, rfl, m0, m1, hst, q⟩ := h
    refine ⟨_, pss_cons (ps_set (i := 2) scTake.nd rfl (.inl rfl) pe_int)
      (pss_cons (ps_while PassesOwn.never
        (PW.pt (pw_and (pt_cmpR op_lt (pv 2) pe_int (nomark _)) (pw_and1 (PW.pt (pw_or (pt_cmpR op_eq (pe_ix ix_list (pv 0) pe_int (fun _ _ => rfl)) pe_int (nomark _))
          (pw_or1 (PW.pt (pw_and (pt_val (pe_ix ix_list (pv 0) pe_int (fun _ _ => rfl))) (pw_and1 (pt_cmpR op_lt (pe_ix ix_list (pv 0) pe_int (fun _ _ => rfl)) (pe_op op_mul (pv 1) pe_int) (nomark _)))))))))))
        (pss_cons (ps_expr (pc0 fl hr (by decide) (pa_cons (pv 0) pa_nil)))
        (pss_cons (ps_aug (i := 2) scTake.nd rfl (.inl rfl) pe_int ip_add)
        (pss_one (ps_if (PW.pt (pw_and (pt_val (pe_ix ix_list (pv 0) pe_int (fun _ _ => rfl))) (pw_and1 (pt_cmpR op_lt (pe_ix ix_list (pv 0) pe_int (fun _ _ => rfl)) (pe_op op_mul (pv 1) pe_int) (nomark _)))))
          (pss_one (ps_asg (pe_op op_add (pe_ix ix_list (pv 0) pe_int (fun _ _ => rfl)) (pe_op op_mul (pe_op op_mul (pv 1) pe_int) (pe_op op_add pe_int (pe_op op_mod (pe_ix ix_list (pv 0) pe_int (fun _ _ => rfl)) pe_int)))) (pg_sub (pv 0) pe_int set_list))) pss_nil)))))
      (pss_cons (ps_set (i := 3) scTake.nd rfl (.inl rfl) (pe_op op_mod (pe_ix ix_list (pv 0) pe_int (fun _ _ => rfl)) (pv 1)))
      (pss_cons (ps_asg (pe_op op_fdivW (pe_ix ix_list (pv 0) pe_int (fun _ _ => rfl)) (pv 1)) (pg_sub (pv 0) pe_int set_list))
      (pss_one (ps_ret (pv 3)))))), ?_⟩
    refine ⟨fun m σ H' => ∃ (tn : Int) (y3 : Option V), σ = [some (.ref st), some (.int many), some (.int tn), y3] ∧ But st H H' ∧ StA st c H' ∧ m = (64 - tn).toNat,
      ⟨64, 0, none, rfl, But.refl _ _, hst, rfl⟩, fun m σ H1 hW => ?_⟩
    obtain ⟨tn, y3, rfl, bt, sa, rfl⟩ := hW
    obtain ⟨i, n, b, xs, h1, h2, h3, h4⟩ := id sa
    refine ⟨_, rfl, tn, 64, rfl, rfl, _, rfl, ite2 (fun e => ?n2) (fun e => iteF ?ex1)⟩
    case' n2 => refine ⟨_, rfl, st, _, 2, _, rfl, rfl, SqL.of h1, atI_nat (j := 2) rfl, rfl, _, rfl, ite2 (fun e1 => iteT ?bd1) (fun e1 => ?n3)⟩
    case' n3 => refine ⟨_, rfl, st, _, 3, _, rfl, rfl, SqL.of h1, atI_nat (j := 3) rfl, _, rfl, ite2 (fun e2 => ?n4) (fun e2 => iteF ?ex2)⟩
    case' n4 => refine ⟨_, rfl, st, _, 2, _, rfl, rfl, SqL.of h1, atI_nat (j := 2) rfl, _, rfl, many, 4096, rfl, rfl, .inr ⟨by decide, by decide⟩, n, _, rfl, rfl, _, rfl, ite2 (fun e3 => ?bd2) (fun e3 => ?ex3)⟩
    case ex1 | ex2 | ex3 =>
      refine ⟨_, rfl, st, _, 2, _, rfl, rfl, SqL.of h1, atI_nat (j := 2) rfl, _, rfl, n, many, rfl, rfl, m0, ?_⟩
      refine ⟨_, rfl, st, _, 2, _, rfl, rfl, SqL.of h1, atI_nat (j := 2) rfl, _, rfl, n, many, rfl, rfl, wide_div m0 m1 (by decide) (by decide), _, rfl, st, _, 2, 2, rfl, rfl, h1, rfl, ?_⟩
      exact ⟨_, rfl, q _ _ (bt.trans But.upd) (StA.put h2 h3 h4) (Int.emod_nonneg _ (by omega)) (Int.emod_lt_of_pos _ m0)⟩
    case bd1 | bd2 =>
      have e' : tn < 64 := of_decide_eq_true e
      refine ⟨fun σ' H' => ∃ (tn' : Int) (y3 : Option V), σ' = [some (.ref st), some (.int many), some (.int tn'), y3] ∧ But st H H' ∧ StA st c H' ∧ tn' = tn + 1, fun σ' H' hN => ?_, ?_⟩
      · obtain ⟨t', y', r1, r2, r3, r4⟩ := hN
        exact ⟨_, by omega, t', y', r1, r2, r3, rfl⟩
      · refine ⟨_, rfl, st, c, rfl, sa, fun H2 b2 s2 => ?_⟩
        obtain ⟨i, n, b, xs, h1, h2, h3, h4⟩ := id s2
        refine ⟨_, rfl, _, _, rfl, rfl, ?_⟩
        refine ⟨_, rfl, st, _, 3, _, rfl, rfl, SqL.of h1, atI_nat (j := 3) rfl, _, rfl, ite2 (fun e2 => ?_) (fun e2 => iteF ?_)⟩
        · refine ⟨_, rfl, st, _, 2, _, rfl, rfl, SqL.of h1, atI_nat (j := 2) rfl, _, rfl, many, 4096, rfl, rfl, .inr ⟨by decide, by decide⟩, n, _, rfl, rfl, _, rfl, ite2 (fun e3 => ?_) (fun e3 => ?_)⟩
          · refine ⟨_, rfl, st, _, 2, _, rfl, rfl, SqL.of h1, atI_nat (j := 2) rfl, _, rfl, many, 4096, rfl, rfl, .inr ⟨by decide, by decide⟩, _, rfl, st, _, 2, _, rfl, rfl, SqL.of h1, atI_nat (j := 2) rfl, n, 4093, rfl, rfl, (by show (0 : Int) < 4093; decide), 1, n % 4093, rfl, rfl, _, 1 + n % 4093, rfl, rfl, .inr ⟨by omega, by omega⟩, n, _, rfl, rfl, ?_⟩
            refine ⟨_, rfl, st, _, 2, 2, rfl, rfl, h1, rfl, ?_⟩
            exact ⟨_, _, rfl, (bt.trans b2).trans But.upd, StA.put h2 h3 h4, rfl⟩
          · exact ⟨_, _, rfl, bt.trans b2, s2, rfl⟩
        · exact ⟨_, _, rfl, bt.trans b2, s2, rfl⟩
end
end SS

namespace SS
open PySem PySem.Spec PyProof.Rows L2
theorem sm_mul {i j : Int} {a b : Nat} (ha : i.natAbs < 2 ^ a) (hb : j.natAbs < 2 ^ b) : (i * j).natAbs < 2 ^ (a + b) := wide_lt ha hb
theorem sm_add {i j : Int} {a : Nat} (ha : i.natAbs < 2 ^ a) (hb : j.natAbs < 2 ^ a) : (i + j).natAbs < 2 ^ (a + 1) := by
  rw [Nat.pow_succ]
  omega
theorem sm_sub {i j : Int} {a : Nat} (ha : i.natAbs < 2 ^ a) (hb : j.natAbs < 2 ^ a) : (i - j).natAbs < 2 ^ (a + 1) := by
  rw [Nat.pow_succ]
  omega
theorem sm_mono {i : Int} {a b : Nat} (ha : i.natAbs < 2 ^ a) (h : a ≤ b) : i.natAbs < 2 ^ b := Nat.lt_of_lt_of_le ha (Nat.pow_le_pow_right (by decide) h)
theorem pos_ne {a b : Int} (h1 : 0 < a) (h2 : 0 < b) : a * b ≠ 0 := Int.ne_of_gt (Int.mul_pos h1 h2)
end SS

namespace SS
open PySem PySem.Spec PyProof.Rows L2
/-! ### how many bits a number has -/
theorem mt_bits {X : Cx} : MtR X "int.bit_length" (fun x xs H Q => ∃ a : Int, x = .int a ∧ xs = [] ∧ Q (.int ((Builtin.Int.intBits a : Nat) : Int)) H) := by
  intro pins s σ H x xs v us Q I rx rs h
  obtain ⟨a, rfl, rfl, h⟩ := h
  obtain ⟨t, rfl⟩ := rx
  cases rs
  exact call_int_bit_length ⟨.int ((Builtin.Int.intBits a : Nat) : Int), H, I.tok _, ⟨_, rfl⟩, h⟩
theorem bits_le {d : Int} {k : Nat} (h : d.natAbs < 2 ^ k) : Builtin.Int.intBits d ≤ k := by
  unfold Builtin.Int.intBits
  by_cases c : d = 0
  · rw [if_pos (beq_iff_eq.mpr c)]
    exact Nat.zero_le _
  · rw [if_neg fun z => c (beq_iff_eq.mp z)]
    exact (Nat.log2_lt (Int.natAbs_ne_zero.mpr c)).mpr h
theorem dv_lt {d g : Int} {k : Nat} (hg : g ∣ d) (h0 : g ≠ 0) (h : d.natAbs < 2 ^ k) : (d.fdiv g).natAbs < 2 ^ k := by
  obtain ⟨c, rfl⟩ := hg
  rw [gcdDvdMul h0]
  rw [Int.natAbs_mul] at h
  exact Nat.lt_of_le_of_lt (Nat.le_mul_of_pos_left _ (Int.natAbs_pos.mpr h0)) h
theorem cdiv_ok {g : Int} (h0 : g ≠ 0) (h : g.natAbs < 2 ^ 3000) (i : Int) : CDivG i g := ⟨h0, logOf (n := 3000) (by decide) h (by decide)⟩
theorem gcd_ne {a b : Int} (h : b ≠ 0) : ((Int.gcd a b : Nat) : Int) ≠ 0 := by
  have := gcdP (t := a) h
  omega
theorem gcd_ltK {a b : Int} {k : Nat} (h : b ≠ 0) (hb : b.natAbs < 2 ^ k) : ((Int.gcd a b : Nat) : Int).natAbs < 2 ^ k := by
  rw [Int.natAbs_natCast]
  exact Nat.lt_of_le_of_lt (Nat.le_of_dvd (Int.natAbs_pos.mpr h) (Nat.gcd_dvd_right ..)) hb
section
variable {P : Program} {w : World} {K : PySem.W.Frag} {mg : Str → Option Value} {base : Heap}
def shortB (d1 d2 : Int) : Bool := decide (((Builtin.Int.intBits d1 : Nat) : Int) + ((Builtin.Int.intBits d2 : Nat) : Int) ≤ 256)
theorem short_of {d1 d2 : Int} (h1 : d1.natAbs < 2 ^ 128) (h2 : d2.natAbs < 2 ^ 128) : shortB d1 d2 = true := decide_eq_true (by
  have := bits_le h1
  have := bits_le h2
  omega)
def spAre (K : PySem.W.Frag) : Sp := fun vs H Q _ => ∃ (p q : Addr) (n1 d1 n2 d2 : Int), vs = [.ref p, .ref q] ∧ SqT K H p [.int n1, .int d1] ∧ SqT K H q [.int n2, .int d2] ∧ Q (.bl (shortB d1 d2)) H
theorem scAre : FnScope ["a", "b"] ["a", "b"] (defScope sAre) := ⟨rfl, rfl, rfl, by decide +kernel, rfl, by decide +kernel, by decide +kernel⟩
theorem ok_are {f : Addr} {fd : FuncData} {k : Nat} {tSb : Tok} (F : Fun K "are_short" "are_short" sAre f fd) (gSb : mg "SHORT_BITS" = some (.int 256 tSb)) : FnOk P w K mg base CX0 (k + 1) f fd ["a", "b"] (spAre K) := by
  refine F.ok scAre (fun vs H Q E h => ?_) (fun cdv A outer s H vs Q E hr h => ?_)
  · obtain ⟨_, _, _, _, _, _, rfl, _⟩ := h
    rfl
  · obtain ⟨p, q, n1, d1, n2, d2, rfl, h1, h2, k⟩ := h
    refine ⟨_, pss_one (ps_ret (pe_cmpR op_le (pe_op op_add
        (pe_bm0 PySem.F.plainAttrs_int PySem.F.slot_int_bit_length PySem.F.type_int_bit_length mt_bits (pe_ix ix_tup (pv 0) pe_int (fun _ _ => rfl)))
        (pe_bm0 PySem.F.plainAttrs_int PySem.F.slot_int_bit_length PySem.F.type_int_bit_length mt_bits (pe_ix ix_tup (pv 1) pe_int (fun _ _ => rfl))))
      (pe_glob (v := .int 256) (by rfl) gSb ⟨_, rfl⟩) (nomark _))), ?_⟩
    refine ⟨_, rfl, p, _, 1, _, rfl, rfl, h1, atI_nat (j := 1) rfl, rfl, d1, rfl, rfl, _, rfl, q, _, 1, _, rfl, rfl, h2, atI_nat (j := 1) rfl, rfl, d2, rfl, rfl, _, _, rfl, rfl, _, _, rfl, rfl, k⟩
end
end SS

namespace SS
open PySem PySem.Spec PyProof.Rows L2
/-- a tuple of two numbers, wherever it stands -/
def FrT (K : PySem.W.Frag) (H : Hp) (p : Addr) (n d : Int) : Prop := SqT K H p [.int n, .int d] ∧ TyX K H (.ref p) (.type "tuple")
theorem FrT.of {K : PySem.W.Frag} {H : Hp} {p : Addr} {n d : Int} (h : H p = some (.tup [.int n, .int d])) : FrT K H p n d := ⟨SqT.of h, .base (.tup h)⟩
theorem FrT.new {K : PySem.W.Frag} {H H' : Hp} {p : Addr} {n d : Int} (h : FrT K H p n d) (s : Same H H') : FrT K H' p n d := by
  obtain ⟨h1, h2⟩ := h
  rcases h1 with (h1 | ⟨o, h1⟩) | ⟨o, its, m, k1, k2, k3⟩
  · exact ⟨.inl (.inl (s _ _ h1)), .base (.tup (s _ _ h1))⟩
  · exact ⟨.inl (.inr ⟨o, s _ _ h1⟩), .fTuple (s _ _ h1)⟩
  · exact ⟨.inr ⟨o, its, m, k1, k2, k3⟩, .kTuple k1 k2⟩
theorem FrT.inj {K : PySem.W.Frag} {H : Hp} {p : Addr} {n d : Int} {xs : List V} (h : FrT K H p n d) (e : H p = some (.tup xs)) : True := trivial
end SS
namespace SS
open PySem PySem.Spec PyProof.Rows L2
section
variable {P : Program} {w : World} {K : PySem.W.Frag} {mg : Str → Option Value} {base : Heap}
/-! ### a whole number, a fraction by the law's own look -/
def spWhole : Sp := fun vs H Q _ => ∃ i : Int, vs = [.int i] ∧ Q (.bl true) H
theorem scWhole : FnScope ["_law_thing"] ["_law_thing"] (defScope sWhole) := ⟨rfl, rfl, rfl, by decide +kernel, rfl, by decide +kernel, by decide +kernel⟩
theorem ok_whole {f : Addr} {fd : FuncData} {k : Nat} (F : Fun K "_law_whole" "_law_whole" sWhole f fd) (mi : mg "isinstance" = none) (mn : mg "int" = none) (mb : mg "bool" = none) : FnOk P w K mg base CX0 (k + 1) f fd ["_law_thing"] spWhole := by
  refine F.ok scWhole (fun vs H Q E h => ?_) (fun cdv A outer s H vs Q E hr h => ?_)
  · obtain ⟨a, rfl, _⟩ := h
    rfl
  · obtain ⟨i, rfl, q⟩ := h
    refine ⟨_, pss_one (ps_ret (pe_and (pe_callB call_isi (by rfl) mi boot_isinstance (pa_cons (pv 0) (pa_cons (pe_bltn (v := .ty "int") (u := .type "int") (by rfl) mn (by decide +kernel) rfl) pa_nil)))
      (pe_one (pe_not (pe_callB call_isi (by rfl) mi boot_isinstance (pa_cons (pv 0) (pa_cons (pe_bltn (v := .ty "bool") (u := .type "bool") (by rfl) mb (by decide +kernel) rfl) pa_nil))))))), ?_⟩
    refine ⟨_, rfl, .int i, .ty "int", .type "int", .type "int", true, rfl, .ty _, .base (.int i), kit_ty (by decide +kernel), _, rfl, iteT ?_⟩
    exact ⟨_, rfl, .int i, .ty "bool", .type "int", .type "bool", false, rfl, .ty _, .base (.int i), kit_ty (by decide +kernel), _, rfl, q⟩
def spIsf (K : PySem.W.Frag) : Sp := fun vs H Q _ => ∃ (p : Addr) (n d : Int), vs = [.ref p] ∧ FrT K H p n d ∧ 0 < d ∧ Int.gcd n d = 1 ∧ ∀ H', Same H H' → Q (.bl true) H'
theorem scIsf : FnScope ["_law_thing", "_law_part"] ["_law_thing"] (defScope sIsf) := ⟨rfl, rfl, rfl, by decide +kernel, rfl, by decide +kernel, by decide +kernel⟩
theorem ok_isf {f : Addr} {fd : FuncData} (F : Fun K "_law_is_fraction" "_law_is_fraction" sIsf f fd) (mi : mg "isinstance" = none) (mt : mg "tuple" = none) (ml : mg "len" = none) (ma : mg "all" = none)
    (wh : Cl P w K mg base CX0 1 "_law_whole" spWhole []) (sh : Cl P w K mg base CX0 1 "_law_shared" spGcd []) : FnOk P w K mg base CX0 2 f fd ["_law_thing"] (spIsf K) := by
  refine F.ok scIsf (fun vs H Q E h => ?_) (fun cdv A outer s H vs Q E hr h => ?_)
  · obtain ⟨a, _, _, rfl, _⟩ := h
    rfl
  · obtain ⟨p, n, d, rfl, hp, hd, hg, q⟩ := h
    refine ⟨_, pss_cons (ps_if (PW.pt (pw_or (pt_not (pt_val (pe_callB call_isi (by rfl) mi boot_isinstance (pa_cons (pv 0) (pa_cons (pe_bltn (v := .ty "tuple") (u := .type "tuple") (by rfl) mt (by decide +kernel) rfl) pa_nil)))))
        (pw_or (pt_cmpR op_ne (pe_callB call_len_seq (by rfl) ml PySem.boot_len (pa_cons (pv 0) pa_nil)) pe_int (nomark _))
        (pw_or1 (pt_not (pt_val (pe_callB (cr_all rfl) (by rfl) ma boot_all (pa_cons
          (pe_lc (own := [("_law_part", 1)]) (g := gName 1) (tt := tYes) rfl scIsf.nd (pi_tup (pv 0)) (blkOk_by (N := ["_law_thing", "_law_part"]) (sc := defScope sIsf) (by decide +kernel))
            (fun _ _ _ _ _ => pg_name (i := 1) scIsf.nd rfl (Or.inl rfl)) (fun _ _ _ _ _ => pts_nil) (fun _ _ _ _ _ => pc0 wh hr (by decide) (pa_cons (pv 1) pa_nil))) pa_nil))))))))
        (pss_one (ps_ret pe_bl)) pss_nil)
      (pss_one (ps_ret (pe_and (pe_cmpR op_gt (pe_ix ix_tup (pv 0) pe_int (fun _ _ => rfl)) pe_int (nomark _))
        (pe_one (pe_cmpR op_eq (pc0 sh hr (by decide) (pa_cons (pe_ix ix_tup (pv 0) pe_int (fun _ _ => rfl)) (pa_cons (pe_ix ix_tup (pv 0) pe_int (fun _ _ => rfl)) pa_nil))) pe_int (nomark _)))))), ?_⟩
    refine ⟨_, rfl, .ref p, .ty "tuple", .type "tuple", .type "tuple", true, rfl, .ty _, hp.2, kit_ty (by decide +kernel), _, rfl, iteF ?_⟩
    refine ⟨_, rfl, p, _, rfl, .inr (hp.1), rfl, _, rfl, iteNS rfl ?_⟩
    refine ⟨_, rfl, p, rfl, ⟨_, hp.1⟩, fun D nD => lc_tup (K := K) (a := p) (xs := [.int n, .int d]) (fun i H' => H' D = some (.lst (List.replicate i (.bl true))) ∧ ∀ b o, b ≠ D → H b = some o → H' b = some o)
      ⟨upd_same, fun b o nb e => by rw [upd_ne nb]; exact e⟩ (fun i H' _ hW => (hp.new (fun b o e => hW.2 b o (ne_of_none e nD) e)).1) ?_ ?_⟩
    · rintro i x H' hx ⟨w1, w2⟩
      obtain ⟨z, rfl⟩ : ∃ z : Int, x = .int z := by
        match i, hx with
        | 0, hx => exact ⟨n, (Option.some.inj hx).symm⟩
        | 1, hx => exact ⟨d, (Option.some.inj hx).symm⟩
      have hi : i < 2 := by
        have zz := (List.getElem?_eq_some_iff.mp hx).1
        exact zz
      refine ⟨rfl, _, rfl, z, rfl, _, w1, ?_, ?_, ?_⟩
      · rw [List.length_replicate]
        exact small1000 (by omega)
      · rw [upd_same, List.replicate_succ']
      · intro b o nb e
        rw [upd_ne nb]
        exact w2 b o nb e
    · rintro H' ⟨w1, w2⟩
      refine ⟨D, [true, true], rfl, SqL.of w1, _, rfl, iteF ?_⟩
      have sm : Same H H' := fun b o e => w2 b o (ne_of_none e nD) e
      have hp' := hp.new sm
      refine ⟨_, rfl, p, _, 1, _, rfl, rfl, hp'.1, atI_nat (j := 1) rfl, d, 0, rfl, rfl, true, congrArg V.bl (decide_eq_true hd), iteT ?_⟩
      refine ⟨_, rfl, p, _, 0, _, rfl, rfl, hp'.1, atI_nat (j := 0) rfl, _, rfl, p, _, 1, _, rfl, rfl, hp'.1, atI_nat (j := 1) rfl, n, d, rfl, rfl, ?_⟩
      rw [hg]
      exact q _ sm
end
end SS
namespace SS
open PySem PySem.Spec PyProof.Rows L2
section
variable {P : Program} {w : World} {K : PySem.W.Frag} {mg : Str → Option Value} {base : Heap}
/-! ### plus, minus, times, over, is_less -/
/-- two fractions of few bits come in -/
def Two (K : PySem.W.Frag) (H : Hp) (vs : List V) (n1 d1 n2 d2 : Int) : Prop := ∃ p q : Addr, vs = [.ref p, .ref q] ∧ FrT K H p n1 d1 ∧ FrT K H q n2 d2 ∧
  0 < d1 ∧ 0 < d2 ∧ n1.natAbs < 2 ^ 3000 ∧ d1.natAbs < 2 ^ 3000 ∧ n2.natAbs < 2 ^ 3000 ∧ d2.natAbs < 2 ^ 3000 ∧ Int.gcd n1 d1 = 1 ∧ Int.gcd n2 d2 = 1
def spPlus (K : PySem.W.Frag) : Sp := fun vs H Q _ => ∃ n1 d1 n2 d2 : Int, Two K H vs n1 d1 n2 d2 ∧ ∀ r, H r = none → Q (.ref r) (upd H r (.tup [.int (fr1 (n1 * d2 + n2 * d1) (d1 * d2)), .int (fr2 (n1 * d2 + n2 * d1) (d1 * d2))]))
theorem scPlus : FnScope ["a", "b", "shared", "top", "divisor"] ["a", "b"] (defScope sPlus) := ⟨rfl, rfl, rfl, by decide +kernel, rfl, by decide +kernel, by decide +kernel⟩
theorem ok_plus {f C : Addr} {fd : FuncData} (F : Fun K "plus" "plus" sPlus f fd) (fo : Cl P w K mg base (L2.CX P w) 2 "fraction_of" (spFo C) []) (cd : Cl P w K mg base CX0 1 "common_divisor" spGcd []) (ar : Cl P w K mg base CX0 1 "are_short" (spAre K) []) : FnOk P w K mg base CX0 3 f fd ["a", "b"] (spPlus K) := by
  refine F.ok scPlus (fun vs H Q E h => ?_) (fun cdv A outer s H vs Q E hr h => ?_)
  · obtain ⟨_, _, _, _, ⟨p, q, rfl, _⟩, _⟩ := h
    rfl
  · obtain ⟨n1, d1, n2, d2, ⟨p, q, rfl, h1, h2, z1, z2, b1, b2, b3, b4, g1, g2⟩, k⟩ := h
    refine ⟨_, (pss_cons (ps_if (pt_val (pc0 ar hr (by decide) (pa_cons (pv 0) (pa_cons (pv 1) pa_nil))))
        (pss_one (ps_ret (pcX fo hr (by decide) (pa_cons (pe_op op_add (pe_op op_mulW (pe_ix ix_tup (pv 0) pe_int (fun _ _ => rfl)) (pe_ix ix_tup (pv 1) pe_int (fun _ _ => rfl))) (pe_op op_mulW (pe_ix ix_tup (pv 1) pe_int (fun _ _ => rfl)) (pe_ix ix_tup (pv 0) pe_int (fun _ _ => rfl)))) (pa_cons (pe_op op_mulW (pe_ix ix_tup (pv 0) pe_int (fun _ _ => rfl)) (pe_ix ix_tup (pv 1) pe_int (fun _ _ => rfl))) pa_nil))))) pss_nil)
      (pss_cons (ps_set (i := 2) scPlus.nd rfl (.inl rfl) (pc0 cd hr (by decide) (pa_cons (pe_ix ix_tup (pv 0) pe_int (fun _ _ => rfl)) (pa_cons (pe_ix ix_tup (pv 1) pe_int (fun _ _ => rfl)) pa_nil))))
      (pss_cons (ps_set (i := 3) scPlus.nd rfl (.inl rfl) (pe_op op_add (pe_op op_mulW (pe_ix ix_tup (pv 0) pe_int (fun _ _ => rfl)) (pe_op op_fdivG (pe_ix ix_tup (pv 1) pe_int (fun _ _ => rfl)) (pv 2))) (pe_op op_mulW (pe_ix ix_tup (pv 1) pe_int (fun _ _ => rfl)) (pe_op op_fdivG (pe_ix ix_tup (pv 0) pe_int (fun _ _ => rfl)) (pv 2)))))
      (pss_cons (ps_set (i := 4) scPlus.nd rfl (.inl rfl) (pc0 cd hr (by decide) (pa_cons (pv 3) (pa_cons (pv 2) pa_nil))))
      (pss_one (ps_ret (pe_tup (pa_cons (pe_op op_fdivG (pv 3) (pv 4)) (pa_cons (pe_op op_mulW (pe_op op_fdivG (pe_ix ix_tup (pv 0) pe_int (fun _ _ => rfl)) (pv 2)) (pe_op op_fdivG (pe_ix ix_tup (pv 1) pe_int (fun _ _ => rfl)) (pv 4))) pa_nil))))))))), ?_⟩
    refine ⟨_, rfl, _, rfl, p, q, n1, d1, n2, d2, rfl, h1.1, h2.1, _, rfl, ite2 (fun _ => ?_) (fun _ => ?_)⟩
    · refine ⟨_, rfl, p, _, 0, _, rfl, rfl, h1.1, atI_nat (j := 0) rfl, _, rfl, q, _, 1, _, rfl, rfl, h2.1, atI_nat (j := 1) rfl, n1, d2, rfl, rfl, wide_mul b1 b4 (by decide) (by decide) (by decide), ?_⟩
      refine ⟨_, rfl, q, _, 0, _, rfl, rfl, h2.1, atI_nat (j := 0) rfl, _, rfl, p, _, 1, _, rfl, rfl, h1.1, atI_nat (j := 1) rfl, n2, d1, rfl, rfl, wide_mul b3 b2 (by decide) (by decide) (by decide), _, _, rfl, rfl, ?_⟩
      refine ⟨_, rfl, p, _, 1, _, rfl, rfl, h1.1, atI_nat (j := 1) rfl, _, rfl, q, _, 1, _, rfl, rfl, h2.1, atI_nat (j := 1) rfl, d1, d2, rfl, rfl, wide_mul b2 b4 (by decide) (by decide) (by decide), ?_⟩
      exact ⟨n1 * d2 + n2 * d1, d1 * d2, rfl, fun e => absurd e (pos_ne z1 z2), fun _ => ⟨sm_mono (sm_mul b2 b4) (by decide), k⟩⟩
    · have d20 : d2 ≠ 0 := Int.ne_of_gt z2
      have s0 : plD d1 d2 ≠ 0 := gcd_ne d20
      have sl : (plD d1 d2).natAbs < 2 ^ 3000 := gcd_ltK d20 b4
      have G0 : plG n1 d1 n2 d2 ≠ 0 := gcd_ne s0
      have Gl : (plG n1 d1 n2 d2).natAbs < 2 ^ 3000 := gcd_ltK s0 sl
      have sd1 : plD d1 d2 ∣ d1 := Int.gcd_dvd_left d1 d2
      have sd2 : plD d1 d2 ∣ d2 := Int.gcd_dvd_right d1 d2
      have Gd2 : plG n1 d1 n2 d2 ∣ d2 := Int.dvd_trans (Int.gcd_dvd_right (plT n1 d1 n2 d2) (plD d1 d2)) sd2
      refine ⟨_, rfl, p, _, 1, _, rfl, rfl, h1.1, atI_nat (j := 1) rfl, _, rfl, q, _, 1, _, rfl, rfl, h2.1, atI_nat (j := 1) rfl, d1, d2, rfl, ?_⟩
      refine ⟨_, rfl, p, _, 0, _, rfl, rfl, h1.1, atI_nat (j := 0) rfl, _, rfl, q, _, 1, _, rfl, rfl, h2.1, atI_nat (j := 1) rfl, _, rfl, d2, plD d1 d2, rfl, rfl, cdiv_ok s0 sl d2, n1, d2.fdiv (plD d1 d2), rfl, rfl, wide_mul b1 (dv_lt sd2 s0 b4) (by decide) (by decide) (by decide), ?_⟩
      refine ⟨_, rfl, q, _, 0, _, rfl, rfl, h2.1, atI_nat (j := 0) rfl, _, rfl, p, _, 1, _, rfl, rfl, h1.1, atI_nat (j := 1) rfl, _, rfl, d1, plD d1 d2, rfl, rfl, cdiv_ok s0 sl d1, n2, d1.fdiv (plD d1 d2), rfl, rfl, wide_mul b3 (dv_lt sd1 s0 b2) (by decide) (by decide) (by decide), _, _, rfl, rfl, ?_⟩
      refine ⟨_, rfl, _, rfl, plT n1 d1 n2 d2, plD d1 d2, rfl, ?_⟩
      refine ⟨_, rfl, _, rfl, plT n1 d1 n2 d2, plG n1 d1 n2 d2, rfl, rfl, cdiv_ok G0 Gl _, ?_⟩
      refine ⟨_, rfl, p, _, 1, _, rfl, rfl, h1.1, atI_nat (j := 1) rfl, _, rfl, d1, plD d1 d2, rfl, rfl, cdiv_ok s0 sl d1, _, rfl, q, _, 1, _, rfl, rfl, h2.1, atI_nat (j := 1) rfl, _, rfl, d2, plG n1 d1 n2 d2, rfl, rfl, cdiv_ok G0 Gl d2, d1.fdiv (plD d1 d2), d2.fdiv (plG n1 d1 n2 d2), rfl, rfl, wide_mul (dv_lt sd1 s0 b2) (dv_lt Gd2 G0 b4) (by decide) (by decide) (by decide), small2, ?_⟩
      have e := plus_long z1 z2 g1 g2
      rw [← e.1, ← e.2] at k
      exact k
def spTimes (K : PySem.W.Frag) : Sp := fun vs H Q _ => ∃ n1 d1 n2 d2 : Int, Two K H vs n1 d1 n2 d2 ∧ ∀ r, H r = none → Q (.ref r) (upd H r (.tup [.int (fr1 (n1 * n2) (d1 * d2)), .int (fr2 (n1 * n2) (d1 * d2))]))
end
end SS

namespace SS
open PySem PySem.Spec PyProof.Rows L2
section
variable {P : Program} {w : World} {K : PySem.W.Frag} {mg : Str → Option Value} {base : Heap}
theorem scTimes : FnScope ["a", "b", "one", "other"] ["a", "b"] (defScope sTimes) := ⟨rfl, rfl, rfl, by decide +kernel, rfl, by decide +kernel, by decide +kernel⟩
theorem ok_times {f C : Addr} {fd : FuncData} (F : Fun K "times" "times" sTimes f fd) (fo : Cl P w K mg base (L2.CX P w) 2 "fraction_of" (spFo C) []) (cd : Cl P w K mg base CX0 1 "common_divisor" spGcd []) (ar : Cl P w K mg base CX0 1 "are_short" (spAre K) []) : FnOk P w K mg base CX0 3 f fd ["a", "b"] (spTimes K) := by
  refine F.ok scTimes (fun vs H Q E h => ?_) (fun cdv A outer s H vs Q E hr h => ?_)
  · obtain ⟨_, _, _, _, ⟨p, q, rfl, _⟩, _⟩ := h
    rfl
  · obtain ⟨n1, d1, n2, d2, ⟨p, q, rfl, h1, h2, z1, z2, b1, b2, b3, b4, g1, g2⟩, k⟩ := h
    refine ⟨_, (pss_cons (ps_if (pt_val (pc0 ar hr (by decide) (pa_cons (pv 0) (pa_cons (pv 1) pa_nil))))
        (pss_one (ps_ret (pcX fo hr (by decide) (pa_cons (pe_op op_mulW (pe_ix ix_tup (pv 0) pe_int (fun _ _ => rfl)) (pe_ix ix_tup (pv 1) pe_int (fun _ _ => rfl))) (pa_cons (pe_op op_mulW (pe_ix ix_tup (pv 0) pe_int (fun _ _ => rfl)) (pe_ix ix_tup (pv 1) pe_int (fun _ _ => rfl))) pa_nil))))) pss_nil)
      (pss_cons (ps_par (i := 2) (j := 3) rfl scTimes.nd rfl rfl (by decide) rfl rfl (pa_cons (pc0 cd hr (by decide) (pa_cons (pe_ix ix_tup (pv 0) pe_int (fun _ _ => rfl)) (pa_cons (pe_ix ix_tup (pv 1) pe_int (fun _ _ => rfl)) pa_nil))) (pa_cons (pc0 cd hr (by decide) (pa_cons (pe_ix ix_tup (pv 1) pe_int (fun _ _ => rfl)) (pa_cons (pe_ix ix_tup (pv 0) pe_int (fun _ _ => rfl)) pa_nil))) pa_nil)) rfl)
      (pss_one (ps_ret (pe_tup (pa_cons (pe_op op_mulW (pe_op op_fdivG (pe_ix ix_tup (pv 0) pe_int (fun _ _ => rfl)) (pv 2)) (pe_op op_fdivG (pe_ix ix_tup (pv 1) pe_int (fun _ _ => rfl)) (pv 3))) (pa_cons (pe_op op_mulW (pe_op op_fdivG (pe_ix ix_tup (pv 0) pe_int (fun _ _ => rfl)) (pv 3)) (pe_op op_fdivG (pe_ix ix_tup (pv 1) pe_int (fun _ _ => rfl)) (pv 2))) pa_nil))))))), ?_⟩
    refine ⟨_, rfl, _, rfl, p, q, n1, d1, n2, d2, rfl, h1.1, h2.1, _, rfl, ite2 (fun _ => ?_) (fun _ => ?_)⟩
    · refine ⟨_, rfl, p, _, 0, _, rfl, rfl, h1.1, atI_nat (j := 0) rfl, _, rfl, q, _, 0, _, rfl, rfl, h2.1, atI_nat (j := 0) rfl, n1, n2, rfl, rfl, wide_mul b1 b3 (by decide) (by decide) (by decide), ?_⟩
      refine ⟨_, rfl, p, _, 1, _, rfl, rfl, h1.1, atI_nat (j := 1) rfl, _, rfl, q, _, 1, _, rfl, rfl, h2.1, atI_nat (j := 1) rfl, d1, d2, rfl, rfl, wide_mul b2 b4 (by decide) (by decide) (by decide), ?_⟩
      exact ⟨n1 * n2, d1 * d2, rfl, fun e => absurd e (pos_ne z1 z2), fun _ => ⟨sm_mono (sm_mul b2 b4) (by decide), k⟩⟩
    · have d10 : d1 ≠ 0 := Int.ne_of_gt z1
      have d20 : d2 ≠ 0 := Int.ne_of_gt z2
      have a0 := gcd_ne (a := n1) d20
      have al := gcd_ltK (a := n1) d20 b4
      have c0 := gcd_ne (a := n2) d10
      have cl := gcd_ltK (a := n2) d10 b2
      have e := times_long z1 z2 g1 g2
      have m1 := dv_lt (Int.gcd_dvd_left n1 d2) a0 b1
      have m2 := dv_lt (Int.gcd_dvd_right n1 d2) a0 b4
      have m3 := dv_lt (Int.gcd_dvd_left n2 d1) c0 b3
      have m4 := dv_lt (Int.gcd_dvd_right n2 d1) c0 b2
      refine ⟨_, rfl, p, _, 0, _, rfl, rfl, h1.1, atI_nat (j := 0) rfl, _, rfl, q, _, 1, _, rfl, rfl, h2.1, atI_nat (j := 1) rfl, n1, d2, rfl, _, rfl, q, _, 0, _, rfl, rfl, h2.1, atI_nat (j := 0) rfl, _, rfl, p, _, 1, _, rfl, rfl, h1.1, atI_nat (j := 1) rfl, n2, d1, rfl, _, _, rfl, ?_⟩
      generalize ((Int.gcd n1 d2 : Nat) : Int) = a at *
      generalize ((Int.gcd n2 d1 : Nat) : Int) = c at *
      refine ⟨_, rfl, p, _, 0, _, rfl, rfl, h1.1, atI_nat (j := 0) rfl, _, rfl, n1, a, rfl, rfl, cdiv_ok a0 al n1, _, rfl, q, _, 0, _, rfl, rfl, h2.1, atI_nat (j := 0) rfl, _, rfl, n2, c, rfl, rfl, cdiv_ok c0 cl n2, n1.fdiv a, n2.fdiv c, rfl, rfl, wide_mul m1 m3 (by decide) (by decide) (by decide), ?_⟩
      refine ⟨_, rfl, p, _, 1, _, rfl, rfl, h1.1, atI_nat (j := 1) rfl, _, rfl, d1, c, rfl, rfl, cdiv_ok c0 cl d1, _, rfl, q, _, 1, _, rfl, rfl, h2.1, atI_nat (j := 1) rfl, _, rfl, d2, a, rfl, rfl, cdiv_ok a0 al d2, d1.fdiv c, d2.fdiv a, rfl, rfl, wide_mul m4 m2 (by decide) (by decide) (by decide), small2, ?_⟩
      rw [← e.1, ← e.2] at k
      exact k
end
end SS

namespace SS
open PySem PySem.Spec PyProof.Rows L2
section
variable {P : Program} {w : World} {K : PySem.W.Frag} {mg : Str → Option Value} {base : Heap}
theorem scLPlus : FnScope ["_law_a", "_law_b"] ["_law_a", "_law_b"] (defScope sLPlus) := ⟨rfl, rfl, rfl, by decide +kernel, rfl, by decide +kernel, by decide +kernel⟩
theorem ok_lplus {f : Addr} {fd : FuncData} (F : Fun K "_law_plus" "_law_plus" sLPlus f fd) (fo : Cl P w K mg base CX0 2 "_law_frac" spFrac []) : FnOk P w K mg base CX0 3 f fd ["_law_a", "_law_b"] (spPlus K) := by
  refine F.ok scLPlus (fun vs H Q E h => ?_) (fun cdv A outer s H vs Q E hr h => ?_)
  · obtain ⟨_, _, _, _, ⟨p, q, rfl, _⟩, _⟩ := h
    rfl
  · obtain ⟨n1, d1, n2, d2, ⟨p, q, rfl, h1, h2, z1, z2, b1, b2, b3, b4, _, _⟩, k⟩ := h
    refine ⟨_, pss_one (ps_ret (pc0 fo hr (by decide) (pa_cons (pe_op op_add (pe_op op_mulW (pe_ix ix_tup (pv 0) pe_int (fun _ _ => rfl)) (pe_ix ix_tup (pv 1) pe_int (fun _ _ => rfl)))
      (pe_op op_mulW (pe_ix ix_tup (pv 1) pe_int (fun _ _ => rfl)) (pe_ix ix_tup (pv 0) pe_int (fun _ _ => rfl))))
      (pa_cons (pe_op op_mulW (pe_ix ix_tup (pv 0) pe_int (fun _ _ => rfl)) (pe_ix ix_tup (pv 1) pe_int (fun _ _ => rfl))) pa_nil)))), ?_⟩
    refine ⟨_, rfl, p, _, 0, _, rfl, rfl, h1.1, atI_nat (j := 0) rfl, _, rfl, q, _, 1, _, rfl, rfl, h2.1, atI_nat (j := 1) rfl, n1, d2, rfl, rfl, wide_mul b1 b4 (by decide) (by decide) (by decide), ?_⟩
    refine ⟨_, rfl, q, _, 0, _, rfl, rfl, h2.1, atI_nat (j := 0) rfl, _, rfl, p, _, 1, _, rfl, rfl, h1.1, atI_nat (j := 1) rfl, n2, d1, rfl, rfl, wide_mul b3 b2 (by decide) (by decide) (by decide), _, _, rfl, rfl, ?_⟩
    refine ⟨_, rfl, p, _, 1, _, rfl, rfl, h1.1, atI_nat (j := 1) rfl, _, rfl, q, _, 1, _, rfl, rfl, h2.1, atI_nat (j := 1) rfl, d1, d2, rfl, rfl, wide_mul b2 b4 (by decide) (by decide) (by decide), ?_⟩
    exact ⟨n1 * d2 + n2 * d1, d1 * d2, rfl, pos_ne z1 z2, sm_mono (sm_mul b2 b4) (by decide), k⟩
theorem scLTimes : FnScope ["_law_a", "_law_b"] ["_law_a", "_law_b"] (defScope sLTimes) := ⟨rfl, rfl, rfl, by decide +kernel, rfl, by decide +kernel, by decide +kernel⟩
theorem ok_ltimes {f : Addr} {fd : FuncData} (F : Fun K "_law_times" "_law_times" sLTimes f fd) (fo : Cl P w K mg base CX0 2 "_law_frac" spFrac []) : FnOk P w K mg base CX0 3 f fd ["_law_a", "_law_b"] (spTimes K) := by
  refine F.ok scLTimes (fun vs H Q E h => ?_) (fun cdv A outer s H vs Q E hr h => ?_)
  · obtain ⟨_, _, _, _, ⟨p, q, rfl, _⟩, _⟩ := h
    rfl
  · obtain ⟨n1, d1, n2, d2, ⟨p, q, rfl, h1, h2, z1, z2, b1, b2, b3, b4, _, _⟩, k⟩ := h
    refine ⟨_, pss_one (ps_ret (pc0 fo hr (by decide) (pa_cons (pe_op op_mulW (pe_ix ix_tup (pv 0) pe_int (fun _ _ => rfl)) (pe_ix ix_tup (pv 1) pe_int (fun _ _ => rfl)))
      (pa_cons (pe_op op_mulW (pe_ix ix_tup (pv 0) pe_int (fun _ _ => rfl)) (pe_ix ix_tup (pv 1) pe_int (fun _ _ => rfl))) pa_nil)))), ?_⟩
    refine ⟨_, rfl, p, _, 0, _, rfl, rfl, h1.1, atI_nat (j := 0) rfl, _, rfl, q, _, 0, _, rfl, rfl, h2.1, atI_nat (j := 0) rfl, n1, n2, rfl, rfl, wide_mul b1 b3 (by decide) (by decide) (by decide), ?_⟩
    refine ⟨_, rfl, p, _, 1, _, rfl, rfl, h1.1, atI_nat (j := 1) rfl, _, rfl, q, _, 1, _, rfl, rfl, h2.1, atI_nat (j := 1) rfl, d1, d2, rfl, rfl, wide_mul b2 b4 (by decide) (by decide) (by decide), ?_⟩
    exact ⟨n1 * n2, d1 * d2, rfl, pos_ne z1 z2, sm_mono (sm_mul b2 b4) (by decide), k⟩
end
end SS

namespace SS
open PySem PySem.Spec PyProof.Rows L2
/-! ### names: texts of one to six small letters -/
def NmOk (x : Str) : Prop := 0 < x.cps.toList.length ∧ x.cps.toList.length < 7 ∧ ∀ c ∈ x.cps.toList, 97 ≤ c ∧ c ≤ 122
instance (x : Str) : Decidable (NmOk x) := inferInstanceAs (Decidable (_ ∧ _ ∧ _))
abbrev abc : Str := "abcdefghijklmnopqrstuvwxyz"
abbrev ownL : List Str := ["is", "most", "least", "below", "above", "tell", "enter", "none", "first", "point", "mark", "x"]
theorem own_ok : ∀ x ∈ ownL, NmOk x := by decide +kernel
theorem abc_len : abc.length = 26 := by decide +kernel
theorem abc_at : ∀ i : Nat, i < 26 → abc.cps[i]? = some (97 + i) := by decide +kernel
theorem join_ones : ∀ cs : List Nat, (Txt.join "" (cs.map fun c => (⟨#[c]⟩ : Str))).cps.toList = cs := fun cs => by
  have e := eq_of_beq (PyProof.Rows.join_plain_closes "" (cs.map fun c => (⟨#[c]⟩ : Str)))
  rw [e]
  have e2 : ∀ l : List (List Nat), TL.joinL [] l = l.flatten := fun l => by
    induction l with
    | nil => rfl
    | cons p r ih =>
      cases r with
      | nil => simp [TL.joinL]
      | cons q r => simp only [TL.joinL, List.nil_append, ih, List.flatten_cons]
  have e3 := TL.tl_join "" (cs.map fun c => (⟨#[c]⟩ : Str))
  refine e3.trans ?_
  rw [show TL.tl "" = [] from rfl, e2, List.map_map]
  clear e e3 e2
  induction cs with
  | nil => rfl
  | cons c cs ih =>
    rw [List.map_cons, List.flatten_cons]
    show c :: _ = c :: cs
    exact congrArg _ ih
/-- x * n of a text, n from 1 to 3 -/
theorem op_mulS {X : Cx} : OpR X (binaryOp .Mult) (fun x y H Q => ∃ (z : Str) (n : Int), x = .str z ∧ y = .int n ∧ 1 ≤ n ∧ n ≤ 3 ∧ z.length ≤ 6 ∧ ∀ z' : Str, z'.cps.toList = (List.replicate n.toNat z.cps.toList).flatten → Q (.str z') H) := by
  intro pins s σ H x y v u Q I rx ry h
  obtain ⟨z, n, rfl, rfl, n1, n3, zl, q⟩ := h
  obtain ⟨t, rfl⟩ := rx
  obtain ⟨t', rfl⟩ := ry
  refine P.mul_str ?_ (fun _ _ => ?_) (fun _ _ => ?_) ?_
  · rw [decide_eq_false (by omega), decide_eq_false (by omega)]
    rfl
  · have : n = 1 ∨ n = 2 ∨ n = 3 := by omega
    rcases this with e | e | e <;> subst e <;> omega
  · have : n = 1 ∨ n = 2 ∨ n = 3 := by omega
    have zz : ∀ m : Nat, m ≤ 18 → Builtin.Str.tooLong m = false := fun m hm => by
      unfold Builtin.Str.tooLong
      exact decide_eq_false (by
        have : sizeLine = 16777216 := sizeLine_eq
        omega)
    rcases this with e | e | e <;> subst e <;> exact zz _ (by simp; omega)
  · rw [if_neg (by omega)]
    by_cases c : (n == 1 || z.length == 0) = true
    · rw [if_pos c]
      refine ⟨.str z, H, I, ⟨t, rfl⟩, q z ?_⟩
      rw [Bool.or_eq_true, beq_iff_eq, beq_iff_eq] at c
      rcases c with c | c
      · subst c
        simp
      · have : z.cps.toList = [] := by
          apply List.eq_nil_of_length_eq_zero
          rw [Array.length_toList]
          exact c
        rw [this]
        simp
    · rw [if_neg c]
      have : n = 1 ∨ n = 2 ∨ n = 3 := by omega
      have sl : sizeLine = 16777216 := sizeLine_eq
      have zl' : z.cps.size ≤ 6 := zl
      refine ⟨?_, ⟨.str _, H, I.tok _, ⟨_, rfl⟩, q _ ?_⟩⟩
      · show Array.size _ ≤ sizeLine
        rw [sl]
        rcases this with e | e | e <;> subst e <;> simp [List.replicate] <;> omega
      · rcases this with e | e | e <;> subst e <;> simp [List.replicate]
end SS

namespace SS
open PySem PySem.Spec PyProof.Rows L2
theorem lt8 {n : Int} (h : n.natAbs < 2 ^ 100) : n.natAbs < 2 ^ 8000 := sm_mono h (by decide)
theorem cut1S {z : Str} (h : 0 < z.cps.toList.length) : (cutS z none (some 1)).cps.toList = z.cps.toList.take 1 := by
  unfold cutS
  have hl : z.length = z.cps.toList.length := by
    rw [Array.length_toList]
    rfl
  rw [HT.sIx_none, show HT.sIx z.length z.length (some 1) = min 1 z.length from HT.sIx_nat z.length z.length 1, hl, Nat.min_eq_left h]
  rfl
theorem NmOk.cut {z : Str} (h : NmOk z) : NmOk (cutS z none (some 1)) := by
  obtain ⟨h1, h2, h3⟩ := h
  unfold NmOk
  rw [cut1S h1, List.length_take]
  exact ⟨by omega, by omega, fun c hc => h3 c (List.mem_of_mem_take hc)⟩
theorem NmOk.len {z : Str} (h : NmOk z) : z.length ≤ sizeLine := by
  have e : z.length = z.cps.toList.length := by
    rw [Array.length_toList]
    rfl
  have sl : sizeLine = 16777216 := sizeLine_eq
  have := h.2.1
  omega
theorem at_str {xs : List Str} {d : Int} (h0 : 0 ≤ d) (h : d < xs.length) : ∃ x, x ∈ xs ∧ atI (xs.map V.str) d = some (.str x) := by
  have hn : d.toNat < xs.length := by omega
  refine ⟨xs[d.toNat], List.getElem_mem hn, at_of (j := d.toNat) (by omega) ?_⟩
  rw [List.getElem?_map, List.getElem?_eq_getElem hn]
  rfl
section
variable {P : Program} {w : World} {K : PySem.W.Frag} {mg : Str → Option Value} {base : Heap}
def spSname : Sp := fun vs H Q _ => ∃ st c : Addr, vs = [.ref st] ∧ StA st c H ∧ ∀ H' x, But st H H' → StA st c H' → NmOk x → Q (.str x) H'
theorem scSname : FnScope ["_law_state", "_law_letters", "_law_own", "_law_way", "_law_word", "_law_k"] ["_law_state"] (defScope sSname) := ⟨rfl, rfl, rfl, by decide +kernel, rfl, by decide +kernel, by decide +kernel⟩
theorem ok_sname {f : Addr} {fd : FuncData} (F : Fun K "_law_some_name" "_law_some_name" sSname f fd) (mr : mg "range" = none) (tk : Cl P w K mg base CX0 3 "_law_take" spTake []) : FnOk P w K mg base CX0 4 f fd ["_law_state"] spSname := by
  refine F.ok scSname (fun vs H Q E h => ?_) (fun cdv A outer s H vs Q E hr h => ?_)
  · obtain ⟨_, _, rfl, _⟩ := h
    rfl
  · obtain ⟨st, c, rfl, sa, q⟩ := h
    refine ⟨_, pss_cons (ps_set (i := 1) scSname.nd rfl (.inr rfl) pe_str)
      (pss_cons (ps_set (i := 2) scSname.nd rfl (.inl rfl) (pe_tup (pa_cons pe_str (pa_cons pe_str (pa_cons pe_str (pa_cons pe_str (pa_cons pe_str (pa_cons pe_str (pa_cons pe_str (pa_cons pe_str (pa_cons pe_str (pa_cons pe_str (pa_cons pe_str (pa_cons pe_str pa_nil))))))))))))))
      (pss_cons (ps_set (i := 3) scSname.nd rfl (.inl rfl) (pc0 tk hr (by decide) (pa_cons (pv 0) (pa_cons pe_int pa_nil))))
      (pss_cons (ps_set (i := 4) scSname.nd rfl (.inl rfl) (pe_join pe_str
        (pe_lc (own := [("_law_k", 5)]) (g := gName 5) (tt := tYes) rfl scSname.nd (pi_range1 rfl mr (pa_cons (pe_op op_add pe_int (pc0 tk hr (by decide) (pa_cons (pv 0) (pa_cons pe_int pa_nil)))) pa_nil)) (blkOk_by (by rfl))
          (fun _ _ _ _ _ => pg_name (i := 5) scSname.nd rfl (Or.inl rfl)) (fun _ _ _ _ _ => pts_nil)
          (fun _ _ _ _ _ => pe_item_str (pv 1) (pc0 tk hr (by decide) (pa_cons (pv 0) (pa_cons pe_int pa_nil))) (fun _ _ => rfl)))))
      (pss_one (ps_ret (pe_ix ix_tup (pe_tup (pa_cons (pv 4) (pa_cons (pe_ix ix_tup (pv 2) (pc0 tk hr (by decide) (pa_cons (pv 0) (pa_cons pe_int pa_nil))) (fun _ _ => rfl)) (pa_cons (pe_slice sl_str (pv 4) po_none (po_some pe_int)) (pa_cons (pv 4) pa_nil))))) (pv 3) (fun _ _ => rfl))))))), ?_⟩
    refine ⟨by show 12 ≤ sizeLine; decide, fun U nU => ?_⟩
    have sU := same_new (o := .tup (ownL.map V.str)) nU
    refine ⟨_, rfl, st, c, 4, rfl, by decide, lt8 (by decide), sa.same sU, fun H1 wy b1 s1 l1 u1 => ?_⟩
    have hU1 : H1 U = some (.tup (ownL.map V.str)) := b1.tup (sa.same sU) upd_same
    refine ⟨⟨_, rfl⟩, _, rfl, st, c, 6, rfl, by decide, lt8 (by decide), s1, fun H2 d2 b2 s2 l2 u2 => ⟨1, d2, rfl, rfl, 1 + d2, rfl, by omega, by omega, fun D nD => ?_⟩⟩
    have hU2 : H2 U = some (.tup (ownL.map V.str)) := b2.tup s1 hU1
    have Ds := s2.fresh nD
    have Dc := s2.fresh2 nD
    refine lc_range (lo := 0) (n := (1 + d2).toNat) (fun i H' => ∃ cs : List Nat, H' D = some (.lst ((cs.map fun c => (⟨#[c]⟩ : Str)).map V.str)) ∧ cs.length = i ∧ (∀ c ∈ cs, 97 ≤ c ∧ c ≤ 122) ∧ StA st c H' ∧ ∀ b o, b ≠ st → b ≠ D → H2 b = some o → H' b = some o)
      ⟨[], upd_same, rfl, fun c hc => absurd hc List.not_mem_nil, s2.other Ds Dc, fun b o _ nb e => by rw [upd_ne nb]; exact e⟩ ?_ ?_
    · rintro i H3 hi ⟨cs, k1, k2, k3, k4, k5⟩
      refine ⟨rfl, _, rfl, _, rfl, st, c, 26, rfl, by decide, lt8 (by decide), k4, fun H4 d4 b4 s4 l4 u4 => ?_⟩
      have hD4 := b4 _ _ Ds k1
      refine ⟨abc, d4, 97 + d4.toNat, rfl, rfl, l4, by omega, by rw [abc_len]; omega, abc_at _ (by omega), _, hD4, ?_, cs ++ [97 + d4.toNat], ?_, ?_, ?_, s4.other Ds Dc, ?_⟩
      · rw [List.length_map, List.length_map, k2]
        exact small1000 (by omega)
      · rw [upd_same, List.map_append, List.map_append]
        rfl
      · rw [List.length_append, k2]
        rfl
      · intro x hx
        rcases List.mem_append.mp hx with z | z
        · exact k3 x z
        · rw [List.mem_singleton.mp z]
          omega
      · intro b o n1 n2 e
        rw [upd_ne n2]
        exact b4 b o n1 (k5 b o n1 n2 e)
    · rintro H3 ⟨cs, k1, k2, k3, k4, k5⟩
      refine ⟨_, D, cs.map fun c => (⟨#[c]⟩ : Str), rfl, rfl, .inl (SqL.of k1), ?_, ?_⟩
      · have e1 : ((cs.map fun c => (⟨#[c]⟩ : Str)).map (·.length)).sum = cs.length := by
          rw [List.map_map]
          clear k1 k2 k3
          induction cs with
          | nil => rfl
          | cons a r ih =>
            rw [List.map_cons, List.sum_cons, ih, List.length_cons]
            show 1 + r.length = r.length + 1
            omega
        rw [e1, List.length_map, k2]
        show (1 + d2).toNat + (1 + d2).toNat * 0 ≤ 16777216
        omega
      have hw : NmOk (Txt.join "" (cs.map fun c => (⟨#[c]⟩ : Str))) := by
        unfold NmOk
        rw [join_ones, k2]
        exact ⟨by omega, by omega, k3⟩
      generalize Txt.join "" (cs.map fun c => (⟨#[c]⟩ : Str)) = word at hw
      have hU3 := k5 U _ (s1.tup hU1 ) (fun e => by
        rw [e, nD] at hU2
        cases hU2) hU2
      refine ⟨_, rfl, _, rfl, _, rfl, st, c, 12, rfl, by decide, lt8 (by decide), k4, fun H5 d5 b5 s5 l5 u5 => ?_⟩
      obtain ⟨ow, ho1, ho2⟩ := at_str (xs := ownL) l5 u5
      refine ⟨U, _, d5, _, rfl, rfl, SqT.of (b5.tup k4 hU3), ho2, _, rfl, 1, rfl, word, rfl, hw.len, _, rfl, by show 4 ≤ sizeLine; decide, fun T nT => ?_⟩
      have sT := same_new (o := .tup [.str word, .str ow, .str (cutS word none (some 1)), .str word]) nT
      obtain ⟨x, hx1, hx2⟩ : ∃ x, NmOk x ∧ atI [V.str word, V.str ow, V.str (cutS word none (some 1)), V.str word] wy = some (.str x) := by
        rcases (show wy = 0 ∨ wy = 1 ∨ wy = 2 ∨ wy = 3 by omega) with e | e | e | e <;> subst e
        · exact ⟨_, hw, rfl⟩
        · exact ⟨_, own_ok _ ho1, rfl⟩
        · exact ⟨_, hw.cut, rfl⟩
        · exact ⟨_, hw, rfl⟩
      refine ⟨_, rfl, T, _, wy, _, rfl, rfl, SqT.of upd_same, hx2, q _ x ?_ (s5.same sT) hx1⟩
      intro b o nb e
      refine sT _ _ (b5 _ _ nb (k5 _ _ nb ?_ (b2 _ _ nb (b1 _ _ nb (sU _ _ e)))))
      intro z
      have e2 := b2 _ _ nb (b1 _ _ nb (sU _ _ e))
      rw [z, nD] at e2
      cases e2
end
end SS

namespace SS
open PySem PySem.Spec PyProof.Rows L2
section
variable {P : Program} {w : World} {K : PySem.W.Frag} {mg : Str → Option Value} {base : Heap}
def spNames : Sp := fun vs H Q _ => ∃ (st c : Addr) (many : Int), vs = [.ref st, .int many] ∧ 0 ≤ many ∧ many ≤ 10 ∧ StA st c H ∧
  ∀ H' l (xs : List Str), But st H H' → StA st c H' → H l = none → H' l = some (.lst (xs.map V.str)) → (xs.length : Int) = many → (∀ x ∈ xs, NmOk x) → xs.Nodup → Q (.ref l) H'
/-- the codes of the name put in at a turn -/
def cdN (i : Nat) (j : Nat) : List Nat := [97 + ((7 * (j : Int) + (0 + (i : Int))) % 26).toNat]
theorem cdN_inj {i a b : Nat} (ha : a < 26) (hb : b < 26) (h : cdN i a = cdN i b) : a = b := by
  unfold cdN at h
  have z := (List.cons.inj h).1
  omega
theorem cdN_full {i : Nat} {xs : List Str} (hl : xs.length < 26) (h : ∀ j : Nat, j < 26 → ∃ y ∈ xs, y.cps.toList = cdN i j) : False := by
  have nd : ((List.range 26).map (cdN i)).Nodup := by
    refine List.Pairwise.map (R := fun a b => a ≠ b ∧ a < 26 ∧ b < 26) _ (fun a b n e => n.1 (cdN_inj n.2.1 n.2.2 e)) ?_
    decide +kernel
  have sb : (List.range 26).map (cdN i) ⊆ xs.map fun y => y.cps.toList := fun c hc => by
    obtain ⟨j, hj, rfl⟩ := List.mem_map.mp hc
    obtain ⟨y, hy, e⟩ := h j (List.mem_range.mp hj)
    exact List.mem_map.mpr ⟨y, hy, e⟩
  have z := List.Nodup.length_le_of_subset nd sb
  rw [List.length_map, List.length_map, List.length_range] at z
  omega
theorem inV_strs {x : Str} : ∀ {xs : List Str}, inV (.str x) (xs.map V.str) = true ↔ x ∈ xs := by
  intro xs
  unfold inV
  rw [List.any_map, List.any_eq_true]
  constructor
  · rintro ⟨y, hy, e⟩
    have e' : eqV (V.str y) (V.str x) = true := e
    have : y = x := by simpa [eqV] using e'
    rw [← this]
    exact hy
  · intro h
    exact ⟨x, h, by show eqV (V.str x) (V.str x) = true; simp [eqV]⟩
theorem scNames : FnScope ["_law_state", "_law_many", "_law_letters", "_law_names_here", "_law_k", "_law_name", "_law_turns"] ["_law_state", "_law_many"] (defScope sNames) := ⟨rfl, rfl, rfl, by decide +kernel, rfl, by decide +kernel, by decide +kernel⟩
theorem flat_strs (xs : List Str) : (xs.map V.str).all flatV = true := by
  rw [List.all_map]
  exact List.all_eq_true.mpr fun _ _ => rfl
theorem ok_names {f : Addr} {fd : FuncData} (F : Fun K "_law_names" "_law_names" sNames f fd) (mr : mg "range" = none) (sn : Cl P w K mg base CX0 4 "_law_some_name" spSname []) : FnOk P w K mg base CX0 5 f fd ["_law_state", "_law_many"] spNames := by
  refine F.ok scNames (fun vs H Q E h => ?_) (fun cdv A outer s H vs Q E hr h => ?_)
  · obtain ⟨_, _, _, rfl, _⟩ := h
    rfl
  · obtain ⟨st, c, many, rfl, m0, m1, sa, q⟩ := h
    refine ⟨_, pss_cons (ps_set (i := 2) scNames.nd rfl (.inl rfl) pe_str)
      (pss_cons (ps_set (i := 3) scNames.nd rfl (.inl rfl) (pe_lst pa_nil))
      (pss_cons (ps_for PassesOwn.never rfl (pi_range1 rfl mr (pa_cons (pv 1) pa_nil)) (pg_name (i := 4) scNames.nd rfl (.inl rfl))
        (pss_cons (ps_set (i := 5) scNames.nd rfl (.inl rfl) (pc0 sn hr (by decide) (pa_cons (pv 0) pa_nil)))
        (pss_cons (ps_set (i := 6) scNames.nd rfl (.inl rfl) pe_int)
        (pss_cons (ps_while PassesOwn.never (PW.pt (pw_and (pt_cmpR op_in_seq (pv 5) (pv 3) rfl) (pw_and1 (pt_cmpR op_lt (pv 6) pe_int (nomark _)))))
          (pss_cons (ps_set (i := 5) scNames.nd rfl (.inl rfl) (pe_op op_mulS (pe_item_str (pv 2) (pe_op op_mod (pe_op op_add (pe_op op_mul pe_int (pv 6)) (pv 4)) pe_int) (fun _ _ => rfl)) (pe_op op_add pe_int (pe_op op_fdiv (pv 6) pe_int))))
          (pss_one (ps_aug (i := 6) scNames.nd rfl (.inl rfl) pe_int ip_add))))
        (pss_one (ps_expr (pe_bm PySem.F.plainAttrs_list PySem.F.slot_list_append PySem.F.type_list_append mt_append (pv 3) (pa_cons (pv 5) pa_nil))))))))
      (pss_one (ps_ret (pv 3))))), ?_⟩
    refine ⟨Nat.zero_le _, fun l nl => ?_⟩
    have ls := sa.fresh nl
    have lc := sa.fresh2 nl
    refine ⟨_, rfl, many, rfl, by omega, by omega, for_range (n := many.toNat) (fun i σ H' => ∃ (y4 y5 y6 : Option V) (xs : List Str), σ = [some (.ref st), some (.int many), some (.str abc), some (.ref l), y4, y5, y6] ∧ But st H H' ∧ StA st c H' ∧ H' l = some (.lst (xs.map V.str)) ∧ xs.length = i ∧ (∀ x ∈ xs, NmOk x) ∧ xs.Nodup)
      ⟨none, none, none, [], rfl, Same.but (same_new nl), sa.same (same_new nl), upd_same, rfl, fun x hx => absurd hx List.not_mem_nil, List.nodup_nil⟩ ?_ ?_⟩
    · rintro i σ H1 hi ⟨y4, y5, y6, xs, rfl, bt, s1, hl, hn, hx, nd⟩
      refine ⟨_, rfl, st, c, rfl, s1, fun H2 x b2 s2 ok => ?_⟩
      have hl2 := b2 _ _ ls hl
      refine ⟨fun m σ H' => ∃ (nm : Str) (tn : Int), σ = [some (.ref st), some (.int many), some (.str abc), some (.ref l), some (.int (0 + (i : Nat))), some (.str nm), some (.int tn)] ∧ H' = H2 ∧ NmOk nm ∧ 0 ≤ tn ∧ m = (60 - tn).toNat ∧ (∀ j : Nat, (j : Int) + 1 < tn → j < 26 → ∃ y ∈ xs, y.cps.toList = cdN i j) ∧ ∀ j : Nat, (j : Int) + 1 = tn → j < 26 → nm.cps.toList = cdN i j,
        ⟨60, x, 0, rfl, rfl, ok, by decide, rfl, fun j h => absurd h (by omega), fun j h => absurd h (by omega)⟩, fun m σ H3 hW => ?_⟩
      obtain ⟨nm, tn, rfl, rfl, okn, t0, rfl, w1, w2⟩ := hW
      refine ⟨_, rfl, _, rfl, l, _, rfl, .inl (SqL.of hl2), rfl, flat_strs xs, _, rfl, ite2 (fun e => ?n1) (fun e => iteF ?ex1)⟩
      case' n1 => refine ⟨_, rfl, tn, 60, rfl, rfl, _, rfl, ite2 (fun e2 => ?_) (fun e2 => ?ex2)⟩
      case ex2 =>
        refine (cdN_full (i := i) (xs := xs) (by omega) fun j hj => w1 j ?_ hj).elim
        have : ¬ tn < 60 := fun z => e2 (decide_eq_true z)
        omega
      case ex1 =>
        have nin : nm ∉ xs := fun z => e (inV_strs.mpr z)
        refine ⟨.ref l, rfl, .inl ⟨rfl, _, SqL.of hl2⟩, _, rfl, l, _, _, rfl, rfl, hl2, ?_, ?_⟩
        · rw [List.length_map, hn]
          exact small1000 (by omega)
        · refine ⟨_, _, _, xs ++ [nm], rfl, ?_, s2.other ls lc, ?_, ?_, ?_, ?_⟩
          · intro b o nb e
            rw [upd_ne fun z => ?_]
            · exact (bt.trans b2) b o nb e
            · rw [z, nl] at e
              cases e
          · rw [upd_same, List.map_append]
            rfl
          · rw [List.length_append, hn]
            rfl
          · intro y hy
            rcases List.mem_append.mp hy with z | z
            · exact hx y z
            · rw [List.mem_singleton.mp z]
              exact okn
          · refine List.nodup_append.mpr ⟨nd, by simp, fun a ha b hb => ?_⟩
            obtain rfl : b = nm := by simpa using hb
            exact fun z => nin (z ▸ ha)
      · have e' : tn < 60 := of_decide_eq_true e2
        refine ⟨fun σ' H' => ∃ (nm : Str) (tn' : Int), σ' = [some (.ref st), some (.int many), some (.str abc), some (.ref l), some (.int (0 + (i : Nat))), some (.str nm), some (.int tn')] ∧ H' = H3 ∧ NmOk nm ∧ 0 ≤ tn' ∧ tn' = tn + 1 ∧ ∀ j : Nat, (j : Int) + 1 = tn' → j < 26 → nm.cps.toList = cdN i j, fun σ' H' hN => ?_, ?_⟩
        · obtain ⟨a1, a2, r1, r2, r3, r4, r5, r6⟩ := hN
          refine ⟨_, by omega, a1, a2, r1, r2, r3, r4, rfl, fun j h1 h2 => ?_, r6⟩
          by_cases c : (j : Int) + 1 < tn
          · exact w1 j c h2
          · exact ⟨nm, inV_strs.mp e, w2 j (by omega) h2⟩
        · have q1 : 0 ≤ (7 * tn + (0 + (i : Int))) % 26 := Int.emod_nonneg _ (by decide)
          have q2 : (7 * tn + (0 + (i : Int))) % 26 < 26 := Int.emod_lt_of_pos _ (by decide)
          refine ⟨_, rfl, _, rfl, 7, tn, rfl, rfl, .inl ⟨by decide, by decide⟩, _, rfl, 7 * tn, 0 + (i : Int), rfl, rfl, _, 26, rfl, rfl, (by show (0 : Int) < 26; decide), abc, (7 * tn + (0 + (i : Int))) % 26, _, rfl, rfl, q1, by omega, by rw [abc_len]; omega, abc_at _ (by omega), ?_⟩
          refine ⟨_, rfl, tn, 26, rfl, rfl, ⟨by decide, by decide⟩, 1, tn / 26, rfl, rfl, _, 1 + tn / 26, rfl, rfl, by omega, by omega, by show 1 ≤ 6; decide, fun z hz => ?_⟩
          refine ⟨_, rfl, _, _, rfl, rfl, z, tn + 1, rfl, rfl, ?_, by omega, rfl, fun j h1 h2 => ?_⟩
          rotate_left
          · have e3 : (1 + tn / 26).toNat = 1 := by omega
            have ej : tn = (j : Int) := by omega
            rw [hz, e3, ej]
            unfold cdN
            simp [List.replicate]
          unfold NmOk
          have ec : ((1 + tn / 26).toNat) = 1 ∨ ((1 + tn / 26).toNat) = 2 ∨ ((1 + tn / 26).toNat) = 3 := by omega
          rw [hz]
          rcases ec with e3 | e3 | e3 <;> rw [e3] <;> simp [List.replicate] <;> omega
    · rintro σ H1 ⟨y4, y5, y6, xs, rfl, bt, s1, hl, hn, hx, nd⟩
      exact ⟨_, rfl, q H1 l xs bt s1 nl hl (by omega) hx nd⟩
end
end SS

namespace SS
open PySem PySem.Spec PyProof.Rows L2
/-- a fraction in lowest terms, of few bits -/
def Frg (k : Nat) (H : Hp) (p : Addr) : Prop := ∃ n d : Int, H p = some (.tup [.int n, .int d]) ∧ 0 < d ∧ n.natAbs < 2 ^ k ∧ d.natAbs < 2 ^ k ∧ Int.gcd n d = 1
theorem Frg.same {k : Nat} {p : Addr} {H H' : Hp} (s : Frg k H p) (x : Same H H') : Frg k H' p := by
  obtain ⟨n, d, h1, h2⟩ := s
  exact ⟨n, d, x _ _ h1, h2⟩
theorem Frg.but {k : Nat} {st c p : Addr} {H H' : Hp} (s : Frg k H p) (x : But st H H') (y : StA st c H) : Frg k H' p := by
  obtain ⟨n, d, h1, h2⟩ := s
  exact ⟨n, d, x.tup y h1, h2⟩
theorem Frg.mono {k j : Nat} {p : Addr} {H : Hp} (s : Frg k H p) (h : k ≤ j) : Frg j H p := by
  obtain ⟨n, d, h1, h2, h3, h4, h5⟩ := s
  exact ⟨n, d, h1, h2, sm_mono h3 h, sm_mono h4 h, h5⟩
/-- a dict changes: the tuples stand -/
theorem Frg.dict {k : Nat} {p a : Addr} {H : Hp} {kvs : List (Key × V)} {o : HO} (s : Frg k H p) (h : H a = some (.dK kvs)) : Frg k (upd H a o) p := by
  obtain ⟨n, d, h1, h2⟩ := s
  refine ⟨n, d, ?_, h2⟩
  rw [upd_ne fun e => ?_]
  · exact h1
  · rw [e, h] at h1
    cases h1
theorem frg_new {H : Hp} {r : Addr} {t b : Int} {k : Nat} (h : b ≠ 0) (ht : t.natAbs < 2 ^ k) (hb : b.natAbs < 2 ^ k) : Frg k (upd H r (.tup [.int (fr1 t b), .int (fr2 t b)])) r :=
  ⟨_, _, upd_same, fr2_pos h, Nat.lt_of_le_of_lt (fr1_le h) ht, Nat.lt_of_le_of_lt (fr2_le h) hb, fr_gcd h⟩
def fval (H : Hp) : V → Int × Int
  | .ref r => match H r with
    | some (.tup [.int n, .int d]) => (n, d)
    | _ => (0, 1)
  | _ => (0, 1)
theorem fval_at {H : Hp} {r : Addr} {n d : Int} (h : H r = some (.tup [.int n, .int d])) : fval H (.ref r) = (n, d) := by
  simp only [fval, h]
theorem Frg.val {k : Nat} {H : Hp} {r : Addr} (h : Frg k H r) : H r = some (.tup [.int (fval H (.ref r)).1, .int (fval H (.ref r)).2]) ∧ 0 < (fval H (.ref r)).2 ∧ (fval H (.ref r)).1.natAbs < 2 ^ k ∧ (fval H (.ref r)).2.natAbs < 2 ^ k ∧ Int.gcd (fval H (.ref r)).1 (fval H (.ref r)).2 = 1 := by
  obtain ⟨n, d, h1, h2⟩ := h
  rw [fval_at h1]
  exact ⟨h1, h2⟩
theorem Frg.fval {k : Nat} {H H' : Hp} {r : Addr} (h : Frg k H r) (e : ∀ xs, H r = some (.tup xs) → H' r = some (.tup xs)) : SS.fval H' (.ref r) = SS.fval H (.ref r) := by
  obtain ⟨n, d, h1, _⟩ := h
  rw [fval_at h1, fval_at (e _ h1)]
/-! ### dicts from names to fractions -/
def DF (k m : Nat) (H : Hp) (a : Addr) (kvs : List (Key × V)) : Prop := H a = some (.dK kvs) ∧ (kvs.map (·.1)).Nodup ∧ kvs.length ≤ m ∧ ∀ p ∈ kvs, ∃ x r, p.1 = .inr x ∧ NmOk x ∧ p.2 = .ref r ∧ Frg k H r
def NZ (H : Hp) (kvs : List (Key × V)) : Prop := ∀ p ∈ kvs, (fval H p.2).1 ≠ 0
theorem mem_putK {kvs : List (Key × V)} {k : Key} {v : V} {p : Key × V} (h : p ∈ putK kvs k v) : p ∈ kvs ∨ p = (k, v) := by
  unfold putK at h
  split at h
  · obtain ⟨q, hq, e⟩ := List.mem_map.mp h
    split at e
    · rename_i e1
      rw [e1] at e
      exact .inr e.symm
    · rw [← e]
      exact .inl hq
  · rcases List.mem_append.mp h with z | z
    · exact .inl z
    · exact .inr (List.mem_singleton.mp z)
theorem nd_put {kvs : List (Key × V)} (k : Key) (v : V) (h : (kvs.map (·.1)).Nodup) : ((putK kvs k v).map (·.1)).Nodup := by
  cases e : valV kvs k with
  | none => exact nd_putK v h e
  | some u =>
    unfold putK
    rw [valV_any, e]
    show ((kvs.map fun kv => if kv.1 = k then (kv.1, v) else kv).map (·.1)).Nodup
    rw [List.map_map]
    have q : ((fun x : Key × V => x.1) ∘ fun kv : Key × V => if kv.1 = k then (kv.1, v) else kv) = fun kv => kv.1 := by
      funext kv
      show (if kv.1 = k then (kv.1, v) else kv).1 = kv.1
      split <;> rfl
    rw [q]
    exact h
theorem DF.same {k m : Nat} {H H' : Hp} {a : Addr} {kvs : List (Key × V)} (h : DF k m H a kvs) (s : Same H H') : DF k m H' a kvs := by
  obtain ⟨h1, h2, h3, h4⟩ := h
  refine ⟨s _ _ h1, h2, h3, fun p hp => ?_⟩
  obtain ⟨x, r, e1, e2, e3, e4⟩ := h4 p hp
  exact ⟨x, r, e1, e2, e3, e4.same s⟩
theorem DF.ne {k m : Nat} {H : Hp} {st c a : Addr} {kvs : List (Key × V)} (h : DF k m H a kvs) (y : StA st c H) : a ≠ st := fun e => by
  obtain ⟨i, n, f, xs, h1, _⟩ := y
  have z := h.1
  rw [e, h1] at z
  cases z
theorem DF.but {k m : Nat} {H H' : Hp} {st c a : Addr} {kvs : List (Key × V)} (h : DF k m H a kvs) (s : But st H H') (y : StA st c H) : DF k m H' a kvs := by
  have na := h.ne y
  obtain ⟨h1, h2, h3, h4⟩ := h
  refine ⟨s _ _ na h1, h2, h3, fun p hp => ?_⟩
  obtain ⟨x, r, e1, e2, e3, e4⟩ := h4 p hp
  exact ⟨x, r, e1, e2, e3, e4.but s y⟩
theorem NZ.but {k m : Nat} {H H' : Hp} {st c a : Addr} {kvs : List (Key × V)} (z : NZ H kvs) (h : DF k m H a kvs) (s : But st H H') (y : StA st c H) : NZ H' kvs := fun p hp => by
  obtain ⟨x, r, e1, e2, e3, e4⟩ := h.2.2.2 p hp
  rw [e3, e4.fval fun xs e => s.tup y e, ← e3]
  exact z p hp
theorem NZ.same {k m : Nat} {H H' : Hp} {a : Addr} {kvs : List (Key × V)} (z : NZ H kvs) (h : DF k m H a kvs) (s : Same H H') : NZ H' kvs := fun p hp => by
  obtain ⟨x, r, e1, e2, e3, e4⟩ := h.2.2.2 p hp
  rw [e3, e4.fval fun xs e => s _ _ e, ← e3]
  exact z p hp
theorem DF.put {k m : Nat} {H : Hp} {a : Addr} {kvs : List (Key × V)} {x : Str} {r : Addr} (h : DF k m H a kvs) (hx : NmOk x) (hr : Frg k H r) (hl : kvs.length < m) : DF k m (upd H a (.dK (putK kvs (.inr x) (.ref r)))) a (putK kvs (.inr x) (.ref r)) := by
  obtain ⟨h1, h2, h3, h4⟩ := h
  refine ⟨upd_same, nd_put _ _ h2, Nat.le_trans (length_putK ..) hl, fun p hp => ?_⟩
  rcases mem_putK hp with z | z
  · obtain ⟨y, r', e1, e2, e3, e4⟩ := h4 p z
    exact ⟨y, r', e1, e2, e3, e4.dict h1⟩
  · subst z
    exact ⟨x, r, rfl, hx, rfl, hr.dict h1⟩
theorem NZ.put {k m : Nat} {H : Hp} {a : Addr} {kvs : List (Key × V)} {x : Str} {r : Addr} (z : NZ H kvs) (h : DF k m H a kvs) (hr : Frg k H r) (hz : (fval H (.ref r)).1 ≠ 0) : NZ (upd H a (.dK (putK kvs (.inr x) (.ref r)))) (putK kvs (.inr x) (.ref r)) := fun p hp => by
  have keep : ∀ r' xs, H r' = some (.tup xs) → (upd H a (.dK (putK kvs (.inr x) (.ref r)))) r' = some (.tup xs) := fun r' xs e => by
    rw [upd_ne fun c => ?_]
    · exact e
    · rw [c, h.1] at e
      cases e
  rcases mem_putK hp with y | y
  · obtain ⟨_, r', e1, e2, e3, e4⟩ := h.2.2.2 p y
    rw [e3, e4.fval (keep r'), ← e3]
    exact z p y
  · subst y
    rw [hr.fval (keep r)]
    exact hz
theorem strs_ne {st c u : Addr} {H : Hp} {xs : List Str} (y : StA st c H) (h : H u = some (.lst (xs.map V.str))) : u ≠ st := fun e => by
  obtain ⟨i, n, f, ys, h1, _⟩ := y
  rw [e, h1] at h
  have z := HO.lst.inj (Option.some.inj h)
  cases xs with
  | nil => cases z
  | cons a r => cases (List.cons.inj z).1
section
variable {P : Program} {w : World} {K : PySem.W.Frag} {mg : Str → Option Value} {base : Heap}
def spNumber : Sp := fun vs H Q _ => ∃ st c : Addr, vs = [.ref st] ∧ StA st c H ∧ ∀ H' p, But st H H' → StA st c H' → Frg 20 H' p → Q (.ref p) H'
theorem scNumber : FnScope ["_law_state", "_law_way", "_law_small", "_law_great", "_law_under"] ["_law_state"] (defScope sNumber) := ⟨rfl, rfl, rfl, by decide +kernel, rfl, by decide +kernel, by decide +kernel⟩
theorem ok_number {f : Addr} {fd : FuncData} (F : Fun K "_law_number" "_law_number" sNumber f fd) (tk : Cl P w K mg base CX0 3 "_law_take" spTake []) (fc : Cl P w K mg base CX0 2 "_law_frac" spFrac []) : FnOk P w K mg base CX0 4 f fd ["_law_state"] spNumber := by
  refine F.ok scNumber (fun vs H Q E h => ?_) (fun cdv A outer s H vs Q E hr h => ?_)
  · obtain ⟨_, _, rfl, _⟩ := h
    rfl
  · obtain ⟨st, c, rfl, sa, q⟩ := h
    refine ⟨_, pss_cons (ps_set (i := 1) scNumber.nd rfl (.inl rfl) (pc0 tk hr (by decide) (pa_cons (pv 0) (pa_cons pe_int pa_nil))))
      (pss_cons (ps_set (i := 2) scNumber.nd rfl (.inl rfl) (pe_op op_sub (pc0 tk hr (by decide) (pa_cons (pv 0) (pa_cons pe_int pa_nil))) pe_int))
      (pss_cons (ps_set (i := 3) scNumber.nd rfl (.inl rfl) (pe_op op_sub (pc0 tk hr (by decide) (pa_cons (pv 0) (pa_cons pe_int pa_nil))) pe_int))
      (pss_cons (ps_set (i := 4) scNumber.nd rfl (.inl rfl) (pe_op op_add pe_int (pc0 tk hr (by decide) (pa_cons (pv 0) (pa_cons pe_int pa_nil)))))
      (pss_cons (ps_if (pt_cmpR op_eq (pv 1) pe_int (nomark _)) (pss_one (ps_ret (pe_tup (pa_cons pe_int (pa_cons pe_int pa_nil))))) pss_nil)
      (pss_cons (ps_if (pt_cmpR op_eq (pv 1) pe_int (nomark _)) (pss_one (ps_ret (pc0 fc hr (by decide) (pa_cons (pv 3) (pa_cons (pv 4) pa_nil))))) pss_nil)
      (pss_cons (ps_if (pt_cmpR op_eq (pv 1) pe_int (nomark _)) (pss_one (ps_ret (pc0 fc hr (by decide) (pa_cons (pv 2) (pa_cons (pe_op op_add pe_int (pe_op op_mod (pv 4) pe_int)) pa_nil))))) pss_nil)
      (pss_one (ps_ret (pe_tup (pa_cons (pv 2) (pa_cons pe_int pa_nil))))))))))), ?_⟩
    refine ⟨_, rfl, st, c, 6, rfl, by decide, lt8 (by decide), sa, fun H1 d1 b1 s1 l1 u1 => ?_⟩
    refine ⟨_, rfl, st, c, 13, rfl, by decide, lt8 (by decide), s1, fun H2 d2 b2 s2 l2 u2 => ⟨_, _, rfl, rfl, ?_⟩⟩
    refine ⟨_, rfl, st, c, 1999, rfl, by decide, lt8 (by decide), s2, fun H3 d3 b3 s3 l3 u3 => ⟨_, _, rfl, rfl, ?_⟩⟩
    refine ⟨_, rfl, st, c, 99, rfl, by decide, lt8 (by decide), s3, fun H4 d4 b4 s4 l4 u4 => ⟨_, _, rfl, rfl, ?_⟩⟩
    have bb := ((b1.trans b2).trans b3).trans b4
    refine ⟨_, rfl, rfl, _, rfl, ite2 (fun _ => ?_) (fun _ => ?_)⟩
    · refine ⟨small2, fun p np => q _ p (bb.trans (Same.but (same_new np))) (s4.same (same_new np)) ⟨0, 1, upd_same, by decide, by decide, by decide, by decide⟩⟩
    · refine ⟨_, rfl, rfl, _, rfl, ite2 (fun _ => ?_) (fun _ => ?_)⟩
      · have n1 : 1 + d4 ≠ 0 := by omega
        have n2 : (1 + d4).natAbs < 2 ^ 20 := by omega
        refine ⟨_, rfl, _, rfl, d3 - 999, 1 + d4, rfl, n1, sm_mono n2 (by decide), fun p np => q _ p (bb.trans (Same.but (same_new np))) (s4.same (same_new np)) (frg_new n1 (by omega) n2)⟩
      · refine ⟨_, rfl, rfl, _, rfl, ite2 (fun _ => ?_) (fun _ => ?_)⟩
        · have n1 : 1 + (1 + d4) % 4 ≠ 0 := by omega
          have n2 : (1 + (1 + d4) % 4).natAbs < 2 ^ 20 := by omega
          refine ⟨_, rfl, _, rfl, 1 + d4, 4, rfl, rfl, (by show (0 : Int) < 4; decide), 1, (1 + d4) % 4, rfl, rfl, d2 - 6, 1 + (1 + d4) % 4, rfl, n1, sm_mono n2 (by decide), fun p np => q _ p (bb.trans (Same.but (same_new np))) (s4.same (same_new np)) (frg_new n1 (by omega) n2)⟩
        · refine ⟨_, rfl, small2, fun p np => q _ p (bb.trans (Same.but (same_new np))) (s4.same (same_new np)) ⟨d2 - 6, 1, upd_same, by decide, by omega, by decide, Int.gcd_one_right _⟩⟩
end
end SS

namespace SS
open PySem PySem.Spec PyProof.Rows L2
section
variable {P : Program} {w : World} {K : PySem.W.Frag} {mg : Str → Option Value} {base : Heap}
/-! ### a drawn sum -/
/-- the keys are among these names -/
def KIn (xs : List Str) (kvs : List (Key × V)) : Prop := ∀ p ∈ kvs, ∃ x ∈ xs, p.1 = .inr x
theorem KIn.put {xs : List Str} {kvs : List (Key × V)} {x : Str} {v : V} (h : KIn xs kvs) (hx : x ∈ xs) : KIn xs (putK kvs (.inr x) v) := fun p hp => by
  rcases mem_putK hp with z | z
  · exact h p z
  · exact ⟨x, hx, by rw [z]⟩
theorem KIn.nil {xs : List Str} : KIn xs [] := fun p hp => absurd hp List.not_mem_nil
def spSsum : Sp := fun vs H Q _ => ∃ (st c u : Addr) (xs : List Str), vs = [.ref st, .ref u] ∧ StA st c H ∧ H u = some (.lst (xs.map V.str)) ∧ xs.length ≤ 9 ∧ (∀ x ∈ xs, NmOk x) ∧
  ∀ H' a kvs, But st H H' → StA st c H' → H a = none → DF 20 (xs.length + 1) H' a kvs → NZ H' kvs → KIn xs kvs → Q (.ref a) H'
theorem scSsum : FnScope ["_law_state", "_law_unknowns", "_law_way", "_law_found", "_law_key", "_law_number_here"] ["_law_state", "_law_unknowns"] (defScope sSsum) := ⟨rfl, rfl, rfl, by decide +kernel, rfl, by decide +kernel, by decide +kernel⟩
theorem ok_ssum {f : Addr} {fd : FuncData} (F : Fun K "_law_some_sum" "_law_some_sum" sSsum f fd) (ml : mg "len" = none) (tk : Cl P w K mg base CX0 3 "_law_take" spTake []) (nm : Cl P w K mg base CX0 4 "_law_number" spNumber []) : FnOk P w K mg base CX0 5 f fd ["_law_state", "_law_unknowns"] spSsum := by
  refine F.ok scSsum (fun vs H Q E h => ?_) (fun cdv A outer s H vs Q E hr h => ?_)
  · obtain ⟨_, _, _, _, rfl, _⟩ := h
    rfl
  · obtain ⟨st, c, u, xs, rfl, sa, hu0, hl, hx, q⟩ := h
    have hu := hu_of hr
    refine ⟨_, pss_cons (ps_set (i := 2) scSsum.nd rfl (.inl rfl) (pc0 tk hr (by decide) (pa_cons (pv 0) (pa_cons pe_int pa_nil))))
      (pss_cons (ps_set (i := 3) scSsum.nd rfl (.inl rfl) pe_dnewK)
      (pss_cons (ps_for PassesOwn.never rfl (pi_list (pv 1)) (pg_name (i := 4) scSsum.nd rfl (.inl rfl))
        (pss_cons (ps_set (i := 5) scSsum.nd rfl (.inl rfl) (pc0 nm hr (by decide) (pa_cons (pv 0) pa_nil)))
        (pss_one (ps_if (PW.pt (pw_and (pt_cmpR op_ne (pe_ix ix_tup (pv 5) pe_int (fun _ _ => rfl)) pe_int (nomark _))
          (pw_and1 (PW.pt (pw_or (pt_cmpR op_gt (pv 2) pe_int (nomark _)) (pw_or1 (pt_cmpR op_eq (pc0 tk hr (by decide) (pa_cons (pv 0) (pa_cons pe_int pa_nil))) pe_int (nomark _))))))))
          (pss_one (ps_dput hu (pv 3) (pv 4) (pv 5) rfl)) pss_nil))))
      (pss_cons (ps_if (pt_cmpR op_eq (pv 2) pe_int (nomark _)) (pss_one (ps_ret pe_dnewK)) pss_nil)
      (pss_cons (ps_if (PW.pt (pw_and (pt_cmpR (op_eq0 hr.units) (pv 3) pe_dnewK (nomark _)) (pw_and (pt_cmpR op_gt (pv 2) pe_int (nomark _))
          (pw_and1 (pt_cmpR op_gt (pe_callB call_len_seq (by rfl) ml PySem.boot_len (pa_cons (pv 1) pa_nil)) pe_int (nomark _))))))
        (pss_one (ps_dput hu (pv 3) (pe_ix ix_list (pv 1) (pc0 tk hr (by decide) (pa_cons (pv 0) (pa_cons (pe_callB call_len_seq (by rfl) ml PySem.boot_len (pa_cons (pv 1) pa_nil)) pa_nil))) (fun _ _ => rfl))
          (pe_tup (pa_cons (pe_op op_sub pe_int (pe_op op_mul pe_int (pc0 tk hr (by decide) (pa_cons (pv 0) (pa_cons pe_int pa_nil))))) (pa_cons pe_int pa_nil))) rfl)) pss_nil)
      (pss_one (ps_ret (pv 3))))))), ?_⟩
    have nu := strs_ne sa hu0
    refine ⟨_, rfl, st, c, 8, rfl, by decide, lt8 (by decide), sa, fun H1 wy b1 s1 l1 u1 => ?_⟩
    intro a na1
    have as1 := s1.fresh na1
    have ac1 := s1.fresh2 na1
    have na : H a = none := by
      cases e : H a with
      | none => rfl
      | some o =>
        have z := b1 a o (fun z => as1 z) e
        rw [na1] at z
        cases z
    have sn := same_new (o := .dK []) na1
    have hu1 : (upd H1 a (.dK [])) u = some (.lst (xs.map V.str)) := sn _ _ (b1 _ _ nu hu0)
    refine ⟨_, rfl, u, rfl, ⟨_, SqL.of hu1⟩, for_list (K := K) (a := u) (xs := xs.map V.str) (fun i σ H' => ∃ (y4 y5 : Option V) (kvs : List (Key × V)), σ = [some (.ref st), some (.ref u), some (.int wy), some (.ref a), y4, y5] ∧ But st H H' ∧ StA st c H' ∧ DF 20 i H' a kvs ∧ NZ H' kvs ∧ KIn xs kvs)
      ⟨none, none, [], rfl, b1.trans (Same.but sn), s1.same sn, ⟨upd_same, List.nodup_nil, Nat.le_refl _, fun p hp => absurd hp List.not_mem_nil⟩, fun p hp => absurd hp List.not_mem_nil, KIn.nil⟩ ?_ ?_ ?_⟩
    · rintro i σ H' _ ⟨_, _, _, _, bt, _⟩
      exact SqL.of (bt _ _ nu hu0)
    · rintro i y σ H2 hy ⟨y4, y5, kvs, rfl, bt, s2, df, nz, kin⟩
      obtain ⟨x, hxi, rfl⟩ : ∃ x, x ∈ xs ∧ y = .str x := by
        rw [List.getElem?_map] at hy
        cases e : xs[i]? with
        | none =>
          rw [e] at hy
          cases hy
        | some x =>
          rw [e] at hy
          exact ⟨x, List.mem_of_getElem? e, (Option.some.inj hy).symm⟩
      have hi : i < xs.length := by
        have z := (List.getElem?_eq_some_iff.mp hy).1
        rw [List.length_map] at z
        exact z
      have dm : ∀ {H'}, DF 20 i H' a kvs → DF 20 (i + 1) H' a kvs := fun h => ⟨h.1, h.2.1, Nat.le_succ_of_le h.2.2.1, h.2.2.2⟩
      refine ⟨_, rfl, st, c, rfl, s2, fun H3 p b3 s3 fp => ?_⟩
      have df3 := df.but b3 s2
      have nz3 := nz.but df b3 s2
      obtain ⟨v1, v2, v3, v4, v5⟩ := fp.val
      refine ⟨_, rfl, p, _, 0, _, rfl, rfl, SqT.of v1, atI_nat (j := 0) rfl, rfl, _, rfl, ite2 (fun e => ?_) (fun e => iteF ?_)⟩
      · have n0 : (fval H3 (.ref p)).1 ≠ 0 := fun z => by
          rw [z] at e
          exact absurd e (by decide)
        have fin : ∀ H4, But st H3 H4 → StA st c H4 → ∃ (y4 y5 : Option V) (kvs' : List (Key × V)), [some (V.ref st), some (.ref u), some (.int wy), some (.ref a), some (.str x), some (.ref p)] = [some (.ref st), some (.ref u), some (.int wy), some (.ref a), y4, y5] ∧ But st H (upd H4 a (.dK (putK kvs (.inr x) (.ref p)))) ∧ StA st c (upd H4 a (.dK (putK kvs (.inr x) (.ref p)))) ∧ DF 20 (i + 1) (upd H4 a (.dK (putK kvs (.inr x) (.ref p)))) a kvs' ∧ NZ (upd H4 a (.dK (putK kvs (.inr x) (.ref p)))) kvs' ∧ KIn xs kvs' := fun H4 b4 s4 => by
          have df4 := df3.but b4 s3
          refine ⟨_, _, _, rfl, ?_, s4.other as1 ac1, (dm df4).put (hx x hxi) (fp.but b4 s3) (Nat.lt_succ_of_le df.2.2.1), (nz3.but df3 b4 s3).put df4 (fp.but b4 s3) ?_, kin.put hxi⟩
          · intro b o nb e4
            rw [upd_ne fun z => ?_]
            · exact ((bt.trans b3).trans b4) b o nb e4
            · rw [z, na] at e4
              cases e4
          · rw [fp.fval fun ys e5 => b4.tup s3 e5]
            exact n0
        refine ⟨_, rfl, wy, 4, rfl, rfl, _, rfl, ite2 (fun e2 => iteT ?_) (fun e2 => ?_)⟩
        · refine ⟨_, rfl, _, rfl, _, rfl, a, _, rfl, DPut.k (k := .inr x) df3.1 (small1000 (Nat.le_trans df3.2.2.1 (by omega))), ?_⟩
          exact fin H3 (But.refl _ _) s3
        · refine ⟨_, rfl, st, c, 2, rfl, by decide, lt8 (by decide), s3, fun H4 d4 b4 s4 l4 u4 => ⟨rfl, _, rfl, ite2 (fun e3 => ?_) (fun e3 => ?_)⟩⟩
          · have df4 := df3.but b4 s3
            refine ⟨_, rfl, _, rfl, _, rfl, a, _, rfl, DPut.k (k := .inr x) df4.1 (small1000 (Nat.le_trans df4.2.2.1 (by omega))), ?_⟩
            exact fin H4 b4 s4
          · exact ⟨_, _, kvs, rfl, (bt.trans b3).trans b4, s4, dm (df3.but b4 s3), nz3.but df3 b4 s3, kin⟩
      · exact ⟨_, _, kvs, rfl, bt.trans b3, s3, dm df3, nz3, kin⟩
    · rintro σ H2 ⟨y4, y5, kvs, rfl, bt, s2, df, nz, kin⟩
      rw [List.length_map] at df
      have dm : DF 20 (xs.length + 1) H2 a kvs := ⟨df.1, df.2.1, Nat.le_succ_of_le df.2.2.1, df.2.2.2⟩
      have hu2 := bt _ _ nu hu0
      refine ⟨_, rfl, rfl, _, rfl, ite2 (fun e => ?_) (fun e => ?_)⟩
      · intro a2 na2
        have s3 := same_new (o := .dK []) na2
        have a2n : H a2 = none := by
          cases e : H a2 with
          | none => rfl
          | some o =>
            have z := bt a2 o (s2.fresh na2) e
            rw [na2] at z
            cases z
        exact q _ a2 [] (bt.trans (Same.but s3)) (s2.same s3) a2n ⟨upd_same, List.nodup_nil, Nat.zero_le _, fun p hp => absurd hp List.not_mem_nil⟩ (fun p hp => absurd hp List.not_mem_nil) KIn.nil
      · refine ⟨_, rfl, fun a3 na3 => ?_⟩
        have s3 := same_new (o := .dK []) na3
        have df3 := dm.same s3
        have nz3 := nz.same df s3
        have b3 : But st H (upd H2 a3 (.dK [])) := bt.trans (Same.but s3)
        have sa3 := s2.same s3
        have hu3 := s3 _ _ hu2
        have ha3 : (upd H2 a3 (.dK [])) a3 = some (.dK []) := upd_same
        generalize upd H2 a3 (.dK []) = H3 at s3 df3 nz3 b3 sa3 hu3 ha3 ⊢
        have el : ((xs.map V.str).length : Int) = (xs.length : Int) := by rw [List.length_map]
        refine ⟨a, a3, kvs, rfl, rfl, df3.1, ha3, _, rfl, ite2 (fun e2 => ?n1) (fun e2 => iteF ?r1)⟩
        case' n1 => refine ⟨_, rfl, wy, 1, rfl, rfl, _, rfl, ite2 (fun e3 => ?n2) (fun e3 => iteF ?r2)⟩
        case' n2 => refine ⟨_, rfl, u, _, rfl, .inl (SqL.of hu3), (xs.length : Int), 0, congrArg V.int el, rfl, _, rfl, ite2 (fun e4 => ?_) (fun e4 => ?r3)⟩
        case r1 | r2 | r3 => exact ⟨_, rfl, q _ a kvs b3 sa3 na df3 nz3 kin⟩
        have lp : 0 < (xs.length : Int) := of_decide_eq_true e4
        refine ⟨_, rfl, st, c, 2, rfl, by decide, lt8 (by decide), sa3, fun H4 d4 b4 s4 l4 u4 => ⟨2, d4, rfl, rfl, .inl ⟨by decide, by decide⟩, 1, 2 * d4, rfl, rfl, small2, fun T nT => ?_⟩⟩
        have sT := same_new (o := .tup [.int (1 - 2 * d4), .int 1]) nT
        have hT : (upd H4 T (.tup [.int (1 - 2 * d4), .int 1])) T = some (.tup [.int (1 - 2 * d4), .int 1]) := upd_same
        have fT : Frg 20 (upd H4 T (.tup [.int (1 - 2 * d4), .int 1])) T := ⟨_, _, hT, by decide, by omega, by decide, Int.gcd_one_right _⟩
        have df5 := (df3.but b4 sa3).same sT
        have nz5 := (nz3.but df3 b4 sa3).same (df3.but b4 sa3) sT
        have b5 := (b3.trans b4).trans (Same.but (st := st) sT)
        have s5 := s4.same sT
        have hu5 := sT _ _ (b4 _ _ nu hu3)
        have vT := fval_at hT
        generalize upd H4 T (.tup [.int (1 - 2 * d4), .int 1]) = H5 at fT df5 nz5 b5 s5 hu5 vT ⊢
        refine ⟨_, rfl, _, rfl, _, rfl, _, rfl, u, _, rfl, .inl (SqL.of hu5), st, c, (xs.length : Int), congrArg (fun z => [V.ref st, V.int z]) el, lp, lt8 (by omega), s5, fun H6 d6 b6 s6 l6 u6 => ?_⟩
        obtain ⟨x, hxi, hat⟩ := at_str (xs := xs) l6 u6
        have df6 := df5.but b6 s5
        have f6 := fT.but b6 s5
        have k0 : kvs.length < xs.length + 1 := by
          have z := df.2.2.1
          omega
        refine ⟨u, _, d6, _, rfl, rfl, SqL.of (b6 _ _ nu hu5), hat, a, _, rfl, DPut.k (k := .inr x) df6.1 (small1000 (by omega)), _, rfl, ?_⟩
        refine q _ a _ ?_ (s6.other as1 ac1) na (df6.put (hx x hxi) f6 k0) ((nz5.but df5 b6 s5).put df6 f6 ?_) (kin.put hxi)
        · intro b o nb e9
          rw [upd_ne fun z => ?_]
          · exact (b5.trans b6) b o nb e9
          · rw [z, na] at e9
            cases e9
        · rw [fT.fval fun ys e5 => b6.tup s5 e5, vT]
          show 1 - 2 * d4 ≠ 0
          omega
end
end SS

namespace SS
open PySem PySem.Spec PyProof.Rows L2
def fplus (a b : Int × Int) : Int × Int := (fr1 (a.1 * b.2 + b.1 * a.2) (a.2 * b.2), fr2 (a.1 * b.2 + b.1 * a.2) (a.2 * b.2))
def ftimes (a b : Int × Int) : Int × Int := (fr1 (a.1 * b.1) (a.2 * b.2), fr2 (a.1 * b.1) (a.2 * b.2))
def Okb (k : Nat) (a : Int × Int) : Prop := 0 < a.2 ∧ a.1.natAbs < 2 ^ k ∧ a.2.natAbs < 2 ^ k ∧ Int.gcd a.1 a.2 = 1
theorem Okb.mono {k j : Nat} {a : Int × Int} (h : Okb k a) (l : k ≤ j) : Okb j a := ⟨h.1, sm_mono h.2.1 l, sm_mono h.2.2.1 l, h.2.2.2⟩
theorem okb_times {a b : Int × Int} {k j : Nat} (ha : Okb k a) (hb : Okb j b) : Okb (k + j) (ftimes a b) := by
  have nz : a.2 * b.2 ≠ 0 := pos_ne ha.1 hb.1
  exact ⟨fr2_pos nz, Nat.lt_of_le_of_lt (fr1_le nz) (sm_mul ha.2.1 hb.2.1), Nat.lt_of_le_of_lt (fr2_le nz) (sm_mul ha.2.2.1 hb.2.2.1), fr_gcd nz⟩
theorem okb_plus {a b : Int × Int} {k j : Nat} (ha : Okb k a) (hb : Okb j b) : Okb (k + j + 1) (fplus a b) := by
  have nz : a.2 * b.2 ≠ 0 := pos_ne ha.1 hb.1
  have t1 : (a.1 * b.2).natAbs < 2 ^ (k + j) := sm_mul ha.2.1 hb.2.2.1
  have t2 : (b.1 * a.2).natAbs < 2 ^ (k + j) := by
    rw [Int.mul_comm]
    exact sm_mul ha.2.2.1 hb.2.1
  exact ⟨fr2_pos nz, Nat.lt_of_le_of_lt (fr1_le nz) (sm_add t1 t2), Nat.lt_of_le_of_lt (fr2_le nz) (sm_mono (sm_mul ha.2.2.1 hb.2.2.1) (Nat.le_succ _)), fr_gcd nz⟩
theorem okb_zero (k : Nat) : Okb (k + 1) (0, 1) := ⟨by decide, by show 0 < 2 ^ (k + 1); exact Nat.pow_pos (by decide), by show 1 < 2 ^ (k + 1); exact Nat.one_lt_pow (by omega) (by decide), by decide⟩
theorem Frg.okb {k : Nat} {H : Hp} {r : Addr} (h : Frg k H r) : Okb k (SS.fval H (.ref r)) := h.val.2
theorem mem_valV {ls : List (Key × V)} {k : Key} {v : V} (h : valV ls k = some v) : ∃ p ∈ ls, p.1 = k ∧ p.2 = v := by
  unfold valV at h
  cases e : ls.find? fun kv => decide (kv.1 = k) with
  | none =>
    rw [e] at h
    cases h
  | some p =>
    rw [e] at h
    exact ⟨p, List.mem_of_find?_eq_some e, of_decide_eq_true (List.find?_some (p := fun kv : Key × V => decide (kv.1 = k)) e), Option.some.inj h⟩
theorem FrT.unlock {K : PySem.W.Frag} {H : Hp} {a p : Addr} {n d : Int} {od : Obj} {kvs : List (Key × V)} {o : HO} (h : FrT K H p n d) (ha : H a = some (.frz od (.dK kvs))) : FrT K (upd H a o) p n d := by
  obtain ⟨h1, h2⟩ := h
  rcases h1 with (h1 | ⟨o1, h1⟩) | ⟨o1, its, m, k1, k2, k3⟩
  · have e : (upd H a o) p = some (.tup [.int n, .int d]) := by
      rw [upd_ne fun z => ?_]
      · exact h1
      · rw [z, ha] at h1
        cases h1
    exact FrT.of e
  · have e : (upd H a o) p = some (.frz o1 (.tup [.int n, .int d])) := by
      rw [upd_ne fun z => ?_]
      · exact h1
      · rw [z, ha] at h1
        cases h1
    exact ⟨.inl (.inr ⟨o1, e⟩), .fTuple e⟩
  · exact ⟨.inr ⟨o1, its, m, k1, k2, k3⟩, .kTuple k1 k2⟩
end SS

namespace SS
open PySem PySem.Spec PyProof.Rows L2
section
variable {P : Program} {w : World} {K : PySem.W.Frag} {mg : Str → Option Value} {base : Heap}
def spTurned : Sp := fun vs H Q _ => ∃ (p : Addr) (n d : Int), vs = [.ref p] ∧ H p = some (.tup [.int n, .int d]) ∧ ∀ r, H r = none → Q (.ref r) (upd H r (.tup [.int (0 - n), .int d]))
end
end SS

namespace SS
open PySem PySem.Spec PyProof.Rows L2
/-! ### fractions added up -/
theorem okb_top0 {B : Nat} {x : Int × Int} (h : Okb B x) (z : x.1 = 0) : x = (0, 1) := by
  obtain ⟨h1, _, _, h4⟩ := h
  rw [z] at h4
  have e : x.2.natAbs = 1 := by
    have q : Int.gcd 0 x.2 = x.2.natAbs := Int.gcd_zero_left ..
    rw [← q]
    exact h4
  have e2 : x.2 = 1 := by omega
  exact Prod.ext z e2
/-- a fraction in lowest terms is its own -/
theorem fr_self {n d : Int} (hd : 0 < d) (g : Int.gcd n d = 1) : fr1 n d = n ∧ fr2 n d = d := by
  have nz : d ≠ 0 := by omega
  have s1 : sgd n d = 1 := by
    unfold sgd
    rw [if_neg (by omega), g]
    rfl
  have a := fr1_eq (t := n) nz
  have b := fr2_eq (t := n) nz
  rw [s1, Int.mul_one] at a b
  exact ⟨a, b⟩
theorem fplus_zero {B : Nat} {x : Int × Int} (h : Okb B x) : fplus x (0, 1) = x := by
  obtain ⟨h1, _, _, h4⟩ := h
  have e := fr_self h1 h4
  show (fr1 (x.1 * 1 + 0 * x.2) (x.2 * 1), fr2 (x.1 * 1 + 0 * x.2) (x.2 * 1)) = x
  rw [Int.mul_one, Int.mul_one, Int.zero_mul, Int.add_zero, e.1, e.2]
theorem zero_fplus {B : Nat} {x : Int × Int} (h : Okb B x) : fplus (0, 1) x = x := by
  obtain ⟨h1, _, _, h4⟩ := h
  have e := fr_self h1 h4
  show (fr1 (0 * x.2 + x.1 * 1) (1 * x.2), fr2 (0 * x.2 + x.1 * 1) (1 * x.2)) = x
  rw [Int.mul_one, Int.one_mul, Int.zero_mul, Int.zero_add, e.1, e.2]
theorem ftimes_one {B : Nat} {x : Int × Int} (h : Okb B x) : ftimes x (1, 1) = x := by
  obtain ⟨h1, _, _, h4⟩ := h
  have e := fr_self h1 h4
  show (fr1 (x.1 * 1) (x.2 * 1), fr2 (x.1 * 1) (x.2 * 1)) = x
  rw [Int.mul_one, Int.mul_one, e.1, e.2]
theorem zero_ftimes {B : Nat} {x : Int × Int} (h : Okb B x) : ftimes (0, 1) x = (0, 1) := by
  have nz : (1 : Int) * x.2 ≠ 0 := by
    have := h.1
    omega
  have ok : Okb (B + 1 + B) (ftimes (0, 1) x) := okb_times (k := B + 1) (okb_zero B) h
  refine okb_top0 ok ?_
  show fr1 (0 * x.1) (1 * x.2) = 0
  have e := fr1_eq (t := 0 * x.1) nz
  rw [Int.zero_mul] at e
  rcases Int.mul_eq_zero.mp e with z | z
  · rw [Int.zero_mul]
    exact z
  · exact absurd z (sgd_ne nz)
/-! ### a dict that holds just what f says -/
/-- all that stands in the dict at a is f's; where it lacks, f is nought; z: no nought stands in it -/
def DM (z : Prop) (m : Nat) (H : Hp) (a : Addr) (kvs : List (Key × V)) (f : Key → Int × Int) : Prop :=
  H a = some (.dK kvs) ∧ (kvs.map (·.1)).Nodup ∧ kvs.length ≤ m ∧
  (∀ p ∈ kvs, (∃ x, p.1 = .inr x ∧ NmOk x) ∧ (∃ r, p.2 = .ref r ∧ H r = some (.tup [.int (f p.1).1, .int (f p.1).2])) ∧ (z → (f p.1).1 ≠ 0)) ∧ ∀ k, valV kvs k = none → f k = (0, 1)
theorem DM.same {z : Prop} {m : Nat} {H H' : Hp} {a : Addr} {kvs : List (Key × V)} {f : Key → Int × Int} (h : DM z m H a kvs f) (s : Same H H') : DM z m H' a kvs f := by
  obtain ⟨h1, h2, h3, h4, h5⟩ := h
  refine ⟨s _ _ h1, h2, h3, fun p hp => ?_, h5⟩
  obtain ⟨e1, ⟨r, e2, e3⟩, e4⟩ := h4 p hp
  exact ⟨e1, ⟨r, e2, s _ _ e3⟩, e4⟩
theorem DM.lk {z : Prop} {m : Nat} {H H' : Hp} {a b : Addr} {kvs ks : List (Key × V)} {f : Key → Int × Int} (h : DM z m H a kvs f) (hb : H b = some (.dK ks)) (n : a ≠ b) (s : ∀ x o, x ≠ b → H x = some o → H' x = some o) : DM z m H' a kvs f := by
  obtain ⟨h1, h2, h3, h4, h5⟩ := h
  refine ⟨s _ _ n h1, h2, h3, fun p hp => ?_, h5⟩
  obtain ⟨e1, ⟨r, e2, e3⟩, e4⟩ := h4 p hp
  refine ⟨e1, ⟨r, e2, s _ _ (fun c => ?_) e3⟩, e4⟩
  rw [c, hb] at e3
  cases e3
theorem DM.get {z : Prop} {m : Nat} {H : Hp} {a : Addr} {kvs : List (Key × V)} {f : Key → Int × Int} {k : Key} {v : V} (h : DM z m H a kvs f) (e : valV kvs k = some v) : ∃ r, v = .ref r ∧ H r = some (.tup [.int (f k).1, .int (f k).2]) := by
  obtain ⟨p, hp, e1, e2⟩ := mem_valV e
  obtain ⟨_, ⟨r, e3, e4⟩, _⟩ := h.2.2.2.1 p hp
  rw [e1] at e4
  exact ⟨r, e2.symm.trans e3, e4⟩
theorem DM.mono {z : Prop} {m n : Nat} {H : Hp} {a : Addr} {kvs : List (Key × V)} {f : Key → Int × Int} (h : DM z m H a kvs f) (l : m ≤ n) : DM z n H a kvs f := ⟨h.1, h.2.1, Nat.le_trans h.2.2.1 l, h.2.2.2⟩
theorem DM.fn {z : Prop} {m : Nat} {H : Hp} {a : Addr} {kvs : List (Key × V)} {f g : Key → Int × Int} (h : DM z m H a kvs f) (e : ∀ k, g k = f k) : DM z m H a kvs g := by
  have : g = f := funext e
  rw [this]
  exact h
theorem DM.copy {z : Prop} {m : Nat} {H : Hp} {a c : Addr} {kvs : List (Key × V)} {f : Key → Int × Int} (h : DM z m H a kvs f) (n : H c = none) : DM z m (upd H c (.dK kvs)) c kvs f := by
  have q := h.same (same_new (o := .dK kvs) n)
  exact ⟨upd_same, q.2⟩
/-- d[k] = v, f changed there -/
theorem DM.put {z : Prop} {m : Nat} {H : Hp} {a r : Addr} {kvs : List (Key × V)} {f : Key → Int × Int} {x : Str} {v : Int × Int} (h : DM z m H a kvs f) (hx : NmOk x) (hr : H r = some (.tup [.int v.1, .int v.2])) (hz : z → v.1 ≠ 0) :
    DM z (m + 1) (upd H a (.dK (putK kvs (.inr x) (.ref r)))) a (putK kvs (.inr x) (.ref r)) (fun k => if k = .inr x then v else f k) := by
  obtain ⟨h1, h2, h3, h4, h5⟩ := h
  have keep : ∀ r' xs, H r' = some (.tup xs) → (upd H a (.dK (putK kvs (.inr x) (.ref r)))) r' = some (.tup xs) := fun r' xs e => by
    rw [upd_ne fun c => ?_]
    · exact e
    · rw [c, h1] at e
      cases e
  have hv := valV_put kvs (.inr x) (y := .ref r)
  refine ⟨upd_same, nd_put _ _ h2, Nat.le_trans (length_putK ..) (Nat.succ_le_succ h3), fun p hp => ?_, fun k e => ?_⟩
  · have e0 : valV (putK kvs (.inr x) (.ref r)) p.1 = some p.2 := val_nodup (nd_put _ _ h2) p hp
    rw [hv] at e0
    by_cases c : p.1 = .inr x
    · rw [if_pos c] at e0
      dsimp only
      rw [if_pos c]
      exact ⟨⟨x, c, hx⟩, ⟨r, (Option.some.inj e0).symm, keep _ _ hr⟩, hz⟩
    · rw [if_neg c] at e0
      dsimp only
      rw [if_neg c]
      obtain ⟨q, hq, e1, e2⟩ := mem_valV e0
      obtain ⟨g1, ⟨r', g2, g3⟩, g4⟩ := h4 q hq
      rw [e1] at g1 g3 g4
      rw [e2] at g2
      exact ⟨g1, ⟨r', g2, keep _ _ g3⟩, g4⟩
  · rw [hv] at e
    by_cases c : k = .inr x
    · rw [if_pos c] at e
      cases e
    · rw [if_neg c] at e
      show (if k = .inr x then v else f k) = (0, 1)
      rw [if_neg c]
      exact h5 k e
/-- d.pop(k) where f is nought there -/
theorem DM.pop {m : Nat} {H : Hp} {a : Addr} {kvs : List (Key × V)} {f : Key → Int × Int} {x : Key} (h : DM False m H a kvs f) (nz : ∀ p ∈ kvs, p.1 ≠ x → (f p.1).1 ≠ 0) (e0 : f x = (0, 1)) :
    DM True m (upd H a (.dK (dropK kvs x))) a (dropK kvs x) f := by
  obtain ⟨h1, h2, h3, h4, h5⟩ := h
  have keep : ∀ r' xs, H r' = some (.tup xs) → (upd H a (.dK (dropK kvs x))) r' = some (.tup xs) := fun r' xs e => by
    rw [upd_ne fun c => ?_]
    · exact e
    · rw [c, h1] at e
      cases e
  have sub : ∀ p ∈ dropK kvs x, p ∈ kvs ∧ p.1 ≠ x := fun p hp => ⟨(List.mem_filter.mp hp).1, of_decide_eq_true (List.mem_filter.mp hp).2⟩
  refine ⟨upd_same, nd_dropK h2, ?_, fun p hp => ?_, fun k e => ?_⟩
  · exact Nat.le_trans (dropK_le ..) h3
  · obtain ⟨q1, q2⟩ := sub p hp
    obtain ⟨g1, ⟨r', g2, g3⟩, g4⟩ := h4 p q1
    exact ⟨g1, ⟨r', g2, keep _ _ g3⟩, fun _ => nz p q1 q2⟩
  · by_cases c : k = x
    · rw [c]
      exact e0
    · refine h5 k ?_
      cases e2 : valV kvs k with
      | none => rfl
      | some v =>
        obtain ⟨p, hp, e3, e4⟩ := mem_valV e2
        have hd : p ∈ dropK kvs x := List.mem_filter.mpr ⟨hp, decide_eq_true (by rw [e3]; exact c)⟩
        exact absurd (List.mem_map.mpr ⟨p, hd, e3⟩) (valV_not e)
theorem deq_of {m n : Nat} {H : Hp} {a b : Addr} {kvs ls : List (Key × V)} {f : Key → Int × Int} (h : DM True m H a kvs f) (h' : DM True n H b ls f) : DEq H (.ref a) (.ref b) := by
  obtain ⟨h1, h2, h3, h4, h5⟩ := h
  obtain ⟨g1, g2, g3, g4, g5⟩ := h'
  have key : ∀ (l1 l2 : List (Key × V)), (∀ p ∈ l1, (f p.1).1 ≠ 0) → (∀ k, valV l2 k = none → f k = (0, 1)) → ∀ x ∈ l1.map (·.1), x ∈ l2.map (·.1) := fun l1 l2 q1 q2 x hx => by
    obtain ⟨p, hp, rfl⟩ := List.mem_map.mp hx
    cases e : valV l2 p.1 with
    | none => exact absurd (by rw [q2 _ e]) (q1 p hp)
    | some v => exact valV_in e
  have m1 := key kvs ls (fun p hp => (h4 p hp).2.2 trivial) g5
  have m2 := key ls kvs (fun p hp => (g4 p hp).2.2 trivial) h5
  have pm : (kvs.map (·.1)).Perm (ls.map (·.1)) := (List.perm_ext_iff_of_nodup h2 g2).mpr fun x => ⟨m1 x, m2 x⟩
  have hl : kvs.length = ls.length := by
    have q := pm.length_eq
    rw [List.length_map, List.length_map] at q
    exact q
  refine ⟨a, b, kvs, ls, rfl, rfl, h1, g1, hl, fun p hp => ?_⟩
  cases e : valV ls p.1 with
  | none => exact absurd (by rw [g5 _ e]) ((h4 p hp).2.2 trivial)
  | some v =>
    obtain ⟨q, hq, e1, e2⟩ := mem_valV e
    obtain ⟨_, ⟨r, e3, e4⟩, _⟩ := g4 q hq
    obtain ⟨_, ⟨r', e5, e6⟩, _⟩ := h4 p hp
    rw [e1] at e4
    refine ⟨v, rfl, r', r, _, _, e5, e2.symm.trans e3, e6, e4⟩
end SS

namespace SS
open PySem PySem.Spec PyProof.Rows L2
theorem op_neDK {X : Cx} {K : PySem.W.Frag} (hK : K = X.K) (hu : X.A.units + 64 < cLine) : OpR X (compareOp .NotEq) (rNeD K) := by
  subst hK
  exact op_neD hu
theorem eqv_nought (n d : Int) : PyData.eqv (.tuple [.int n, .int d]) (.tuple [.int 0, .int 1]) = (n == 0 && d == 1) := by
  simp [PyData.eqv, PyData.eqvAll]
/-- g says of the keys of l what f says, of all others nought -/
def Upto (l : List (Key × V)) (f g : Key → Int × Int) : Prop := ∀ k, (k ∈ l.map (·.1) → g k = f k) ∧ (¬ k ∈ l.map (·.1) → g k = (0, 1))
theorem take_snoc {kvs : List (Key × V)} {i : Nat} {p : Key × V} (h : kvs[i]? = some p) : kvs.take (i + 1) = kvs.take i ++ [p] := by
  rw [List.take_add_one, h]
  rfl
theorem nd_at {kvs : List (Key × V)} {i : Nat} {p : Key × V} (hn : (kvs.map (·.1)).Nodup) (h : kvs[i]? = some p) : ¬ p.1 ∈ (kvs.take i).map (·.1) := fun hm => by
  have e : kvs = kvs.take i ++ p :: kvs.drop (i + 1) := by
    have hi := (List.getElem?_eq_some_iff.mp h)
    obtain ⟨hi, e⟩ := hi
    rw [← e, ← List.drop_eq_getElem_cons hi, List.take_append_drop]
  rw [e, List.map_append, List.map_cons] at hn
  have := List.nodup_append.mp hn
  exact this.2.2 _ hm _ List.mem_cons_self rfl
theorem Upto.snoc {kvs : List (Key × V)} {f g : Key → Int × Int} {i : Nat} {p : Key × V} (u : Upto (kvs.take i) f g) (h : kvs[i]? = some p) : Upto (kvs.take (i + 1)) f (fun k => if k = p.1 then f p.1 else g k) := fun k => by
  rw [take_snoc h, List.map_append, List.mem_append]
  constructor
  · intro hm
    by_cases c : k = p.1
    · show (if k = p.1 then f p.1 else g k) = f k
      rw [if_pos c, c]
    · show (if k = p.1 then f p.1 else g k) = f k
      rw [if_neg c]
      rcases hm with hm | hm
      · exact (u k).1 hm
      · exact absurd (List.mem_singleton.mp hm) c
  · intro hm
    have c : k ≠ p.1 := fun e => hm (.inr (List.mem_singleton.mpr e))
    show (if k = p.1 then f p.1 else g k) = (0, 1)
    rw [if_neg c]
    exact (u k).2 fun z => hm (.inl z)
theorem Upto.snoc0 {kvs : List (Key × V)} {f g : Key → Int × Int} {i : Nat} {p : Key × V} (u : Upto (kvs.take i) f g) (hn : (kvs.map (·.1)).Nodup) (h : kvs[i]? = some p) (z : f p.1 = (0, 1)) : Upto (kvs.take (i + 1)) f g := fun k => by
  rw [take_snoc h, List.map_append, List.mem_append]
  constructor
  · intro hm
    rcases hm with hm | hm
    · exact (u k).1 hm
    · have e := List.mem_singleton.mp hm
      have e' : k = p.1 := e
      rw [e', z]
      exact (u p.1).2 (nd_at hn h)
  · intro hm
    exact (u k).2 fun q => hm (.inl q)
theorem Upto.all {z : Prop} {m : Nat} {H : Hp} {a : Addr} {kvs : List (Key × V)} {f g : Key → Int × Int} (h : DM z m H a kvs f) (u : Upto kvs f g) : ∀ k, f k = g k := fun k => by
  by_cases c : k ∈ kvs.map (·.1)
  · exact ((u k).1 c).symm
  · rw [(u k).2 c]
    cases e : valV kvs k with
    | none => exact h.2.2.2.2 k e
    | some v => exact absurd (valV_in e) c
theorem dm_new {z : Prop} {m : Nat} {H : Hp} {D : Addr} (h : H D = some (.dK [])) : DM z m H D [] (fun _ => (0, 1)) := ⟨h, List.nodup_nil, Nat.zero_le _, fun p hp => absurd hp List.not_mem_nil, fun _ _ => rfl⟩
section
variable {P : Program} {w : World} {K : PySem.W.Frag} {mg : Str → Option Value} {base : Heap}
def spWn : Sp := fun vs H Q _ => ∃ (a : Addr) (kvs : List (Key × V)) (f : Key → Int × Int) (m B : Nat), vs = [.ref a] ∧ DM False m H a kvs f ∧ m ≤ 900 ∧ (∀ k, Okb B (f k)) ∧
  ∀ H' c ks, Same H H' → H c = none → DM True m H' c ks f → Q (.ref c) H'
theorem scWn : FnScope ["numbers", "unknown"] ["numbers"] (defScope sWn) := ⟨rfl, rfl, rfl, by decide +kernel, rfl, by decide +kernel, by decide +kernel⟩
theorem ok_wn {f' aN : Addr} {fd : FuncData} {k : Nat} (F : Fun K "without_noughts" "without_noughts" sWn f' fd) (gN : mg "NOUGHT" = some (.ref aN)) (hN : ∀ H, FrT K H aN 0 1) : FnOk P w K mg base CX0 (k + 1) f' fd ["numbers"] spWn := by
  refine F.ok scWn (fun vs H Q E h => ?_) (fun cdv A outer s H vs Q E hr h => ?_)
  · obtain ⟨_, _, _, _, _, rfl, _⟩ := h
    rfl
  · obtain ⟨a, kvs, f, m, B, rfl, da, hm, ok, q⟩ := h
    have hu := hu_of hr
    refine ⟨_, pss_one (ps_ret (pe_lock (pe_dc (own := [("unknown", 1)]) (g := gName 1) rfl scWn.nd (pi_keys (pv 0)) (blkOk_by (by rfl))
      (fun _ _ _ _ _ => pg_name (i := 1) scWn.nd rfl (Or.inl rfl))
      (fun _ _ _ _ _ => pts_one (pt_cmpR (op_neDK (K := K) rfl hr.units) (pe_dget hu (pv 0) (pv 1) (fun _ _ => rfl)) (pe_glob (v := .ref aN) (by rfl) gN rfl) (nomark _)))
      (fun _ _ _ _ _ => pv 1) (fun _ _ _ _ _ => pe_dget hu (pv 0) (pv 1) (fun _ _ => rfl))))), ?_⟩
    refine ⟨a, .dK kvs, da.1, trivial, fun od => ⟨_, rfl, a, od, rfl, .inl ⟨kvs, upd_same, fun D nD => ?_⟩⟩⟩
    have nDH : H D = none := by
      cases e : H D with
      | none => rfl
      | some o =>
        by_cases c : D = a
        · rw [c, upd_same] at nD
          cases nD
        · rw [upd_ne c, e] at nD
          cases nD
    have aD : a ≠ D := ne_of_none da.1 nDH
    refine ⟨fun i mm H' => ∃ ks g, i + mm = kvs.length ∧ (∀ x o, x ≠ a → x ≠ D → H x = some o → H' x = some o) ∧ H' a = some (.frz od (.dK kvs)) ∧ DM True i H' D ks g ∧ Upto (kvs.take i) f g,
      ⟨kvs.length, [], fun _ => (0, 1), by omega, fun x o n1 n2 e => by rw [upd_ne n2, upd_ne n1]; exact e, by rw [upd_ne aD]; exact upd_same, dm_new upd_same, fun k => ⟨fun z => absurd z List.not_mem_nil, fun _ => rfl⟩⟩, fun i mm H3 hW => ?_⟩
    obtain ⟨ks, g, em, kp, ha3, dm, up⟩ := hW
    have ml : kvs.length ≤ m := da.2.2.1
    by_cases hi : i < kvs.length
    · refine .inr ⟨⟨ha3, hi⟩, fun H' => ∃ ks g, (∀ x o, x ≠ a → x ≠ D → H x = some o → H' x = some o) ∧ H' a = some (.frz od (.dK kvs)) ∧ DM True (i + 1) H' D ks g ∧ Upto (kvs.take (i + 1)) f g, fun H' hN' => ?_, fun x H' hy => ?_⟩
      · obtain ⟨a1, a2, r1, r2, r3, r4⟩ := hN'
        exact ⟨mm - 1, by omega, a1, a2, by omega, r1, r2, r3, r4⟩
      · obtain ⟨rfl, key, v, hkv, rfl⟩ := hy
        obtain ⟨⟨nx, e1, okn⟩, ⟨rv, e2, e3⟩, _⟩ := da.2.2.2.1 (key, v) (List.mem_of_getElem? hkv)
        have e2' : v = .ref rv := e2
        have e1' : key = .inr nx := e1
        subst e2' e1'
        have ev : valV kvs (.inr nx) = some (.ref rv) := val_nodup da.2.1 (.inr nx, .ref rv) (List.mem_of_getElem? hkv)
        have rva : rv ≠ a := fun c => by
          rw [c, da.1] at e3
          cases e3
        have hv3 : H' rv = some (.tup [.int (f (.inr nx)).1, .int (f (.inr nx)).2]) := kp _ _ rva (ne_of_none e3 nDH) e3
        have dg : DGet H' a (kV (.inr nx)) (some (.ref rv)) := .inl ⟨kvs, .inr nx, .inr ⟨od, ha3⟩, rfl, ev.symm⟩
        refine ⟨rfl, _, rfl, _, rfl, a, _, rfl, dg, .tuple [.int (f (.inr nx)).1, .int (f (.inr nx)).2], .tuple [.int 0, .int 1], .tup (SqT.of hv3) (.cons (.int _) (.cons (.int _) .nil)), .tup (hN _).1 (.cons (.int _) (.cons (.int _) .nil)), rfl, rfl, _, rfl, ite2 (fun e => ?_) (fun e => ?_)⟩
        · rw [eqv_nought] at e
          have nz : (f (.inr nx)).1 ≠ 0 := fun z => by
            have zz := okb_top0 (ok _) z
            rw [zz] at e
            exact absurd e (by decide)
          refine ⟨_, rfl, _, rfl, _, rfl, a, _, rfl, dg, ks, .inr nx, rfl, dm.1, small1000 (by have := dm.2.2.1; omega), ?_⟩
          have dp := dm.put (x := nx) (r := rv) (v := f (.inr nx)) okn hv3 (fun _ => nz)
          refine ⟨_, _, ?_, ?_, dp, up.snoc hkv⟩
          · intro x o n1 n2 e
            rw [upd_ne n2]
            exact kp x o n1 n2 e
          · rw [upd_ne aD]
            exact ha3
        · rw [eqv_nought] at e
          have z : f (.inr nx) = (0, 1) := by
            have e' : (f (.inr nx)).1 = 0 := by
              by_cases c : (f (.inr nx)).1 = 0
              · exact c
              · exact absurd (by rw [show ((f (.inr nx)).1 == 0) = false from beq_eq_false_iff_ne.mpr c]; rfl) e
            exact okb_top0 (ok _) e'
          exact ⟨ks, g, kp, ha3, dm.mono (Nat.le_succ _), up.snoc0 da.2.1 hkv z⟩
    · have ei : kvs.take i = kvs := List.take_of_length_le (by omega)
      rw [ei] at up
      have fg := up.all da
      refine .inl ⟨⟨ha3, by omega⟩, ha3, q _ D ks ?_ nDH ?_⟩
      · intro x o e
        by_cases c : x = a
        · subst c
          rw [upd_same, ← da.1]
          exact e
        · rw [upd_ne c]
          exact kp x o c (ne_of_none e nDH) e
      · obtain ⟨d1, d2, d3, d4, d5⟩ := dm.fn (g := f) fg
        refine ⟨by rw [upd_ne aD.symm]; exact d1, d2, by omega, fun p hp => ?_, d5⟩
        obtain ⟨g1, ⟨r', g2, g3⟩, g4⟩ := d4 p hp
        refine ⟨g1, ⟨r', g2, ?_⟩, g4⟩
        rw [upd_ne fun c => ?_]
        · exact g3
        · rw [c, ha3] at g3
          cases g3
end
end SS

namespace SS
open PySem PySem.Spec PyProof.Rows L2
/-! ### pairs added up -/
def tstep (f : Key → Int × Int) (p : Str × (Int × Int)) : Key → Int × Int := fun k => if k = .inr p.1 then fplus (f k) p.2 else f k
def tot (ps : List (Str × (Int × Int))) : Key → Int × Int := ps.foldl tstep fun _ => (0, 1)
theorem tot_snoc (ps : List (Str × (Int × Int))) (p : Str × (Int × Int)) : tot (ps ++ [p]) = tstep (tot ps) p := by
  unfold tot
  rw [List.foldl_append]
  rfl
theorem tot_ok {B : Nat} {ps : List (Str × (Int × Int))} (h : ∀ p ∈ ps, Okb B p.2) : ∀ k, Okb ((B + 1) * ps.length + 1) (tot ps k) := by
  have key : ∀ (n : Nat) (ps : List (Str × (Int × Int))), ps.length = n → (∀ p ∈ ps, Okb B p.2) → ∀ k, Okb ((B + 1) * ps.length + 1) (tot ps k) := fun n => by
    induction n with
    | zero =>
      intro ps e _ k
      rw [List.eq_nil_of_length_eq_zero e]
      exact okb_zero 0
    | succ n ih =>
      intro ps e hp k
      obtain ⟨qs, p, rfl⟩ : ∃ qs p, ps = qs ++ [p] := by
        have ne : ps ≠ [] := fun z => by
          rw [z] at e
          cases e
        exact ⟨ps.dropLast, ps.getLast ne, (List.dropLast_concat_getLast ne).symm⟩
      have lq : qs.length = n := by
        rw [List.length_append] at e
        exact Nat.succ.inj e
      have i1 := ih qs lq (fun p hp' => hp p (List.mem_append.mpr (.inl hp'))) k
      rw [tot_snoc, List.length_append]
      unfold tstep
      split
      · exact (okb_plus i1 (hp p (List.mem_append.mpr (.inr (List.mem_singleton.mpr rfl))))).mono (by show (B + 1) * qs.length + 1 + B + 1 ≤ (B + 1) * (qs.length + 1) + 1; rw [Nat.mul_succ]; omega)
      · exact i1.mono (by show (B + 1) * qs.length + 1 ≤ (B + 1) * (qs.length + 1) + 1; rw [Nat.mul_succ]; omega)
  exact key _ ps rfl h
/-- at the addresses rs stand the pairs ps -/
def PL (H : Hp) (rs : List Addr) (ps : List (Str × (Int × Int))) : Prop := rs.length = ps.length ∧ ∀ (i : Nat) (r : Addr), rs[i]? = some r → ∃ (x : Str) (q : Addr) (e : Int × Int), ps[i]? = some (x, e) ∧ H r = some (.tup [.str x, .ref q]) ∧ H q = some (.tup [.int e.1, .int e.2])
theorem PL.same {H H' : Hp} {rs : List Addr} {ps : List (Str × (Int × Int))} (h : PL H rs ps) (s : Same H H') : PL H' rs ps := ⟨h.1, fun i r e => by
  obtain ⟨x, q, v, e1, e2, e3⟩ := h.2 i r e
  exact ⟨x, q, v, e1, s _ _ e2, s _ _ e3⟩⟩
section
variable {P : Program} {w : World} {K : PySem.W.Frag} {mg : Str → Option Value} {base : Heap}
def spSumOf (K : PySem.W.Frag) : Sp := fun vs H Q _ => ∃ (p : Addr) (rs : List Addr) (ps : List (Str × (Int × Int))) (B : Nat), vs = [.ref p] ∧ (SqL K H p (rs.map V.ref) ∨ SqT K H p (rs.map V.ref)) ∧ PL H rs ps ∧ ps.length ≤ 400 ∧ (∀ i k, Okb 2900 (tot (ps.take i) k)) ∧ B ≤ 2900 ∧ (∀ p ∈ ps, NmOk p.1 ∧ Okb B p.2) ∧
  ∀ H' c ks, Same H H' → H c = none → DM True ps.length H' c ks (tot ps) → Q (.ref c) H'
theorem Same.seqT {H H' : Hp} {a : Addr} {xs : List V} (e : Same H H') (h : SqT K H a xs) : SqT K H' a xs := by
  rcases h with (h | ⟨o, h⟩) | h
  · exact .inl (.inl (e _ _ h))
  · exact .inl (.inr ⟨o, e _ _ h⟩)
  · exact .inr h
theorem scSumOf : FnScope ["pairs", "numbers", "unknown", "number"] ["pairs"] (defScope sSumOf) := ⟨rfl, rfl, rfl, by decide +kernel, rfl, by decide +kernel, by decide +kernel⟩
theorem ok_sumof {f' aN : Addr} {fd : FuncData} (F : Fun K "sum_of" "sum_of" sSumOf f' fd) (gN : mg "NOUGHT" = some (.ref aN)) (hN : ∀ H, FrT K H aN 0 1) (pl : Cl P w K mg base CX0 3 "plus" (spPlus K) []) (wn : Cl P w K mg base CX0 1 "without_noughts" spWn []) : FnOk P w K mg base CX0 4 f' fd ["pairs"] (spSumOf K) := by
  refine F.ok scSumOf (fun vs H Q E h => ?_) (fun cdv A outer s H vs Q E hr h => ?_)
  · obtain ⟨_, _, _, _, rfl, _⟩ := h
    rfl
  · obtain ⟨p, rs, ps, B, rfl, hS, hp, hl, hB, hB2, hx, q⟩ := h
    have hu := hu_of hr
    rcases hS with hS | hS
    · refine ⟨_, pss_cons (ps_set (i := 1) scSumOf.nd rfl (.inl rfl) pe_dnewK)
        (pss_cons (ps_for PassesOwn.never rfl (pi_list (pv 0)) (pg_tup rfl (pgs_cons (pg_name (i := 2) scSumOf.nd rfl (.inl rfl)) (pgs_cons (pg_name (i := 3) scSumOf.nd rfl (.inl rfl)) pgs_nil)))
          (pss_one (ps_dput hu (pv 1) (pv 2) (pc0 pl hr (by decide) (pa_cons (pe_dget2 hu (pv 1) (pv 2) (pe_glob (v := .ref aN) (by rfl) gN rfl) ⟨rfl, rfl, rfl, rfl⟩) (pa_cons (pv 3) pa_nil))) rfl)))
        (pss_one (ps_ret (pc0 wn hr (by decide) (pa_cons (pv 1) pa_nil))))), ?_⟩
      intro D nD
      have s0 := same_new (o := .dK []) nD
      refine ⟨_, rfl, p, rfl, ⟨_, s0.seq hS⟩, for_list (K := K) (a := p) (xs := rs.map V.ref) (fun i σ H' => ∃ (y2 y3 : Option V) (ks : List (Key × V)), σ = [some (.ref p), some (.ref D), y2, y3] ∧ Same H H' ∧ DM False i H' D ks (tot (ps.take i)))
        ⟨none, none, [], rfl, s0, dm_new upd_same⟩ (fun i σ H' _ hW => ?_) ?_ ?_⟩
      · obtain ⟨_, _, _, _, sm, _⟩ := hW
        exact sm.seq hS
      · rintro i y σ H3 hy ⟨y2, y3, ks, rfl, sm, dm⟩
        obtain ⟨r, hri, rfl⟩ : ∃ r, rs[i]? = some r ∧ y = .ref r := by
          rw [List.getElem?_map] at hy
          cases e : rs[i]? with
          | none =>
            rw [e] at hy
            cases hy
          | some r =>
            rw [e] at hy
            exact ⟨r, rfl, (Option.some.inj hy).symm⟩
        obtain ⟨x, qa, e, hpi, hr1, hq1⟩ := hp.2 i r hri
        have il : i < ps.length := (List.getElem?_eq_some_iff.mp hpi).1
        have hxe := hx _ (List.mem_of_getElem? hpi)
        have et : ps.take (i + 1) = ps.take i ++ [(x, e)] := by
          rw [List.take_add_one, hpi]
          rfl
        have okt : ∀ k, Okb 2900 (tot (ps.take i) k) := fun k => hB i k
        have hr3 := sm _ _ hr1
        refine ⟨r, _, rfl, SqT.of hr3, rfl, _, _, rfl, _, _, rfl, rfl, ?_⟩
        obtain ⟨rp, ep, fp⟩ : ∃ rp, (valV ks (.inr x)).getD (.ref aN) = .ref rp ∧ FrT K H3 rp (tot (ps.take i) (.inr x)).1 (tot (ps.take i) (.inr x)).2 := by
          cases ev : valV ks (.inr x) with
          | none =>
            rw [dm.2.2.2.2 _ ev]
            exact ⟨aN, rfl, hN _⟩
          | some v =>
            obtain ⟨r', rfl, f'⟩ := dm.get ev
            exact ⟨r', rfl, FrT.of f'⟩
        have o1 := okt (.inr x)
        have o2 := hxe.2.mono hB2
        refine ⟨_, rfl, D, rfl, .inl ⟨ks, .inl dm.1⟩, _, rfl, valV ks (.inr x), DGet.k (k := .inr x) dm.1, _, rfl, _, _, e.1, e.2, ⟨rp, qa, by rw [ep]; rfl, fp, FrT.of (sm _ _ hq1), o1.1, o2.1, sm_mono o1.2.1 (by decide), sm_mono o1.2.2.1 (by decide), sm_mono o2.2.1 (by decide), sm_mono o2.2.2.1 (by decide), o1.2.2.2, o2.2.2.2⟩, fun r2 nr2 => ?_⟩
        have s4 := same_new (o := .tup [.int (fplus (tot (ps.take i) (.inr x)) e).1, .int (fplus (tot (ps.take i) (.inr x)) e).2]) nr2
        have dm4 := dm.same s4
        refine ⟨_, rfl, _, rfl, D, _, rfl, DPut.k (k := .inr x) dm4.1 (small1000 (by have := dm.2.2.1; omega)), ?_⟩
        refine ⟨_, _, _, rfl, ?_, (dm4.put (x := x) (r := r2) (v := fplus (tot (ps.take i) (.inr x)) e) hxe.1 upd_same (fun z => z.elim)).fn fun k => ?_⟩
        · intro b o eb
          rw [upd_ne (ne_of_none eb nD)]
          exact s4 _ _ (sm _ _ eb)
        · rw [et, tot_snoc]
          show (if k = .inr x then fplus (tot (ps.take i) k) e else tot (ps.take i) k) = if k = .inr x then fplus (tot (ps.take i) (.inr x)) e else tot (ps.take i) k
          by_cases c : k = .inr x
          · rw [if_pos c, if_pos c, c]
          · rw [if_neg c, if_neg c]
      · rintro σ H3 ⟨y2, y3, ks, rfl, sm, dm⟩
        rw [List.length_map, hp.1, List.take_length] at dm
        refine ⟨_, rfl, D, ks, tot ps, ps.length, 2900, rfl, dm, (by omega), fun k => by
          have z := hB ps.length k
          rw [List.take_length] at z
          exact z, fun H4 c ks' s4 nc d4 => ?_⟩
        exact q _ c ks' (sm.trans s4) (sm.free nc) d4
    · refine ⟨_, pss_cons (ps_set (i := 1) scSumOf.nd rfl (.inl rfl) pe_dnewK)
        (pss_cons (ps_for PassesOwn.never rfl (pi_tup (pv 0)) (pg_tup rfl (pgs_cons (pg_name (i := 2) scSumOf.nd rfl (.inl rfl)) (pgs_cons (pg_name (i := 3) scSumOf.nd rfl (.inl rfl)) pgs_nil)))
          (pss_one (ps_dput hu (pv 1) (pv 2) (pc0 pl hr (by decide) (pa_cons (pe_dget2 hu (pv 1) (pv 2) (pe_glob (v := .ref aN) (by rfl) gN rfl) ⟨rfl, rfl, rfl, rfl⟩) (pa_cons (pv 3) pa_nil))) rfl)))
        (pss_one (ps_ret (pc0 wn hr (by decide) (pa_cons (pv 1) pa_nil))))), ?_⟩
      intro D nD
      have s0 := same_new (o := .dK []) nD
      refine ⟨_, rfl, p, rfl, ⟨_, Same.seqT s0 hS⟩, for_tup (K := K) (a := p) (xs := rs.map V.ref) (fun i σ H' => ∃ (y2 y3 : Option V) (ks : List (Key × V)), σ = [some (.ref p), some (.ref D), y2, y3] ∧ Same H H' ∧ DM False i H' D ks (tot (ps.take i)))
        ⟨none, none, [], rfl, s0, dm_new upd_same⟩ (fun i σ H' _ hW => ?_) ?_ ?_⟩
      · obtain ⟨_, _, _, _, sm, _⟩ := hW
        exact Same.seqT sm hS
      · rintro i y σ H3 hy ⟨y2, y3, ks, rfl, sm, dm⟩
        obtain ⟨r, hri, rfl⟩ : ∃ r, rs[i]? = some r ∧ y = .ref r := by
          rw [List.getElem?_map] at hy
          cases e : rs[i]? with
          | none =>
            rw [e] at hy
            cases hy
          | some r =>
            rw [e] at hy
            exact ⟨r, rfl, (Option.some.inj hy).symm⟩
        obtain ⟨x, qa, e, hpi, hr1, hq1⟩ := hp.2 i r hri
        have il : i < ps.length := (List.getElem?_eq_some_iff.mp hpi).1
        have hxe := hx _ (List.mem_of_getElem? hpi)
        have et : ps.take (i + 1) = ps.take i ++ [(x, e)] := by
          rw [List.take_add_one, hpi]
          rfl
        have okt : ∀ k, Okb 2900 (tot (ps.take i) k) := fun k => hB i k
        have hr3 := sm _ _ hr1
        refine ⟨r, _, rfl, SqT.of hr3, rfl, _, _, rfl, _, _, rfl, rfl, ?_⟩
        obtain ⟨rp, ep, fp⟩ : ∃ rp, (valV ks (.inr x)).getD (.ref aN) = .ref rp ∧ FrT K H3 rp (tot (ps.take i) (.inr x)).1 (tot (ps.take i) (.inr x)).2 := by
          cases ev : valV ks (.inr x) with
          | none =>
            rw [dm.2.2.2.2 _ ev]
            exact ⟨aN, rfl, hN _⟩
          | some v =>
            obtain ⟨r', rfl, f'⟩ := dm.get ev
            exact ⟨r', rfl, FrT.of f'⟩
        have o1 := okt (.inr x)
        have o2 := hxe.2.mono hB2
        refine ⟨_, rfl, D, rfl, .inl ⟨ks, .inl dm.1⟩, _, rfl, valV ks (.inr x), DGet.k (k := .inr x) dm.1, _, rfl, _, _, e.1, e.2, ⟨rp, qa, by rw [ep]; rfl, fp, FrT.of (sm _ _ hq1), o1.1, o2.1, sm_mono o1.2.1 (by decide), sm_mono o1.2.2.1 (by decide), sm_mono o2.2.1 (by decide), sm_mono o2.2.2.1 (by decide), o1.2.2.2, o2.2.2.2⟩, fun r2 nr2 => ?_⟩
        have s4 := same_new (o := .tup [.int (fplus (tot (ps.take i) (.inr x)) e).1, .int (fplus (tot (ps.take i) (.inr x)) e).2]) nr2
        have dm4 := dm.same s4
        refine ⟨_, rfl, _, rfl, D, _, rfl, DPut.k (k := .inr x) dm4.1 (small1000 (by have := dm.2.2.1; omega)), ?_⟩
        refine ⟨_, _, _, rfl, ?_, (dm4.put (x := x) (r := r2) (v := fplus (tot (ps.take i) (.inr x)) e) hxe.1 upd_same (fun z => z.elim)).fn fun k => ?_⟩
        · intro b o eb
          rw [upd_ne (ne_of_none eb nD)]
          exact s4 _ _ (sm _ _ eb)
        · rw [et, tot_snoc]
          show (if k = .inr x then fplus (tot (ps.take i) k) e else tot (ps.take i) k) = if k = .inr x then fplus (tot (ps.take i) (.inr x)) e else tot (ps.take i) k
          by_cases c : k = .inr x
          · rw [if_pos c, if_pos c, c]
          · rw [if_neg c, if_neg c]
      · rintro σ H3 ⟨y2, y3, ks, rfl, sm, dm⟩
        rw [List.length_map, hp.1, List.take_length] at dm
        refine ⟨_, rfl, D, ks, tot ps, ps.length, 2900, rfl, dm, (by omega), fun k => by
          have z := hB ps.length k
          rw [List.take_length] at z
          exact z, fun H4 c ks' s4 nc d4 => ?_⟩
        exact q _ c ks' (sm.trans s4) (sm.free nc) d4
end
end SS

namespace SS
open PySem PySem.Spec PyProof.Rows L2
theorem DM.weak {z : Prop} {m : Nat} {H : Hp} {a : Addr} {kvs : List (Key × V)} {f : Key → Int × Int} (h : DM z m H a kvs f) : DM False m H a kvs f := ⟨h.1, h.2.1, h.2.2.1, fun p hp => ⟨(h.2.2.2.1 p hp).1, (h.2.2.2.1 p hp).2.1, fun c => c.elim⟩, h.2.2.2.2⟩
/-- the dict at b is given back -/
theorem DM.unlock {z : Prop} {m : Nat} {H : Hp} {a b : Addr} {kvs ls : List (Key × V)} {f : Key → Int × Int} {od : Obj} {o : HO} (h : DM z m H a kvs f) (hb : H b = some (.frz od (.dK ls))) (n : a ≠ b) : DM z m (upd H b o) a kvs f := by
  obtain ⟨h1, h2, h3, h4, h5⟩ := h
  refine ⟨by rw [upd_ne n]; exact h1, h2, h3, fun p hp => ?_, h5⟩
  obtain ⟨e1, ⟨r, e2, e3⟩, e4⟩ := h4 p hp
  refine ⟨e1, ⟨r, e2, ?_⟩, e4⟩
  rw [upd_ne fun c => ?_]
  · exact e3
  · rw [c, hb] at e3
    cases e3
section
variable {P : Program} {w : World} {K : PySem.W.Frag} {mg : Str → Option Value} {base : Heap}
def spAdd (K : PySem.W.Frag) : Sp := fun vs H Q _ => ∃ (a b n : Addr) (kvs ls : List (Key × V)) (f g : Key → Int × Int) (num : Int × Int) (m l : Nat), vs = [.ref a, .ref b, .ref n] ∧ DM True m H a kvs f ∧ DM False l H b ls g ∧ FrT K H n num.1 num.2 ∧
  (∀ k, Okb 1400 (f k)) ∧ (∀ k, Okb 1400 (g k)) ∧ Okb 107 num ∧ m ≤ 100 ∧ l ≤ 100 ∧ ∀ H' c ks, Same H H' → H c = none → DM True (m + l) H' c ks (fun k => fplus (f k) (ftimes (g k) num)) → Q (.ref c) H'
theorem scAdd : FnScope ["_law_one", "_law_other", "_law_number_here", "_law_found", "_law_key", "_law_more"] ["_law_one", "_law_other", "_law_number_here"] (defScope sAdd) := ⟨rfl, rfl, rfl, by decide +kernel, rfl, by decide +kernel, by decide +kernel⟩
theorem ok_add {f' : Addr} {fd : FuncData} (F : Fun K "_law_add" "_law_add" sAdd f' fd) (md : mg "dict" = none) (pl : Cl P w K mg base CX0 3 "_law_plus" (spPlus K) []) (tm : Cl P w K mg base CX0 3 "_law_times" (spTimes K) []) : FnOk P w K mg base CX0 4 f' fd ["_law_one", "_law_other", "_law_number_here"] (spAdd K) := by
  refine F.ok scAdd (fun vs H Q E h => ?_) (fun cdv A outer s H vs Q E hr h => ?_)
  · obtain ⟨_, _, _, _, _, _, _, _, _, _, rfl, _⟩ := h
    rfl
  · obtain ⟨a, b, n, kvs, ls, f, g, num, m, l, rfl, da, db, fn, okf, okg, okn, hm, hl, q⟩ := h
    have hu := hu_of hr
    refine ⟨_, pss_cons (ps_set (i := 3) scAdd.nd rfl (.inl rfl) (pe_callTy call_dictD (by rfl) md (by decide +kernel) (pa_cons (pv 0) pa_nil)))
      (pss_cons (ps_lock (ps_for PassesOwn.never rfl (pi_keys (pv 1)) (pg_name (i := 4) scAdd.nd rfl (.inl rfl))
        (pss_cons (ps_set (i := 5) scAdd.nd rfl (.inl rfl) (pc0 pl hr (by decide) (pa_cons (pe_dget2 hu (pv 3) (pv 4) (pe_tup (pa_cons pe_int (pa_cons pe_int pa_nil))) ⟨rfl, rfl, rfl, rfl⟩)
          (pa_cons (pc0 tm hr (by decide) (pa_cons (pe_dget hu (pv 1) (pv 4) (fun _ _ => rfl)) (pa_cons (pv 2) pa_nil))) pa_nil))))
        (pss_cons (ps_dput hu (pv 3) (pv 4) (pv 5) rfl)
        (pss_one (ps_if (pt_cmpR op_eq (pe_ix ix_tup (pv 5) pe_int (fun _ _ => rfl)) pe_int (nomark _)) (pss_one (ps_expr (pe_dpop1 (pv 3) (pv 4) ⟨rfl, rfl, rfl, rfl⟩))) pss_nil))))))
      (pss_one (ps_ret (pv 3)))), ?_⟩
    refine ⟨_, rfl, a, kvs, rfl, .inl da.1, fun c nc => ?_⟩
    have s1 := same_new (o := .dK kvs) nc
    have dc := da.copy nc
    have db1 := db.same s1
    have bc : b ≠ c := ne_of_none db.1 nc
    refine ⟨b, .dK ls, db1.1, trivial, fun od => ⟨_, rfl, b, od, rfl, .inl ⟨ls, upd_same, ?_⟩⟩⟩
    have kp1 : ∀ x o, x ≠ b → H x = some o → (upd (upd H c (.dK kvs)) b (.frz od (.dK ls))) x = some o := fun x o nx e => by
      rw [upd_ne nx]
      exact s1 _ _ e
    have dc1 : DM True m (upd (upd H c (.dK kvs)) b (.frz od (.dK ls))) c kvs f := dc.lk db1.1 bc.symm fun x o nx e => by
      rw [upd_ne nx]
      exact e
    refine ⟨fun i mm σ H' => ∃ (y4 y5 : Option V) (ks : List (Key × V)) (fj : Key → Int × Int), σ = [some (.ref a), some (.ref b), some (.ref n), some (.ref c), y4, y5] ∧ i + mm = ls.length ∧ (∀ x o, x ≠ b → H x = some o → H' x = some o) ∧ H' b = some (.frz od (.dK ls)) ∧
        DM True (m + i) H' c ks fj ∧ ∀ k, (k ∈ (ls.take i).map (·.1) → fj k = fplus (f k) (ftimes (g k) num)) ∧ (¬ k ∈ (ls.take i).map (·.1) → fj k = f k),
      ⟨ls.length, none, none, kvs, f, rfl, by omega, kp1, upd_same, dc1, fun k => ⟨fun z => absurd z List.not_mem_nil, fun _ => rfl⟩⟩, fun i mm σ H3 hW => ?_⟩
    obtain ⟨y4, y5, ks, fj, rfl, em, kp, hb3, dm, fk⟩ := hW
    have ll : ls.length ≤ l := db.2.2.1
    by_cases hi : i < ls.length
    · refine .inr ⟨⟨hb3, hi⟩, fun σ' H' => ∃ (y4 y5 : Option V) (ks : List (Key × V)) (fj : Key → Int × Int), σ' = [some (.ref a), some (.ref b), some (.ref n), some (.ref c), y4, y5] ∧ (∀ x o, x ≠ b → H x = some o → H' x = some o) ∧ H' b = some (.frz od (.dK ls)) ∧
          DM True (m + (i + 1)) H' c ks fj ∧ ∀ k, (k ∈ (ls.take (i + 1)).map (·.1) → fj k = fplus (f k) (ftimes (g k) num)) ∧ (¬ k ∈ (ls.take (i + 1)).map (·.1) → fj k = f k), fun σ' H' hN' => ?_, fun x H' hy => ?_⟩
      · obtain ⟨a1, a2, a3, a4, r1, r2, r3, r4, r5⟩ := hN'
        exact ⟨mm - 1, by omega, a1, a2, a3, a4, r1, by omega, r2, r3, r4, r5⟩
      · obtain ⟨rfl, key, v, hkv, rfl⟩ := hy
        obtain ⟨⟨nx, e1, okx⟩, ⟨rv, e2, e3⟩, _⟩ := db.2.2.2.1 (key, v) (List.mem_of_getElem? hkv)
        have e2' : v = .ref rv := e2
        have e1' : key = .inr nx := e1
        subst e2' e1'
        have ev : valV ls (.inr nx) = some (.ref rv) := val_nodup db.2.1 (.inr nx, .ref rv) (List.mem_of_getElem? hkv)
        have rvb : rv ≠ b := fun z => by
          rw [z, db.1] at e3
          cases e3
        have ff : fj (.inr nx) = f (.inr nx) := (fk _).2 (nd_at db.2.1 hkv)
        have nb : n ≠ b ∨ True := .inr trivial
        refine ⟨_, rfl, c, rfl, .inl ⟨ks, .inl dm.1⟩, _, rfl, small2, fun N nN => ?_⟩
        have s4 := same_new (o := .tup [.int 0, .int 1]) nN
        have fN : FrT K (upd H' N (.tup [.int 0, .int 1])) N 0 1 := FrT.of upd_same
        have dm4 := dm.same s4
        have kp4 : ∀ x o, x ≠ b → H x = some o → (upd H' N (.tup [.int 0, .int 1])) x = some o := fun x o nx e => s4 _ _ (kp x o nx e)
        have hb4 := s4 _ _ hb3
        generalize upd H' N (.tup [.int 0, .int 1]) = H4 at fN dm4 kp4 hb4 ⊢
        obtain ⟨rp, ep, fp⟩ : ∃ rp, (valV ks (.inr nx)).getD (.ref N) = .ref rp ∧ FrT K H4 rp (f (.inr nx)).1 (f (.inr nx)).2 := by
          rw [← ff]
          cases ev2 : valV ks (.inr nx) with
          | none =>
            rw [dm4.2.2.2.2 _ ev2]
            exact ⟨N, rfl, fN⟩
          | some v =>
            obtain ⟨r', rfl, f'⟩ := dm4.get ev2
            exact ⟨r', rfl, FrT.of f'⟩
        have o1 := okf (.inr nx)
        have o2 := okg (.inr nx)
        have fn4 : FrT K H4 n num.1 num.2 := by
          obtain ⟨q1, q2⟩ := fn
          rcases q1 with (q1 | ⟨o, q1⟩) | ⟨o, its, mq, k1, k2, k3⟩
          · exact FrT.of (kp4 _ _ (fun z => by
              rw [z, db.1] at q1
              cases q1) q1)
          · have z := kp4 _ _ (fun z => by
              rw [z, db.1] at q1
              cases q1) q1
            exact ⟨.inl (.inr ⟨o, z⟩), .fTuple z⟩
          · exact ⟨.inr ⟨o, its, mq, k1, k2, k3⟩, .kTuple k1 k2⟩
        refine ⟨valV ks (.inr nx), DGet.k (k := .inr nx) dm4.1, _, rfl, _, rfl, b, _, rfl, .inl ⟨ls, .inr nx, .inr ⟨od, hb4⟩, rfl, ev.symm⟩, _, rfl, (g (.inr nx)).1, (g (.inr nx)).2, num.1, num.2, ⟨rv, n, rfl, FrT.of (kp4 _ _ rvb e3), fn4, o2.1, okn.1, sm_mono o2.2.1 (by decide), sm_mono o2.2.2.1 (by decide), sm_mono okn.2.1 (by decide), sm_mono okn.2.2.1 (by decide), o2.2.2.2, okn.2.2.2⟩, fun r1 nr1 => ?_⟩
        have okt : Okb 1507 (ftimes (g (.inr nx)) num) := okb_times o2 okn
        have s5 := same_new (o := .tup [.int (ftimes (g (.inr nx)) num).1, .int (ftimes (g (.inr nx)) num).2]) nr1
        refine ⟨(f (.inr nx)).1, (f (.inr nx)).2, (ftimes (g (.inr nx)) num).1, (ftimes (g (.inr nx)) num).2, ⟨rp, r1, by rw [ep]; rfl, fp.new s5, FrT.of upd_same, o1.1, okt.1, sm_mono o1.2.1 (by decide), sm_mono o1.2.2.1 (by decide), sm_mono okt.2.1 (by decide), sm_mono okt.2.2.1 (by decide), o1.2.2.2, okt.2.2.2⟩, fun r2 nr2 => ?_⟩
        have s6 := same_new (o := .tup [.int (fplus (f (.inr nx)) (ftimes (g (.inr nx)) num)).1, .int (fplus (f (.inr nx)) (ftimes (g (.inr nx)) num)).2]) nr2
        have okm : Okb 2908 (fplus (f (.inr nx)) (ftimes (g (.inr nx)) num)) := okb_plus o1 okt
        have dm6 := (dm4.same s5).same s6
        have hb6 := s6 _ _ (s5 _ _ hb4)
        have kp6 : ∀ x o, x ≠ b → H x = some o → _ := fun x o nx' e => s6 _ _ (s5 _ _ (kp4 x o nx' e))
        refine ⟨_, rfl, _, rfl, _, rfl, c, _, rfl, DPut.k (k := .inr nx) dm6.1 (small1000 (by have := dm.2.2.1; omega)), ?_⟩
        have r2c : r2 ≠ c := (ne_of_none (dm4.same s5).1 nr2).symm
        have hr2 : ∀ o : HO, (upd (upd (upd H4 r1 (.tup [.int (ftimes (g (.inr nx)) num).1, .int (ftimes (g (.inr nx)) num).2])) r2 (.tup [.int (fplus (f (.inr nx)) (ftimes (g (.inr nx)) num)).1, .int (fplus (f (.inr nx)) (ftimes (g (.inr nx)) num)).2])) c o) r2 = some (.tup [.int (fplus (f (.inr nx)) (ftimes (g (.inr nx)) num)).1, .int (fplus (f (.inr nx)) (ftimes (g (.inr nx)) num)).2]) := fun o => by
          rw [upd_ne r2c]
          exact upd_same
        have kpc : ∀ (o1 : HO) x o, x ≠ b → H x = some o → (upd (upd (upd H4 r1 (.tup [.int (ftimes (g (.inr nx)) num).1, .int (ftimes (g (.inr nx)) num).2])) r2 (.tup [.int (fplus (f (.inr nx)) (ftimes (g (.inr nx)) num)).1, .int (fplus (f (.inr nx)) (ftimes (g (.inr nx)) num)).2])) c o1) x = some o := fun o1 x o nx' e => by
          rw [upd_ne (ne_of_none e nc)]
          exact kp6 x o nx' e
        have fk' : ∀ k, (k ∈ (ls.take (i + 1)).map (·.1) → (if k = .inr nx then fplus (f (.inr nx)) (ftimes (g (.inr nx)) num) else fj k) = fplus (f k) (ftimes (g k) num)) ∧ (¬ k ∈ (ls.take (i + 1)).map (·.1) → (if k = .inr nx then fplus (f (.inr nx)) (ftimes (g (.inr nx)) num) else fj k) = f k) := fun k => by
          rw [take_snoc hkv, List.map_append, List.mem_append]
          constructor
          · intro hm'
            by_cases z : k = .inr nx
            · rw [if_pos z, z]
            · rw [if_neg z]
              rcases hm' with hm' | hm'
              · exact (fk k).1 hm'
              · exact absurd (List.mem_singleton.mp hm') z
          · intro hm'
            have z : k ≠ .inr nx := fun e => hm' (.inr (List.mem_singleton.mpr e))
            rw [if_neg z]
            exact (fk k).2 fun y => hm' (.inl y)
        refine ⟨_, rfl, r2, _, 0, _, rfl, rfl, SqT.of (hr2 _), atI_nat (j := 0) rfl, rfl, _, rfl, ite2 (fun e => ?_) (fun e => ?_)⟩
        · have z0 : (fplus (f (.inr nx)) (ftimes (g (.inr nx)) num)).1 = 0 := V.int.inj (of_decide_eq_true e)
          have zz := okb_top0 okm z0
          have dp := dm6.weak.put (x := nx) (r := r2) (v := fplus (f (.inr nx)) (ftimes (g (.inr nx)) num)) okx upd_same (fun z => z.elim)
          have dd := dp.pop (x := .inr nx) (fun p hp np => ?_) ?_
          · refine ⟨_, rfl, c, rfl, .inl ⟨_, .inl upd_same⟩, _, rfl, _, .inr nx, .ref r2, upd_same, rfl, ?_, ?_⟩
            · rw [valV_put, if_pos rfl]
            · rw [upd_upd]
              rw [upd_upd] at dd
              refine ⟨_, _, _, _, rfl, kpc _, ?_, dd.mono (by omega), fk'⟩
              rw [upd_ne bc]
              exact hb6
          · have e9 : valV (putK ks (.inr nx) (.ref r2)) p.1 = some p.2 := val_nodup dp.2.1 p hp
            rw [valV_put, if_neg np] at e9
            obtain ⟨p', hp', e10, _⟩ := mem_valV e9
            show (if p.1 = .inr nx then _ else fj p.1).1 ≠ 0
            rw [if_neg np, ← e10]
            exact (dm6.2.2.2.1 p' hp').2.2 trivial
          · show (if (.inr nx : Key) = .inr nx then _ else fj (.inr nx)) = (0, 1)
            rw [if_pos rfl]
            exact zz
        · have nz : (fplus (f (.inr nx)) (ftimes (g (.inr nx)) num)).1 ≠ 0 := fun z => e (by rw [z]; exact decide_eq_true rfl)
          have dp := dm6.put (x := nx) (r := r2) (v := fplus (f (.inr nx)) (ftimes (g (.inr nx)) num)) okx upd_same (fun _ => nz)
          refine ⟨_, _, _, _, rfl, kpc _, ?_, dp, fk'⟩
          rw [upd_ne bc]
          exact hb6
    · have ei : ls.take i = ls := List.take_of_length_le (by omega)
      rw [ei] at fk
      have dm' : DM True (m + l) H3 c ks (fun k => fplus (f k) (ftimes (g k) num)) := (dm.mono (by omega)).fn fun k => by
        by_cases cz : k ∈ ls.map (·.1)
        · exact ((fk k).1 cz).symm
        · rw [(fk k).2 cz]
          have gz : g k = (0, 1) := by
            cases e : valV ls k with
            | none => exact db.2.2.2.2 k e
            | some v => exact absurd (valV_in e) cz
          show fplus (f k) (ftimes (g k) num) = f k
          rw [gz, zero_ftimes okn, fplus_zero (okf k)]
      refine .inl ⟨⟨hb3, by omega⟩, hb3, _, rfl, q _ c ks ?_ nc (dm'.unlock hb3 bc.symm)⟩
      intro x o e
      by_cases z : x = b
      · subst z
        rw [upd_same, ← db.1]
        exact e
      · rw [upd_ne z]
        exact kp x o z e
end
end SS

namespace SS
open PySem PySem.Spec PyProof.Rows L2
theorem abc_mem : ∀ i : Nat, i < 26 → 97 + i ∈ abc.cps.toList := by decide +kernel
theorem ix_tupK {X : Cx} {K : PySem.W.Frag} (hK : K = X.K) : IxR X (rIxT K) := by
  subst hK
  exact ix_tup
theorem alls (n : Nat) : (List.replicate n true).all id = true := List.all_eq_true.mpr fun x hx => by
  rw [(List.mem_replicate.mp hx).2]
  rfl
section
variable {P : Program} {w : World} {K : PySem.W.Frag} {mg : Str → Option Value} {base : Heap}
def spIsName : Sp := fun vs H Q _ => ∃ x : Str, vs = [.str x] ∧ NmOk x ∧ ∀ H', Same H H' → Q (.bl true) H'
def spIsPoint : Sp := fun vs H Q _ => ∃ (a : Addr) (kvs : List (Key × V)) (f : Key → Int × Int) (z : Prop) (m B : Nat), vs = [.ref a] ∧ DM z m H a kvs f ∧ m ≤ 900 ∧ (∀ k, Okb B (f k)) ∧ ∀ H', Same H H' → Q (.bl true) H'
def spIsSum : Sp := fun vs H Q _ => ∃ (a : Addr) (kvs : List (Key × V)) (f : Key → Int × Int) (m B : Nat), vs = [.ref a] ∧ DM True m H a kvs f ∧ m ≤ 900 ∧ (∀ k, Okb B (f k)) ∧ ∀ H', Same H H' → Q (.bl true) H'
end
end SS

namespace SS
open PySem PySem.Spec PyProof.Rows L2
theorem vals_refs : ∀ {rs : List Addr} {us : List Value}, Vals (rs.map V.ref) us → us = rs.map Value.ref
  | [], _, .nil => rfl
  | r :: rs, _, .cons h t => by
    have e : _ = Value.ref r := h
    rw [e, vals_refs t]
    rfl
/-- l != m, lists of the very same objects -/
def rNeS (K : PySem.W.Frag) : R2 := fun x y H Q => ∃ (p q : Addr) (rs : List Addr), x = .ref p ∧ y = .ref q ∧ SqL K H p (rs.map V.ref) ∧ SqL K H q (rs.map V.ref) ∧ Q (.bl false) H
theorem op_neS {X : Cx} (hu : X.A.units + 64 < cLine) : OpR X (compareOp .NotEq) (rNeS X.K) := by
  intro pins s σ H x y v u Q I rx ry h
  obtain ⟨p, r, rs, rfl, rfl, h1, h2, q⟩ := h
  obtain rfl : v = Value.ref p := rx
  obtain rfl : u = Value.ref r := ry
  obtain ⟨us, r1, p1, _⟩ := I.list h1
  obtain ⟨ws, r2, p2, _⟩ := I.list h2
  have e1 := vals_refs r1
  have e2 := vals_refs r2
  subst e1 e2
  refine SeqAt.RcNeAt.lists (e := fun _ => true) p1.isList p2.isList rfl (by omega) (fun j j1 j2 => SeqAt.EqAt.same _) X.prog X.w _ _ ?_
  refine ⟨.bl false, H, I, ?_, q⟩
  rw [show ((List.range (rs.map Value.ref).toArray.size).all fun _ => true) = true from List.all_eq_true.mpr fun _ _ => rfl]
  rfl
theorem PL.but {st c : Addr} {H H' : Hp} {rs : List Addr} {ps : List (Str × (Int × Int))} (h : PL H rs ps) (b : But st H H') (y : StA st c H) : PL H' rs ps := ⟨h.1, fun i r e => by
  obtain ⟨x, q, v, e1, e2, e3⟩ := h.2 i r e
  exact ⟨x, q, v, e1, b.tup y e2, b.tup y e3⟩⟩
/-- a list or a dict changes: the pairs stand -/
theorem PL.keep {H H' : Hp} {rs : List Addr} {ps : List (Str × (Int × Int))} (h : PL H rs ps) (k : ∀ r xs, H r = some (.tup xs) → H' r = some (.tup xs)) : PL H' rs ps := ⟨h.1, fun i r e => by
  obtain ⟨x, q, v, e1, e2, e3⟩ := h.2 i r e
  exact ⟨x, q, v, e1, k _ _ e2, k _ _ e3⟩⟩
theorem PL.snoc {H : Hp} {rs : List Addr} {ps : List (Str × (Int × Int))} {r q : Addr} {x : Str} {e : Int × Int} (h : PL H rs ps) (h1 : H r = some (.tup [.str x, .ref q])) (h2 : H q = some (.tup [.int e.1, .int e.2])) : PL H (rs ++ [r]) (ps ++ [(x, e)]) := by
  refine ⟨by rw [List.length_append, List.length_append, h.1]; rfl, fun i r' hi => ?_⟩
  by_cases c : i < rs.length
  · rw [List.getElem?_append_left c] at hi
    obtain ⟨x', q', v, e1, e2, e3⟩ := h.2 i r' hi
    refine ⟨x', q', v, ?_, e2, e3⟩
    rw [List.getElem?_append_left (by rw [← h.1]; exact c)]
    exact e1
  · have hl : i = rs.length := by
      have z := (List.getElem?_eq_some_iff.mp hi).1
      rw [List.length_append] at z
      have z' : i < rs.length + 1 := z
      omega
    rw [hl, List.getElem?_append_right (Nat.le_refl _), Nat.sub_self] at hi
    have e' : r = r' := Option.some.inj hi
    subst e'
    refine ⟨x, q, e, ?_, h1, h2⟩
    rw [hl, h.1, List.getElem?_append_right (Nat.le_refl _), Nat.sub_self]
    rfl
theorem keep_l {H : Hp} {l : Addr} {xs : List V} {o : HO} (hl : H l = some (.lst xs)) : ∀ r ys, H r = some (.tup ys) → (upd H l o) r = some (.tup ys) := fun r ys e => by
  rw [upd_ne fun c => ?_]
  · exact e
  · rw [c, hl] at e
    cases e
theorem keep_d {H : Hp} {l : Addr} {ks : List (Key × V)} {o : HO} (hl : H l = some (.dK ks)) : ∀ r ys, H r = some (.tup ys) → (upd H l o) r = some (.tup ys) := fun r ys e => by
  rw [upd_ne fun c => ?_]
  · exact e
  · rw [c, hl] at e
    cases e
theorem okb_turned {B : Nat} {e : Int × Int} (h : Okb B e) : Okb B (0 - e.1, e.2) := by
  obtain ⟨h1, h2, h3, h4⟩ := h
  have en : (0 - e.1).natAbs = e.1.natAbs := by omega
  refine ⟨h1, by rw [en]; exact h2, h3, ?_⟩
  show Nat.gcd (0 - e.1).natAbs e.2.natAbs = 1
  rw [en]
  exact h4
theorem tot_add {f : Key → Int × Int} {x : Str} {e : Int × Int} {B C : Nat} (hf : ∀ k, Okb B (f k)) (he : Okb C e) : ∀ k, tstep f (x, e) k = fplus (f k) (ftimes (if k = .inr x then e else (0, 1)) (1, 1)) := fun k => by
  show (if k = .inr x then fplus (f k) e else f k) = _
  by_cases c : k = .inr x
  · rw [if_pos c, if_pos c, ftimes_one he]
  · rw [if_neg c, if_neg c, zero_ftimes (B := 1) ⟨by decide, by decide, by decide, by decide⟩, fplus_zero (hf k)]
end SS

namespace SS
open PySem PySem.Spec PyProof.Rows L2
def nmOf : Key → Str
  | .inr x => x
  | .inl _ => ""
open Classical in
theorem fold_keys {f : Key → Int × Int} : ∀ {kvs : List (Key × V)}, (kvs.map (fun x : Key × V => x.1)).Nodup → (∀ p ∈ kvs, ∃ x, p.1 = .inr x) → ∀ (b : Key → Int × Int) (k : Key), ((kvs.map fun q => (nmOf q.1, f q.1)).foldl tstep b) k = if k ∈ kvs.map (fun x : Key × V => x.1) then fplus (b k) (f k) else b k
  | [], _, _, b, k => by
    rw [if_neg (by rw [List.map_nil]; exact List.not_mem_nil)]
    rfl
  | p :: r, hn, hx, b, k => by
    obtain ⟨n1, n2⟩ := List.nodup_cons.mp hn
    obtain ⟨x, ex⟩ := hx p List.mem_cons_self
    rw [List.map_cons, List.foldl_cons, fold_keys n2 (fun q hq => hx q (List.mem_cons_of_mem _ hq)), List.map_cons]
    have e1 : nmOf p.1 = x := by rw [ex]; rfl
    have et : ∀ k', tstep b (nmOf p.1, f p.1) k' = if k' = p.1 then fplus (b k') (f p.1) else b k' := fun k' => by
      rw [e1]
      show (if k' = .inr x then fplus (b k') (f p.1) else b k') = _
      rw [ex]
    rw [et k]
    by_cases c : k = p.1
    · subst c
      rw [if_neg n1, if_pos rfl, if_pos List.mem_cons_self]
    · rw [if_neg c]
      by_cases d : k ∈ r.map (fun x : Key × V => x.1)
      · rw [if_pos d, if_pos (List.mem_cons_of_mem _ d)]
      · rw [if_neg d, if_neg fun z => by
          rcases List.mem_cons.mp z with z | z
          · exact c z
          · exact d z]
theorem DM.out {z : Prop} {m : Nat} {H : Hp} {a : Addr} {kvs : List (Key × V)} {f : Key → Int × Int} (h : DM z m H a kvs f) {k : Key} (c : ¬ k ∈ kvs.map (·.1)) : f k = (0, 1) := by
  cases e : valV kvs k with
  | none => exact h.2.2.2.2 k e
  | some v => exact absurd (valV_in e) c
open Classical in
theorem tot_two {z z' : Prop} {m m' : Nat} {H H' : Hp} {a b : Addr} {kvs ls : List (Key × V)} {f g : Key → Int × Int} {B : Nat} (h : DM z m H a kvs f) (h' : DM z' m' H' b ls g) (hf : ∀ k, Okb B (f k)) (k : Key) :
    tot ((kvs.map fun q => (nmOf q.1, f q.1)) ++ (ls.map fun q => (nmOf q.1, g q.1))) k = fplus (f k) (g k) := by
  unfold tot
  rw [List.foldl_append, fold_keys h'.2.1 (fun p hp => let ⟨x, e, _⟩ := (h'.2.2.2.1 p hp).1; ⟨x, e⟩), fold_keys h.2.1 (fun p hp => let ⟨x, e, _⟩ := (h.2.2.2.1 p hp).1; ⟨x, e⟩)]
  have e1 : (if k ∈ kvs.map (·.1) then fplus (0, 1) (f k) else (0, 1)) = f k := by
    by_cases c : k ∈ kvs.map (·.1)
    · rw [if_pos c, zero_fplus (hf k)]
    · rw [if_neg c, h.out c]
  rw [e1]
  by_cases c : k ∈ ls.map (·.1)
  · rw [if_pos c]
  · rw [if_neg c, h'.out c, fplus_zero (hf k)]
theorem paired_at {F : Addr → Key × V → Prop} {ts : List Addr} {kvs : List (Key × V)} (h : Paired F ts kvs) : ts.length = kvs.length ∧ ∀ (i : Nat) (t : Addr), ts[i]? = some t → ∃ q, kvs[i]? = some q ∧ F t q := by
  induction h with
  | nil => exact ⟨rfl, fun i t e => by simp at e⟩
  | cons hd tl ih =>
    refine ⟨by rw [List.length_cons, List.length_cons, ih.1], fun i t e => ?_⟩
    match i, e with
    | 0, e =>
      have z := Option.some.inj e
      subst z
      exact ⟨_, rfl, hd⟩
    | i + 1, e => exact ih.2 i t e
theorem DM.pl {z : Prop} {m : Nat} {H : Hp} {a : Addr} {kvs : List (Key × V)} {f : Key → Int × Int} {ts : List Addr} (h : DM z m H a kvs f) (hp : Paired (fun (t : Addr) (q : Key × V) => H t = some (.tup [kV q.1, q.2])) ts kvs) : PL H ts (kvs.map fun q => (nmOf q.1, f q.1)) := by
  obtain ⟨e1, e2⟩ := paired_at hp
  refine ⟨by rw [List.length_map, e1], fun i t e => ?_⟩
  obtain ⟨q, hq, ht⟩ := e2 i t e
  obtain ⟨⟨x, ex, _⟩, ⟨r, er, hr⟩, _⟩ := h.2.2.2.1 q (List.mem_of_getElem? hq)
  refine ⟨x, r, f q.1, ?_, ?_, hr⟩
  · rw [List.getElem?_map, hq]
    show some (nmOf q.1, f q.1) = some (x, f q.1)
    rw [ex]
    rfl
  · rw [ht, ex, er]
    rfl
theorem PL.append {H : Hp} {rs rs' : List Addr} {ps ps' : List (Str × (Int × Int))} (h : PL H rs ps) (h' : PL H rs' ps') : PL H (rs ++ rs') (ps ++ ps') := by
  refine ⟨by rw [List.length_append, List.length_append, h.1, h'.1], fun i r hi => ?_⟩
  by_cases c : i < rs.length
  · rw [List.getElem?_append_left c] at hi
    obtain ⟨x, q, v, e1, e2, e3⟩ := h.2 i r hi
    refine ⟨x, q, v, ?_, e2, e3⟩
    rw [List.getElem?_append_left (by rw [← h.1]; exact c)]
    exact e1
  · rw [List.getElem?_append_right (by omega)] at hi
    obtain ⟨x, q, v, e1, e2, e3⟩ := h'.2 _ r hi
    refine ⟨x, q, v, ?_, e2, e3⟩
    rw [List.getElem?_append_right (by rw [← h.1]; omega), ← h.1]
    exact e1
theorem merge_nd : ∀ (more acc : List (Key × V)), ((acc ++ more).map (·.1)).Nodup → mergeK acc more = acc ++ more
  | [], acc, _ => by rw [List.append_nil]; rfl
  | p :: r, acc, h => by
    show mergeK (putK acc p.1 p.2) r = acc ++ p :: r
    have hn : valV acc p.1 = none := by
      cases e : valV acc p.1 with
      | none => rfl
      | some v =>
        rw [List.map_append] at h
        exact absurd rfl ((List.nodup_append.mp h).2.2 _ (valV_in e) _ List.mem_cons_self)
    rw [putK_new _ hn, merge_nd r (acc ++ [(p.1, p.2)]) (by rw [List.append_assoc]; exact h), List.append_assoc]
    rfl
theorem FrT.kept {K : PySem.W.Frag} {H H' : Hp} {a D p : Addr} {n d : Int} {kvs : List (Key × V)} (h : FrT K H p n d) (ha : H a = some (.dK kvs)) (nD : H D = none) (kp : ∀ x o, x ≠ a → x ≠ D → H x = some o → H' x = some o) : FrT K H' p n d := by
  obtain ⟨h1, h2⟩ := h
  rcases h1 with (h1 | ⟨o1, h1⟩) | ⟨o1, its, m, k1, k2, k3⟩
  · exact FrT.of (kp _ _ (fun z => by rw [z, ha] at h1; cases h1) (ne_of_none h1 nD) h1)
  · have e := kp _ _ (fun z => by rw [z, ha] at h1; cases h1) (ne_of_none h1 nD) h1
    exact ⟨.inl (.inr ⟨o1, e⟩), .fTuple e⟩
  · exact ⟨.inr ⟨o1, its, m, k1, k2, k3⟩, .kTuple k1 k2⟩
section
variable {P : Program} {w : World} {K : PySem.W.Frag} {mg : Str → Option Value} {base : Heap}
theorem keys_take {z : Prop} {m : Nat} {H : Hp} {a : Addr} {kvs : List (Key × V)} {f : Key → Int × Int} (h : DM z m H a kvs f) (i : Nat) : ((kvs.take i).map (fun x : Key × V => x.1)).Nodup ∧ ∀ p ∈ kvs.take i, ∃ x, p.1 = .inr x :=
  ⟨by rw [List.map_take]; exact h.2.1.sublist (List.take_sublist _ _), fun p hp => let ⟨x, e, _⟩ := (h.2.2.2.1 p (List.mem_of_mem_take hp)).1; ⟨x, e⟩⟩
open Classical in
/-- on the way, too, each number is nought, one of the summands, or their sum -/
theorem tot_way {z z' : Prop} {m m' : Nat} {H H' : Hp} {a b : Addr} {kvs ls : List (Key × V)} {f g : Key → Int × Int} {B : Nat} (h : DM z m H a kvs f) (h' : DM z' m' H' b ls g) (hf : ∀ k, Okb B (f k)) (hB : B ≤ 2900) (hs : ∀ k, Okb 2900 (fplus (f k) (g k))) (i : Nat) (k : Key) :
    Okb 2900 (tot (((kvs.map fun q => (nmOf q.1, f q.1)) ++ (ls.map fun q => (nmOf q.1, g q.1))).take i) k) := by
  have e1 : ∀ j, Okb 2900 (if k ∈ (kvs.take j).map (fun x : Key × V => x.1) then fplus (0, 1) (f k) else (0, 1)) := fun j => by
    by_cases c : k ∈ (kvs.take j).map (fun x : Key × V => x.1)
    · rw [if_pos c, zero_fplus (hf k)]
      exact (hf k).mono hB
    · rw [if_neg c]
      exact okb_zero 2899
  have e2 : (if k ∈ kvs.map (fun x : Key × V => x.1) then fplus (0, 1) (f k) else (0, 1)) = f k := by
    by_cases c : k ∈ kvs.map (fun x : Key × V => x.1)
    · rw [if_pos c, zero_fplus (hf k)]
    · rw [if_neg c, h.out c]
  rw [List.take_append, ← List.map_take, ← List.map_take]
  unfold tot
  rw [List.foldl_append, fold_keys (keys_take h' _).1 (keys_take h' _).2, fold_keys (keys_take h _).1 (keys_take h _).2]
  by_cases c : i < kvs.length
  · have e3 : i - (kvs.map fun q => (nmOf q.1, f q.1)).length = 0 := by
      rw [List.length_map]
      omega
    rw [e3, List.take_zero, if_neg (by rw [List.map_nil]; exact List.not_mem_nil)]
    exact e1 i
  · rw [List.take_of_length_le (l := kvs) (by omega), e2]
    split
    · exact hs k
    · exact (hf k).mono hB
def spSumPlus : Sp := fun vs H Q _ => ∃ (a b : Addr) (kvs ls : List (Key × V)) (f g : Key → Int × Int) (m l B : Nat), vs = [.ref a, .ref b] ∧ DM True m H a kvs f ∧ DM True l H b ls g ∧ (∀ k, Okb B (f k)) ∧ (∀ k, Okb B (g k)) ∧ m + l ≤ 400 ∧ (∀ k, Okb 2900 (fplus (f k) (g k))) ∧ B ≤ 2900 ∧
  ∀ H' c ks, Same H H' → H c = none → DM True (m + l) H' c ks (fun k => fplus (f k) (g k)) → Q (.ref c) H'
theorem scSumPlus : FnScope ["one", "other"] ["one", "other"] (defScope sSumPlus) := ⟨rfl, rfl, rfl, by decide +kernel, rfl, by decide +kernel, by decide +kernel⟩
theorem ok_sumplus {f' : Addr} {fd : FuncData} (F : Fun K "sum_plus" "sum_plus" sSumPlus f' fd) (mli : mg "list" = none) (su : Cl P w K mg base CX0 4 "sum_of" (spSumOf K) []) : FnOk P w K mg base CX0 5 f' fd ["one", "other"] spSumPlus := by
  refine F.ok scSumPlus (fun vs H Q E h => ?_) (fun cdv A outer s H vs Q E hr h => ?_)
  · obtain ⟨_, _, _, _, _, _, _, _, _, rfl, _⟩ := h
    rfl
  · obtain ⟨a, b, kvs, ls, f, g, m, l, B, rfl, da, db, okf, okg, hml, hB, hB2, q⟩ := h
    refine ⟨_, pss_one (ps_ret (pc0 su hr (by decide) (pa_cons (pe_op op_cat (LiI.pe_listItems rfl (pv 0) (by rfl) mli (by decide +kernel)) (LiI.pe_listItems rfl (pv 1) (by rfl) mli (by decide +kernel))) pa_nil))), ?_⟩
    refine ⟨_, rfl, a, kvs, rfl, da.1, fun H1 p1 ts1 s1 np1 _ _ hp1 pd1 => ?_⟩
    refine ⟨_, rfl, b, ls, rfl, s1 _ _ db.1, fun H2 p2 ts2 s2 np2 _ _ hp2 pd2 => ?_⟩
    have l1 := (paired_at pd1).1
    have l2 := (paired_at pd2).1
    have k1 : kvs.length ≤ m := da.2.2.1
    have k2 : ls.length ≤ l := db.2.2.1
    refine ⟨p1, p2, _, _, rfl, rfl, s2 _ _ hp1, hp2, ?_, fun L nL => ?_⟩
    · rw [List.length_map, List.length_map, l1, l2]
      exact Nat.le_of_lt (small1000 (by omega))
    · have s3 := same_new (o := .lst (ts1.map V.ref ++ ts2.map V.ref)) nL
      have S12 : Same H H2 := fun x o e => s2 _ _ (s1 _ _ e)
      have P1 : PL H2 ts1 (kvs.map fun q => (nmOf q.1, f q.1)) := ((da.same s1).pl pd1).same s2
      have P2 : PL H2 ts2 (ls.map fun q => (nmOf q.1, g q.1)) := (db.same S12).pl pd2
      have ln : ((kvs.map fun q => (nmOf q.1, f q.1)) ++ (ls.map fun q => (nmOf q.1, g q.1))).length ≤ m + l := by
        rw [List.length_append, List.length_map, List.length_map]
        omega
      refine ⟨L, ts1 ++ ts2, _, B, rfl, .inl (SqL.of (by rw [upd_same, List.map_append])), (P1.append P2).same s3, by omega, fun i k => tot_way da db okf hB2 hB i k, hB2, fun p' hp' => ?_, fun H4 c ks s4 nc dc => ?_⟩
      · rcases List.mem_append.mp hp' with z | z
        · obtain ⟨p, hp, rfl⟩ := List.mem_map.mp z
          obtain ⟨⟨x, ex, ox⟩, _⟩ := da.2.2.2.1 p hp
          refine ⟨?_, okf _⟩
          show NmOk (nmOf p.1)
          rw [ex]
          exact ox
        · obtain ⟨p, hp, rfl⟩ := List.mem_map.mp z
          obtain ⟨⟨x, ex, ox⟩, _⟩ := db.2.2.2.1 p hp
          refine ⟨?_, okg _⟩
          show NmOk (nmOf p.1)
          rw [ex]
          exact ox
      · exact q _ c ks ((S12.trans s3).trans s4) (S12.free (s3.free nc)) ((dc.mono ln).fn fun k => (tot_two da db okf k).symm)
def spSumTimes (K : PySem.W.Frag) : Sp := fun vs H Q _ => ∃ (a n : Addr) (kvs : List (Key × V)) (f : Key → Int × Int) (num : Int × Int) (m A B : Nat), vs = [.ref a, .ref n] ∧ DM True m H a kvs f ∧ FrT K H n num.1 num.2 ∧ (∀ k, Okb A (f k)) ∧ Okb B num ∧ m ≤ 400 ∧ A ≤ 2900 ∧ B ≤ 2900 ∧
  ∀ H' c ks, Same H H' → H c = none → DM True m H' c ks (fun k => ftimes (f k) num) → Q (.ref c) H'
theorem scSumTimes : FnScope ["one", "number", "unknown"] ["one", "number"] (defScope sSumTimes) := ⟨rfl, rfl, rfl, by decide +kernel, rfl, by decide +kernel, by decide +kernel⟩
theorem ok_sumtimes {f' : Addr} {fd : FuncData} (F : Fun K "sum_times" "sum_times" sSumTimes f' fd) (tm : Cl P w K mg base CX0 3 "times" (spTimes K) []) (wn : Cl P w K mg base CX0 1 "without_noughts" spWn []) : FnOk P w K mg base CX0 4 f' fd ["one", "number"] (spSumTimes K) := by
  refine F.ok scSumTimes (fun vs H Q E h => ?_) (fun cdv A outer s H vs Q E hr h => ?_)
  · obtain ⟨_, _, _, _, _, _, _, _, rfl, _⟩ := h
    rfl
  · obtain ⟨a, n, kvs, f, num, m, A', B', rfl, da, hn, okf, okn, hm, hA, hB, q⟩ := h
    have hu := hu_of hr
    refine ⟨_, pss_one (ps_ret (pc0 wn hr (by decide) (pa_cons (pe_lock (pe_dc (own := [("unknown", 2)]) (g := gName 2) (tt := tYes) rfl scSumTimes.nd (pi_keys (pv 0)) (blkOk_by (by rfl))
      (fun _ _ _ _ _ => pg_name (i := 2) scSumTimes.nd rfl (Or.inl rfl)) (fun _ _ _ _ _ => pts_nil)
      (fun _ _ _ _ _ => pv 2) (fun _ _ _ _ _ => pc0 tm hr (by decide) (pa_cons (pe_dget hu (pv 0) (pv 2) (fun _ _ => rfl)) (pa_cons (pv 1) pa_nil))))) pa_nil))), ?_⟩
    refine ⟨a, .dK kvs, da.1, trivial, fun od => ⟨_, rfl, a, od, rfl, .inl ⟨kvs, upd_same, fun D nD => ?_⟩⟩⟩
    have nDH : H D = none := by
      cases e : H D with
      | none => rfl
      | some o =>
        by_cases c : D = a
        · rw [c, upd_same] at nD
          cases nD
        · rw [upd_ne c, e] at nD
          cases nD
    have aD : a ≠ D := ne_of_none da.1 nDH
    have okt : ∀ k, Okb (A' + B') (ftimes (f k) num) := fun k => okb_times (okf k) okn
    refine ⟨fun i mm H' => ∃ ks g, i + mm = kvs.length ∧ (∀ x o, x ≠ a → x ≠ D → H x = some o → H' x = some o) ∧ H' a = some (.frz od (.dK kvs)) ∧ DM False i H' D ks g ∧ Upto (kvs.take i) (fun k => ftimes (f k) num) g,
      ⟨kvs.length, [], fun _ => (0, 1), by omega, fun x o n1 n2 e => by rw [upd_ne n2, upd_ne n1]; exact e, by rw [upd_ne aD]; exact upd_same, dm_new upd_same, fun k => ⟨fun z => absurd z List.not_mem_nil, fun _ => rfl⟩⟩, fun i mm H3 hW => ?_⟩
    obtain ⟨ks, g, em, kp, ha3, dm, up⟩ := hW
    have ml : kvs.length ≤ m := da.2.2.1
    by_cases hi : i < kvs.length
    · refine .inr ⟨⟨ha3, hi⟩, fun H' => ∃ ks g, (∀ x o, x ≠ a → x ≠ D → H x = some o → H' x = some o) ∧ H' a = some (.frz od (.dK kvs)) ∧ DM False (i + 1) H' D ks g ∧ Upto (kvs.take (i + 1)) (fun k => ftimes (f k) num) g, fun H' hN' => ?_, fun x H' hy => ?_⟩
      · obtain ⟨a1, a2, r1, r2, r3, r4⟩ := hN'
        exact ⟨mm - 1, by omega, a1, a2, by omega, r1, r2, r3, r4⟩
      · obtain ⟨rfl, key, v, hkv, rfl⟩ := hy
        obtain ⟨⟨nx, e1, okx⟩, ⟨rv, e2, e3⟩, _⟩ := da.2.2.2.1 (key, v) (List.mem_of_getElem? hkv)
        have e2' : v = .ref rv := e2
        have e1' : key = .inr nx := e1
        subst e2' e1'
        have ev : valV kvs (.inr nx) = some (.ref rv) := val_nodup da.2.1 (.inr nx, .ref rv) (List.mem_of_getElem? hkv)
        have rva : rv ≠ a := fun c => by
          rw [c, da.1] at e3
          cases e3
        have dg : DGet H' a (kV (.inr nx)) (some (.ref rv)) := .inl ⟨kvs, .inr nx, .inr ⟨od, ha3⟩, rfl, ev.symm⟩
        have o1 := okf (.inr nx)
        refine ⟨rfl, _, rfl, _, rfl, _, rfl, a, _, rfl, dg, _, rfl, (f (.inr nx)).1, (f (.inr nx)).2, num.1, num.2, ⟨rv, n, rfl, FrT.of (kp _ _ rva (ne_of_none e3 nDH) e3), hn.kept da.1 nDH kp, o1.1, okn.1, sm_mono o1.2.1 (by omega), sm_mono o1.2.2.1 (by omega), sm_mono okn.2.1 (by omega), sm_mono okn.2.2.1 (by omega), o1.2.2.2, okn.2.2.2⟩, fun r nr => ?_⟩
        have s4 := same_new (o := .tup [.int (ftimes (f (.inr nx)) num).1, .int (ftimes (f (.inr nx)) num).2]) nr
        have dm4 := dm.same s4
        refine ⟨ks, .inr nx, rfl, dm4.1, small1000 (by have := dm.2.2.1; omega), ?_⟩
        have dp := dm4.put (x := nx) (r := r) (v := ftimes (f (.inr nx)) num) okx upd_same (fun z => z.elim)
        refine ⟨_, _, ?_, ?_, dp, up.snoc hkv⟩
        · intro x o n1 n2 e
          rw [upd_ne n2]
          exact s4 _ _ (kp x o n1 n2 e)
        · rw [upd_ne aD]
          exact s4 _ _ ha3
    · have ei : kvs.take i = kvs := List.take_of_length_le (by omega)
      rw [ei] at up
      have fg : ∀ k, ftimes (f k) num = g k := fun k => by
        by_cases c : k ∈ kvs.map (·.1)
        · exact ((up k).1 c).symm
        · rw [(up k).2 c, da.out c, zero_ftimes okn]
      refine .inl ⟨⟨ha3, by omega⟩, ha3, ?_⟩
      have dmu := (dm.fn fg).unlock (o := .dK kvs) ha3 aD.symm
      have S : Same H (upd H3 a (.dK kvs)) := fun x o e => by
        by_cases c : x = a
        · subst c
          rw [upd_same, ← da.1]
          exact e
        · rw [upd_ne c]
          exact kp x o c (ne_of_none e nDH) e
      refine ⟨D, ks, fun k => ftimes (f k) num, m, A' + B', rfl, dmu.mono (by omega), by omega, okt, fun H5 c ks' s5 nc dc => q _ c ks' (S.trans s5) (S.free nc) dc⟩
def spWith : Sp := fun vs H Q _ => ∃ (a n : Addr) (x : Str) (kvs : List (Key × V)) (f : Key → Int × Int) (num : Int × Int), vs = [.ref a, .str x, .ref n] ∧ DM True 10 H a kvs f ∧ NmOk x ∧ H n = some (.tup [.int num.1, .int num.2]) ∧ num.1 ≠ 0 ∧
  ∀ H' c ks, Same H H' → H c = none → DM True 11 H' c ks (fun k => if k = .inr x then num else f k) → Q (.ref c) H'
def spOpp : Sp := fun vs H Q _ => ∃ (a : Addr) (kvs : List (Key × V)) (f : Key → Int × Int), vs = [.ref a] ∧ DM True 10 H a kvs f ∧
  ∀ H' c ks, Same H H' → H c = none → DM True 10 H' c ks (fun k => (0 - (f k).1, (f k).2)) → Q (.ref c) H'
theorem Paired.snocX {F : Addr → Key × V → Prop} {ts : List Addr} {ks : List (Key × V)} {t : Addr} {q : Key × V} (h : Paired F ts ks) (e : F t q) : Paired F (ts ++ [t]) (ks ++ [q]) := by
  induction h with
  | nil => exact .cons e .nil
  | cons hd tl ih => exact .cons hd ih
theorem Paired.impX {F G : Addr → Key × V → Prop} {ts : List Addr} {ks : List (Key × V)} (h : Paired F ts ks) (i : ∀ t q, F t q → G t q) : Paired G ts ks := by
  induction h with
  | nil => exact .nil
  | cons hd tl ih => exact .cons (i _ _ hd) ih
end
end SS

namespace SS
open PySem PySem.Spec PyProof.Rows L2
/-- what a drawn sum says -/
def pval (H : Hp) (ls : List (Key × V)) (k : Key) : Int × Int := match valV ls k with
  | some v => fval H v
  | none => (0, 1)
theorem DF.dm {k m : Nat} {H : Hp} {a : Addr} {kvs : List (Key × V)} (h : DF k m H a kvs) (z : NZ H kvs) : DM True m H a kvs (pval H kvs) := by
  refine ⟨h.1, h.2.1, h.2.2.1, fun p hp => ?_, fun y e => ?_⟩
  · obtain ⟨x, r, e1, e2, e3, e4⟩ := h.2.2.2 p hp
    have ev : pval H kvs p.1 = fval H p.2 := by
      unfold pval
      rw [val_nodup h.2.1 p hp]
    refine ⟨⟨x, e1, e2⟩, ⟨r, e3, ?_⟩, fun _ => ?_⟩
    · rw [ev, e3]
      exact e4.val.1
    · rw [ev]
      exact z p hp
  · unfold pval
    rw [e]
theorem DF.okp {k m : Nat} {H : Hp} {a : Addr} {kvs : List (Key × V)} (h : DF (k + 1) m H a kvs) (y : Key) : Okb (k + 1) (pval H kvs y) := by
  unfold pval
  cases e : valV kvs y with
  | none => exact okb_zero k
  | some v =>
    obtain ⟨p, hp, _, e2⟩ := mem_valV e
    obtain ⟨x, r, _, _, e3, e4⟩ := h.2.2.2 p hp
    rw [← e2, e3]
    exact e4.okb
theorem DM.but {z : Prop} {m : Nat} {H H' : Hp} {st c a : Addr} {kvs : List (Key × V)} {f : Key → Int × Int} (h : DM z m H a kvs f) (s : But st H H') (y : StA st c H) : DM z m H' a kvs f := by
  obtain ⟨h1, h2, h3, h4, h5⟩ := h
  refine ⟨s _ _ (fun e => ?_) h1, h2, h3, fun p hp => ?_, h5⟩
  · obtain ⟨i, n, ff, xs, g1, _⟩ := y
    rw [e, g1] at h1
    cases h1
  · obtain ⟨e1, ⟨r, e2, e3⟩, e4⟩ := h4 p hp
    exact ⟨e1, ⟨r, e2, s.tup y e3⟩, e4⟩
/-- another dict changes -/
theorem DM.upd {z : Prop} {m : Nat} {H : Hp} {a b : Addr} {kvs ks : List (Key × V)} {f : Key → Int × Int} {o : HO} (h : DM z m H a kvs f) (hb : H b = some (.dK ks)) (n : a ≠ b) : DM z m (upd H b o) a kvs f :=
  h.lk hb n fun x o nx e => by rw [upd_ne nx]; exact e
theorem cutTake4 {xs : List V} {d : Int} (h : 0 ≤ d) : cutV xs none (some d) = xs.take d.toNat := by
  obtain ⟨n, rfl⟩ := Int.eq_ofNat_of_zero_le h
  unfold cutV
  rw [HT.sIx_none, show HT.sIx xs.length xs.length (some (n : Int)) = min n xs.length from HT.sIx_nat xs.length xs.length n]
  show List.take (min n xs.length - 0) (xs.drop 0) = xs.take (n : Int).toNat
  rw [List.drop_zero, Nat.sub_zero, Int.toNat_natCast]
  by_cases c : n ≤ xs.length
  · rw [Nat.min_eq_left c]
  · rw [Nat.min_eq_right (by omega), List.take_length, List.take_of_length_le (by omega)]
theorem zz_ok : NmOk "zz" := by decide +kernel
theorem same_growX {H H1 : Hp} {p : Addr} {o : HO} (s : Same H H1) (n : H p = none) : Same H (upd H1 p o) := fun b x e => by
  rw [upd_ne (ne_of_none e n)]
  exact s b x e
end SS

namespace SS
/-! ### fractions as Lean's own rational numbers -/
def Lo (a : Int × Int) : Prop := 0 < a.2 ∧ Int.gcd a.1 a.2 = 1
def toQ (a : Int × Int) : Rat := Rat.divInt a.1 a.2
theorem toQ_fr {t b : Int} (h : b ≠ 0) : toQ (fr1 t b, fr2 t b) = Rat.divInt t b :=
  (Rat.divInt_eq_divInt_iff (Int.ne_of_gt (fr2_pos h)) h).mpr (fr_cross h)
theorem lo_fr {t b : Int} (h : b ≠ 0) : Lo (fr1 t b, fr2 t b) := ⟨fr2_pos h, fr_gcd h⟩
theorem Lo.nz {a b : Int × Int} (ha : 0 < a.2) (hb : 0 < b.2) : a.2 * b.2 ≠ 0 := Int.ne_of_gt (Int.mul_pos ha hb)
theorem toQ_plus {a b : Int × Int} (ha : 0 < a.2) (hb : 0 < b.2) : toQ (fplus a b) = toQ a + toQ b := by
  show toQ (fr1 _ _, fr2 _ _) = Rat.divInt a.1 a.2 + Rat.divInt b.1 b.2
  rw [toQ_fr (Lo.nz ha hb), Rat.divInt_add_divInt _ _ (Int.ne_of_gt ha) (Int.ne_of_gt hb)]
theorem toQ_times {a b : Int × Int} (ha : 0 < a.2) (hb : 0 < b.2) : toQ (ftimes a b) = toQ a * toQ b := by
  show toQ (fr1 _ _, fr2 _ _) = Rat.divInt a.1 a.2 * Rat.divInt b.1 b.2
  rw [toQ_fr (Lo.nz ha hb), Rat.divInt_mul_divInt]
theorem lo_plus {a b : Int × Int} (ha : 0 < a.2) (hb : 0 < b.2) : Lo (fplus a b) := lo_fr (Lo.nz ha hb)
theorem lo_times {a b : Int × Int} (ha : 0 < a.2) (hb : 0 < b.2) : Lo (ftimes a b) := lo_fr (Lo.nz ha hb)
theorem Okb.lo {k : Nat} {a : Int × Int} (h : Okb k a) : Lo a := ⟨h.1, h.2.2.2⟩
theorem lo_zero : Lo (0, 1) := ⟨by decide, by decide⟩
theorem toQ_zero : toQ (0, 1) = 0 := by
  show Rat.divInt 0 1 = 0
  exact Rat.zero_divInt 1
theorem toQ_one : toQ (1, 1) = 1 := by
  show Rat.divInt 1 1 = 1
  rfl
theorem dvd_cop {a b c : Int} (z : a ∣ b * c) (h : Int.gcd a b = 1) : a ∣ c := by
  rw [← Int.natAbs_dvd_natAbs] at z ⊢
  rw [Int.natAbs_mul] at z
  exact Nat.Coprime.dvd_of_dvd_mul_left h z
/-- in lowest terms there is one pair for a worth -/
theorem toQ_inj {a b : Int × Int} (ha : Lo a) (hb : Lo b) (h : toQ a = toQ b) : a = b := by
  have e : a.1 * b.2 = b.1 * a.2 := (Rat.divInt_eq_divInt_iff (Int.ne_of_gt ha.1) (Int.ne_of_gt hb.1)).mp h
  have d1 : a.2 ∣ b.2 := by
    have z : a.2 ∣ a.1 * b.2 := ⟨b.1, by rw [e, Int.mul_comm]⟩
    exact dvd_cop z (by rw [Int.gcd_comm]; exact ha.2)
  have d2 : b.2 ∣ a.2 := by
    have z : b.2 ∣ b.1 * a.2 := ⟨a.1, by rw [← e, Int.mul_comm]⟩
    exact dvd_cop z (by rw [Int.gcd_comm]; exact hb.2)
  have e2 : a.2 = b.2 := Int.dvd_antisymm (Int.le_of_lt ha.1) (Int.le_of_lt hb.1) d1 d2
  have e1 : a.1 = b.1 := by
    rw [e2] at e
    exact Int.eq_of_mul_eq_mul_right (Int.ne_of_gt hb.1) e
  exact Prod.ext e1 e2
theorem toQ_eq_iff {a b : Int × Int} (ha : Lo a) (hb : Lo b) : a = b ↔ toQ a = toQ b := ⟨fun e => e ▸ rfl, toQ_inj ha hb⟩
theorem toQ_lt_iff {a b : Int × Int} (ha : 0 < a.2) (hb : 0 < b.2) : a.1 * b.2 < b.1 * a.2 ↔ toQ a < toQ b := by
  have hx : ((a.2 : Int) : Rat) ≠ 0 := by
    intro e
    have : a.2 = 0 := by exact_mod_cast e
    omega
  have hy : ((b.2 : Int) : Rat) ≠ 0 := by
    intro e
    have : b.2 = 0 := by exact_mod_cast e
    omega
  have px : (0 : Rat) < ((a.2 : Int) : Rat) := by exact_mod_cast ha
  have py : (0 : Rat) < ((b.2 : Int) : Rat) := by exact_mod_cast hb
  have ea : toQ a * (a.2 : Rat) = (a.1 : Rat) := by
    unfold toQ
    rw [Rat.divInt_eq_div, Rat.div_mul_cancel hx]
  have eb : toQ b * (b.2 : Rat) = (b.1 : Rat) := by
    unfold toQ
    rw [Rat.divInt_eq_div, Rat.div_mul_cancel hy]
  have k1 : ((a.1 * b.2 : Int) : Rat) = toQ a * ((a.2 : Rat) * (b.2 : Rat)) := by
    rw [Rat.intCast_mul, ← ea]; grind
  have k2 : ((b.1 * a.2 : Int) : Rat) = toQ b * ((a.2 : Rat) * (b.2 : Rat)) := by
    rw [Rat.intCast_mul, ← eb]; grind
  have pp : (0 : Rat) < (a.2 : Rat) * (b.2 : Rat) := Rat.mul_pos px py
  rw [← Rat.mul_lt_mul_right pp, ← k1, ← k2]
  exact (Rat.intCast_lt_intCast).symm
/-! ### sums over keys -/
def sumQ {α : Type _} (F : α → Rat) (ks : List α) : Rat := ks.foldr (fun k r => F k + r) 0
theorem sumQ_perm {α : Type _} {F : α → Rat} {ks ls : List α} (h : ks.Perm ls) : sumQ F ks = sumQ F ls :=
  h.foldr_eq' (fun x _ y _ z => by grind) 0
theorem sumQ_filter {α : Type _} {F : α → Rat} {p : α → Bool} : ∀ {ks : List α}, (∀ k ∈ ks, p k = false → F k = 0) → sumQ F (ks.filter p) = sumQ F ks
  | [], _ => rfl
  | k :: ks, h => by
    have i := sumQ_filter (F := F) (p := p) (ks := ks) fun x hx => h x (.tail _ hx)
    cases e : p k with
    | true =>
      rw [List.filter_cons_of_pos e]
      show F k + sumQ F (ks.filter p) = F k + sumQ F ks
      rw [i]
    | false =>
      rw [List.filter_cons_of_neg (by rw [e]; decide), i]
      show sumQ F ks = F k + sumQ F ks
      rw [h k (.head _) e, Rat.zero_add]
open Classical in
/-- a sum over unlike keys hangs on what isn't nought alone -/
theorem sumQ_ext {α : Type _} {F : α → Rat} {ks ls : List α} (nk : ks.Nodup) (nl : ls.Nodup) (hk : ∀ k, k ∉ ks → F k = 0) (hl : ∀ k, k ∉ ls → F k = 0) : sumQ F ks = sumQ F ls := by
  let p : α → Bool := fun k => decide (F k ≠ 0)
  have z : ∀ k, p k = false → F k = 0 := fun k e => by
    have : ¬ (F k ≠ 0) := of_decide_eq_false e
    exact Classical.not_not.mp this
  have t : ∀ k, p k = true → F k ≠ 0 := fun k e => of_decide_eq_true e
  rw [← sumQ_filter (p := p) (ks := ks) fun k _ e => z k e, ← sumQ_filter (p := p) (ks := ls) fun k _ e => z k e]
  refine sumQ_perm ((List.perm_ext_iff_of_nodup (nk.sublist List.filter_sublist) (nl.sublist List.filter_sublist)).mpr fun k => ?_)
  rw [List.mem_filter, List.mem_filter]
  constructor
  · intro ⟨_, e⟩
    exact ⟨Classical.byContradiction fun n => t k e (hl k n), e⟩
  · intro ⟨_, e⟩
    exact ⟨Classical.byContradiction fun n => t k e (hk k n), e⟩
theorem sumQ_add {α : Type _} {F G : α → Rat} : ∀ ks : List α, sumQ (fun k => F k + G k) ks = sumQ F ks + sumQ G ks
  | [] => by show (0 : Rat) = 0 + 0; grind
  | k :: ks => by
    have i := sumQ_add (F := F) (G := G) ks
    show F k + G k + sumQ (fun k => F k + G k) ks = F k + sumQ F ks + (G k + sumQ G ks)
    rw [i]; grind
theorem sumQ_mul {α : Type _} {F : α → Rat} (c : Rat) : ∀ ks : List α, sumQ (fun k => F k * c) ks = sumQ F ks * c
  | [] => by show (0 : Rat) = 0 * c; grind
  | k :: ks => by
    have i := sumQ_mul (F := F) c ks
    show F k * c + sumQ (fun k => F k * c) ks = (F k + sumQ F ks) * c
    rw [i]; grind
theorem sumQ_congr {α : Type _} {F G : α → Rat} : ∀ {ks : List α}, (∀ k ∈ ks, F k = G k) → sumQ F ks = sumQ G ks
  | [], _ => rfl
  | k :: ks, h => by
    show F k + sumQ F ks = G k + sumQ G ks
    rw [h k (.head _), sumQ_congr fun x hx => h x (.tail _ hx)]
/-- a worth, taken key by key -/
def wof {α : Type _} (f g : α → Int × Int) (ks : List α) : Int × Int := ks.foldl (fun acc k => fplus acc (ftimes (f k) (g k))) (0, 1)
theorem wof_gen {α : Type _} {f g : α → Int × Int} (hf : ∀ k, Lo (f k)) (hg : ∀ k, Lo (g k)) : ∀ (ks : List α) (acc : Int × Int), Lo acc →
    Lo (ks.foldl (fun acc k => fplus acc (ftimes (f k) (g k))) acc) ∧ toQ (ks.foldl (fun acc k => fplus acc (ftimes (f k) (g k))) acc) = toQ acc + sumQ (fun k => toQ (f k) * toQ (g k)) ks
  | [], acc, h => ⟨h, by show toQ acc = toQ acc + 0; grind⟩
  | k :: ks, acc, h => by
    have t := lo_times (hf k).1 (hg k).1
    obtain ⟨i1, i2⟩ := wof_gen hf hg ks _ (lo_plus h.1 t.1)
    refine ⟨i1, ?_⟩
    show toQ (ks.foldl (fun acc k => fplus acc (ftimes (f k) (g k))) (fplus acc (ftimes (f k) (g k)))) = _
    rw [i2, toQ_plus h.1 t.1, toQ_times (hf k).1 (hg k).1]
    show _ = toQ acc + (toQ (f k) * toQ (g k) + sumQ (fun k => toQ (f k) * toQ (g k)) ks)
    grind
theorem wof_lo {α : Type _} {f g : α → Int × Int} (hf : ∀ k, Lo (f k)) (hg : ∀ k, Lo (g k)) (ks : List α) : Lo (wof f g ks) := (wof_gen hf hg ks _ lo_zero).1
theorem wof_q {α : Type _} {f g : α → Int × Int} (hf : ∀ k, Lo (f k)) (hg : ∀ k, Lo (g k)) (ks : List α) : toQ (wof f g ks) = sumQ (fun k => toQ (f k) * toQ (g k)) ks := by
  have e := (wof_gen hf hg ks _ lo_zero).2
  rw [toQ_zero, Rat.zero_add] at e
  exact e
open Classical in
/-- the worth of a sum of sums -/
theorem wof_plus {α : Type _} {f g h p : α → Int × Int} {ks ls ms : List α} (hf : ∀ k, Lo (f k)) (hg : ∀ k, Lo (g k)) (hh : ∀ k, Lo (h k)) (hp : ∀ k, Lo (p k))
    (nk : ks.Nodup) (nl : ls.Nodup) (nm : ms.Nodup) (ok : ∀ k, k ∉ ks → f k = (0, 1)) (ol : ∀ k, k ∉ ls → g k = (0, 1)) (om : ∀ k, k ∉ ms → h k = (0, 1)) (e : ∀ k, toQ (h k) = toQ (f k) + toQ (g k)) :
    wof h p ms = fplus (wof f p ks) (wof g p ls) := by
  have lf := wof_lo hf hp ks
  have lg := wof_lo hg hp ls
  refine toQ_inj (wof_lo hh hp ms) (lo_plus lf.1 lg.1) ?_
  rw [toQ_plus lf.1 lg.1, wof_q hh hp, wof_q hf hp, wof_q hg hp]
  let us := (ks ++ (ls.filter fun k => decide (k ∉ ks)))
  let vs := us ++ (ms.filter fun k => decide (k ∉ us))
  have nus : us.Nodup := List.nodup_append.mpr ⟨nk, nl.sublist List.filter_sublist, fun a ha b hb e => by
    subst e
    exact of_decide_eq_true (List.mem_filter.mp hb).2 ha⟩
  have nvs : vs.Nodup := List.nodup_append.mpr ⟨nus, nm.sublist List.filter_sublist, fun a ha b hb e => by
    subst e
    exact of_decide_eq_true (List.mem_filter.mp hb).2 ha⟩
  have iu : ∀ k, k ∉ us → k ∉ ks ∧ k ∉ ls := fun k n => ⟨fun c => n (List.mem_append_left _ c), fun c => n (by
    by_cases z : k ∈ ks
    · exact List.mem_append_left _ z
    · exact List.mem_append_right _ (List.mem_filter.mpr ⟨c, decide_eq_true z⟩))⟩
  have iv : ∀ k, k ∉ vs → k ∉ us ∧ k ∉ ms := fun k n => ⟨fun c => n (List.mem_append_left _ c), fun c => n (by
    by_cases z : k ∈ us
    · exact List.mem_append_left _ z
    · exact List.mem_append_right _ (List.mem_filter.mpr ⟨c, decide_eq_true z⟩))⟩
  have zz : ∀ {f' : α → Int × Int} {k : α}, f' k = (0, 1) → toQ (f' k) * toQ (p k) = 0 := fun e => by rw [e, toQ_zero, Rat.zero_mul]
  rw [sumQ_ext (F := fun k => toQ (h k) * toQ (p k)) nm nvs (fun k n => zz (om k n)) (fun k n => zz (om k (iv k n).2)),
    sumQ_ext (F := fun k => toQ (f k) * toQ (p k)) nk nvs (fun k n => zz (ok k n)) (fun k n => zz (ok k (iu k (iv k n).1).1)),
    sumQ_ext (F := fun k => toQ (g k) * toQ (p k)) nl nvs (fun k n => zz (ol k n)) (fun k n => zz (ol k (iu k (iv k n).1).2)),
    ← sumQ_add]
  exact sumQ_congr fun k _ => by rw [e k]; grind
/-- the worth of a sum so many times -/
theorem wof_times {α : Type _} {f h p : α → Int × Int} {n : Int × Int} {ks ms : List α} (hf : ∀ k, Lo (f k)) (hh : ∀ k, Lo (h k)) (hp : ∀ k, Lo (p k)) (hn : Lo n)
    (nk : ks.Nodup) (nm : ms.Nodup) (ok : ∀ k, k ∉ ks → f k = (0, 1)) (om : ∀ k, k ∉ ms → h k = (0, 1)) (e : ∀ k, toQ (h k) = toQ (f k) * toQ n) : wof h p ms = ftimes (wof f p ks) n := by
  have lf := wof_lo hf hp ks
  refine toQ_inj (wof_lo hh hp ms) (lo_times lf.1 hn.1) ?_
  rw [toQ_times lf.1 hn.1, wof_q hh hp, wof_q hf hp, ← sumQ_mul]
  have z0 : ∀ k, k ∉ ks → toQ (f k) * toQ (p k) * toQ n = 0 := fun k c => by rw [ok k c, toQ_zero]; grind
  rw [sumQ_ext (F := fun k => toQ (f k) * toQ (p k) * toQ n) (ks := ks) (ls := ms) nk nm z0 (fun k c => by
    have z : toQ (h k) = 0 := by rw [om k c, toQ_zero]
    have z2 := e k
    rw [z] at z2
    have : toQ (f k) * toQ (p k) * toQ n = (toQ (f k) * toQ n) * toQ (p k) := by grind
    rw [this, ← z2, Rat.zero_mul])]
  exact sumQ_congr fun k _ => by rw [e k]; grind
end SS

namespace SS
open PySem PySem.Spec PyProof.Rows L2
/-! ### worths of dicts that are functions -/
theorem wof_take {f g : Key → Int × Int} {kvs : List (Key × V)} {i : Nat} {p : Key × V} (h : kvs[i]? = some p) :
    wof f g ((kvs.take (i + 1)).map (·.1)) = fplus (wof f g ((kvs.take i).map (·.1))) (ftimes (f p.1) (g p.1)) := by
  unfold wof
  rw [List.take_add_one, h]
  show ((kvs.take i ++ [p]).map (·.1)).foldl _ (0, 1) = _
  rw [List.map_append, List.foldl_append]
  rfl
theorem wb_step {c i : Nat} (h : 2 ≤ c) : c * (i + 1) + (c - 2) + 1 ≤ c * (i + 1 + 1) := by
  have e : c * (i + 1 + 1) = c * (i + 1) + c := Nat.mul_succ ..
  omega
theorem wb_le {c i m : Nat} (h : i ≤ m) (hm : c * (m + 1) ≤ 3000) : c * (i + 1) ≤ 3000 := Nat.le_trans (Nat.mul_le_mul_left c (by omega)) hm
theorem wb_c {c m : Nat} (hm : c * (m + 1) ≤ 3000) : c ≤ 3000 := by
  have := wb_le (c := c) (i := 0) (Nat.zero_le m) hm
  omega
def Lk (a : Addr) (H H' : Hp) : Prop := ∀ b o, b ≠ a → H b = some o → H' b = some o
section
variable {P : Program} {w : World} {K : PySem.W.Frag} {mg : Str → Option Value} {base : Heap}
def spWorth (K : PySem.W.Frag) : Sp := fun vs H Q _ => ∃ (a b : Addr) (kvs ls : List (Key × V)) (f g : Key → Int × Int) (z z' : Prop) (m m' A B : Nat), vs = [.ref a, .ref b] ∧ DM z m H a kvs f ∧ DM z' m' H b ls g ∧
  (∀ k, Okb A (f k)) ∧ (∀ k, Okb B (g k)) ∧ (A + B + 2) * (m + 1) ≤ 3000 ∧ a ≠ b ∧
  ∀ H' r, Same H H' → FrT K H' r (wof f g (kvs.map (·.1))).1 (wof f g (kvs.map (·.1))).2 → Okb ((A + B + 2) * (m + 1)) (wof f g (kvs.map (·.1))) → Q (.ref r) H'
end
end SS

namespace SS
open PySem PySem.Spec PyProof.Rows L2
/-! ### dicts put together of pairs -/
def PM (H : Hp) (n : Nat) (kvs : List (Key × V)) (g : Key → Int × Int) : Prop := (kvs.map (·.1)).Nodup ∧ kvs.length ≤ n ∧
  (∀ p ∈ kvs, (∃ x, p.1 = .inr x ∧ NmOk x) ∧ (∃ r, p.2 = .ref r ∧ H r = some (.tup [.int (g p.1).1, .int (g p.1).2]))) ∧ ∀ k, valV kvs k = none → g k = (0, 1)
theorem PM.put {H : Hp} {n : Nat} {kvs : List (Key × V)} {g : Key → Int × Int} {x : Str} {r : Addr} {v : Int × Int} (h : PM H n kvs g) (hx : NmOk x) (hr : H r = some (.tup [.int v.1, .int v.2])) :
    PM H (n + 1) (putK kvs (.inr x) (.ref r)) (fun k => if k = .inr x then v else g k) := by
  obtain ⟨h2, h3, h4, h5⟩ := h
  have hv := valV_put kvs (.inr x) (y := .ref r)
  refine ⟨nd_put _ _ h2, Nat.le_trans (length_putK ..) (Nat.succ_le_succ h3), fun p hp => ?_, fun k e => ?_⟩
  · have e0 : valV (putK kvs (.inr x) (.ref r)) p.1 = some p.2 := val_nodup (nd_put _ _ h2) p hp
    rw [hv] at e0
    by_cases c : p.1 = .inr x
    · rw [if_pos c] at e0
      dsimp only
      rw [if_pos c]
      exact ⟨⟨x, c, hx⟩, ⟨r, (Option.some.inj e0).symm, hr⟩⟩
    · rw [if_neg c] at e0
      dsimp only
      rw [if_neg c]
      obtain ⟨q, hq, e1, e2⟩ := mem_valV e0
      obtain ⟨g1, ⟨r', g2, g3⟩⟩ := h4 q hq
      rw [e1] at g1 g3
      rw [e2] at g2
      exact ⟨g1, ⟨r', g2, g3⟩⟩
  · rw [hv] at e
    by_cases c : k = .inr x
    · rw [if_pos c] at e
      cases e
    · rw [if_neg c] at e
      show (if k = .inr x then v else g k) = (0, 1)
      rw [if_neg c]
      exact h5 k e
/-- a name and a fraction -/
def NF (B : Nat) (H : Hp) (p : Key × V) : Prop := ∃ (x : Str) (r : Addr) (v : Int × Int), p = (.inr x, .ref r) ∧ NmOk x ∧ H r = some (.tup [.int v.1, .int v.2]) ∧ Okb B v
theorem PM.merge {H : Hp} {B : Nat} : ∀ (ks acc : List (Key × V)) (n : Nat) (g : Key → Int × Int), PM H n acc g → (∀ k, Okb B (g k)) → (∀ p ∈ ks, NF B H p) → ∃ g', PM H (n + ks.length) (mergeK acc ks) g' ∧ ∀ k, Okb B (g' k)
  | [], acc, n, g, h, ok, _ => ⟨g, h, ok⟩
  | p :: ks, acc, n, g, h, ok, hp => by
    obtain ⟨x, r, v, rfl, hx, hr, hv⟩ := hp p (.head _)
    have h' := h.put hx hr
    obtain ⟨g', i1, i2⟩ := PM.merge ks _ _ _ h' (fun k => by
      by_cases c : k = .inr x
      · rw [if_pos c]
        exact hv
      · rw [if_neg c]
        exact ok k) fun q hq => hp q (.tail _ hq)
    refine ⟨g', ?_, i2⟩
    have e : n + (((.inr x, V.ref r) : Key × V) :: ks).length = n + 1 + ks.length := by
      rw [List.length_cons]
      omega
    rw [e]
    exact i1
theorem PM.new (H : Hp) : PM H 0 [] (fun _ => (0, 1)) := ⟨List.nodup_nil, Nat.le_refl _, fun p hp => absurd hp List.not_mem_nil, fun _ _ => rfl⟩
theorem PM.dm {H : Hp} {n : Nat} {kvs : List (Key × V)} {g : Key → Int × Int} {c : Addr} (h : PM H n kvs g) (nc : H c = none) : DM False n (upd H c (.dK kvs)) c kvs g := by
  obtain ⟨h2, h3, h4, h5⟩ := h
  refine ⟨upd_same, h2, h3, fun p hp => ?_, h5⟩
  obtain ⟨e1, r, e2, e3⟩ := h4 p hp
  exact ⟨e1, ⟨r, e2, same_new nc _ _ e3⟩, fun z => z.elim⟩
/-! ### what keeps tells -/
abbrev sorts : List Str := ["is", "most", "least", "below", "above"]
def keptB (s : Str) (W N : Rat) : Bool := if s = "is" then decide (W = N) else if s = "most" then decide (W ≤ N) else if s = "least" then decide (N ≤ W) else if s = "below" then decide (W < N) else decide (N < W)
theorem kept_is (W N : Rat) : keptB "is" W N = decide (W = N) := if_pos rfl
theorem kept_most (W N : Rat) : keptB "most" W N = decide (W ≤ N) := by
  unfold keptB
  rw [if_neg (by decide +kernel), if_pos rfl]
theorem kept_least (W N : Rat) : keptB "least" W N = decide (N ≤ W) := by
  unfold keptB
  rw [if_neg (by decide +kernel), if_neg (by decide +kernel), if_pos rfl]
theorem kept_below (W N : Rat) : keptB "below" W N = decide (W < N) := by
  unfold keptB
  rw [if_neg (by decide +kernel), if_neg (by decide +kernel), if_neg (by decide +kernel), if_pos rfl]
theorem kept_above (W N : Rat) : keptB "above" W N = decide (N < W) := by
  unfold keptB
  rw [if_neg (by decide +kernel), if_neg (by decide +kernel), if_neg (by decide +kernel), if_neg (by decide +kernel)]
theorem kept_all (W N : Rat) : keptB "is" W N = (keptB "most" W N && keptB "least" W N) ∧ keptB "below" W N = !keptB "least" W N ∧ keptB "above" W N = !keptB "most" W N := by
  rw [kept_is, kept_most, kept_least, kept_below, kept_above]
  refine ⟨?_, ?_, ?_⟩
  · rw [← Bool.decide_and]
    exact decide_eq_decide.mpr ⟨fun h => by rw [h]; exact ⟨Rat.le_refl, Rat.le_refl⟩, fun h => Rat.le_antisymm h.1 h.2⟩
  · rw [← decide_not]
    exact decide_eq_decide.mpr Rat.not_le.symm
  · rw [← decide_not]
    exact decide_eq_decide.mpr Rat.not_le.symm
section
variable {P : Program} {w : World} {K : PySem.W.Frag} {mg : Str → Option Value} {base : Heap}
def spRowOf (K : PySem.W.Frag) : Sp := fun vs H Q _ => ∃ (a n : Addr) (srt : Str) (kvs : List (Key × V)) (f : Key → Int × Int) (num : Int × Int), vs = [.ref a, .str srt, .ref n] ∧ DM True 10 H a kvs f ∧ FrT K H n num.1 num.2 ∧ srt ∈ sorts ∧
  (∀ k, Okb 2000 (f k)) ∧ Okb 2000 num ∧ ∀ H' r a' n' ks, Same H H' → H r = none → H a' = none → H' r = some (.tup [.ref a', .str srt, .ref n']) → DM True 10 H' a' ks f → FrT K H' n' num.1 num.2 → Q (.ref r) H'
def spKeeps (K : PySem.W.Frag) : Sp := fun vs H Q _ => ∃ (r a b n : Addr) (srt : Str) (kvs ls : List (Key × V)) (f g : Key → Int × Int) (num : Int × Int) (z z' : Prop) (m m' A B : Nat), vs = [.ref r, .ref b] ∧ H r = some (.tup [.ref a, .str srt, .ref n]) ∧
  DM z m H a kvs f ∧ DM z' m' H b ls g ∧ FrT K H n num.1 num.2 ∧ srt ∈ sorts ∧ (∀ k, Okb A (f k)) ∧ (∀ k, Okb B (g k)) ∧ Okb 3000 num ∧ (A + B + 2) * (m + 1) ≤ 3000 ∧ a ≠ b ∧
  ∀ H', Same H H' → Q (.bl (keptB srt (toQ (wof f g (kvs.map (·.1)))) (toQ num))) H'
end
end SS

namespace SS
open PySem PySem.Spec PyProof.Rows L2
section
variable {P : Program} {w : World} {K : PySem.W.Frag} {mg : Str → Option Value} {base : Heap}
/-! ### the law's own worth -/
theorem scLWorth : FnScope ["_law_one", "_law_point", "_law_worth_here", "_law_key"] ["_law_one", "_law_point"] (defScope sLWorth) := ⟨rfl, rfl, rfl, by decide +kernel, rfl, by decide +kernel, by decide +kernel⟩
theorem ok_lworth {f' : Addr} {fd : FuncData} (F : Fun K "_law_worth" "_law_worth" sLWorth f' fd) (pl : Cl P w K mg base CX0 3 "_law_plus" (spPlus K) []) (tm : Cl P w K mg base CX0 3 "_law_times" (spTimes K) []) :
    FnOk P w K mg base CX0 4 f' fd ["_law_one", "_law_point"] (spWorth K) := by
  refine F.ok scLWorth (fun vs H Q E h => ?_) (fun cdv A' outer s H vs Q E hr h => ?_)
  · obtain ⟨_, _, _, _, _, _, _, _, _, _, _, _, rfl, _⟩ := h
    rfl
  · obtain ⟨a, b, kvs, ls, f, g, z, z', m, m', A, B, rfl, da, db, okf, okg, hm, nab, q⟩ := h
    have hu := hu_of hr
    have wf : ∀ i, i ≤ m → (A + B + 2) * (i + 1) ≤ 3000 := fun i hi => wb_le hi hm
    have wc : A + B + 2 ≤ 3000 := wb_c hm
    refine ⟨_, pss_cons (ps_set (i := 2) scLWorth.nd rfl (.inl rfl) (pe_tup (pa_cons pe_int (pa_cons pe_int pa_nil))))
      (pss_cons (ps_lock (ps_for PassesOwn.never rfl (pi_keys (pv 0)) (pg_name (i := 3) scLWorth.nd rfl (.inl rfl))
        (pss_one (ps_set (i := 2) scLWorth.nd rfl (.inl rfl) (pc0 pl hr (by decide) (pa_cons (pv 2) (pa_cons (pc0 tm hr (by decide) (pa_cons (pe_dget hu (pv 0) (pv 3) (fun _ _ => rfl)) (pa_cons (pe_dget2 hu (pv 1) (pv 3) (pe_tup (pa_cons pe_int (pa_cons pe_int pa_nil))) ⟨rfl, rfl, rfl, rfl⟩) pa_nil))) pa_nil)))))))
      (pss_one (ps_ret (pv 2)))), ?_⟩
    refine ⟨small2, fun N0 nN0 => ?_⟩
    have s0 := same_new (o := .tup [.int 0, .int 1]) nN0
    have aN0 : a ≠ N0 := ne_of_none da.1 nN0
    have ha0 := s0 _ _ da.1
    refine ⟨a, .dK kvs, ha0, trivial, fun od => ?_⟩
    have l0 : Lk a H (upd (upd H N0 (.tup [.int 0, .int 1])) a (.frz od (.dK kvs))) := fun b' o nb e => by
      rw [upd_ne nb]
      exact s0 _ _ e
    have f1 : FrT K (upd (upd H N0 (.tup [.int 0, .int 1])) a (.frz od (.dK kvs))) N0 0 1 := FrT.of (by rw [upd_ne aN0.symm]; exact upd_same)
    refine ⟨_, rfl, a, od, rfl, .inl ⟨kvs, upd_same, ?_⟩⟩
    refine ⟨fun i n σ H' => ∃ (y3 : Option V) (r : Addr), σ = [some (.ref a), some (.ref b), some (.ref r), y3] ∧ i + n = kvs.length ∧ Lk a H H' ∧ H' a = some (.frz od (.dK kvs)) ∧
        FrT K H' r (wof f g ((kvs.take i).map (·.1))).1 (wof f g ((kvs.take i).map (·.1))).2 ∧ Okb ((A + B + 2) * (i + 1)) (wof f g ((kvs.take i).map (·.1))),
      ⟨kvs.length, none, N0, rfl, by omega, l0, upd_same, f1, (okb_zero (A + B + 1)).mono (by rw [Nat.zero_add, Nat.mul_one]; exact Nat.le_refl _)⟩, fun i n σ H3 hW => ?_⟩
    obtain ⟨y3, r, rfl, em, lk, ha3, fr, ok⟩ := hW
    have h6 : kvs.length ≤ m := da.2.2.1
    by_cases hi : i < kvs.length
    · refine .inr ⟨⟨ha3, hi⟩, fun σ' H' => ∃ (y3 : Option V) (r : Addr), σ' = [some (.ref a), some (.ref b), some (.ref r), y3] ∧ Lk a H H' ∧ H' a = some (.frz od (.dK kvs)) ∧
          FrT K H' r (wof f g ((kvs.take (i + 1)).map (·.1))).1 (wof f g ((kvs.take (i + 1)).map (·.1))).2 ∧ Okb ((A + B + 2) * (i + 1 + 1)) (wof f g ((kvs.take (i + 1)).map (·.1))), fun σ' H' hN' => ?_, fun x H' hy => ?_⟩
      · obtain ⟨a1, a3, r1, r2, r3, r4, r5⟩ := hN'
        exact ⟨n - 1, by omega, a1, a3, r1, by omega, r2, r3, r4, r5⟩
      · obtain ⟨rfl, k, v, hkv, rfl⟩ := hy
        obtain ⟨e1, ⟨rv, e2, e3⟩, e4⟩ := da.2.2.2.1 (k, v) (List.mem_of_getElem? hkv)
        have e2' : v = .ref rv := e2
        subst e2'
        have e3' : H rv = some (.tup [.int (f k).1, .int (f k).2]) := e3
        have ev : valV kvs k = some (.ref rv) := val_nodup da.2.1 (k, .ref rv) (List.mem_of_getElem? hkv)
        have hb3 := lk _ _ nab.symm db.1
        have okv : Okb A (f k) := okf k
        have okp : Okb B (g k) := okg k
        refine ⟨_, rfl, _, rfl, _, rfl, a, _, rfl, .inl ⟨kvs, k, .inr ⟨od, ha3⟩, rfl, ev.symm⟩, _, rfl, b, rfl, .inl ⟨ls, .inl hb3⟩, _, rfl, small2, fun N1 nN1 => ?_⟩
        have s4 := same_new (o := .tup [.int 0, .int 1]) nN1
        have fN1 : FrT K (upd H' N1 (.tup [.int 0, .int 1])) N1 0 1 := FrT.of upd_same
        have lk4 : Lk a H (upd H' N1 (.tup [.int 0, .int 1])) := fun b' o nb e => s4 _ _ (lk b' o nb e)
        have ha4 := s4 _ _ ha3
        have fr4 := fr.new s4
        generalize upd H' N1 (.tup [.int 0, .int 1]) = H4 at lk4 ha4 fr4 fN1 ⊢
        have db4 := db.lk da.1 nab.symm lk4
        have rva : rv ≠ a := fun c => by
          rw [c, da.1] at e3'
          cases e3'
        have fv4 : FrT K H4 rv (f k).1 (f k).2 := FrT.of (lk4 _ _ rva e3')
        obtain ⟨rp, ep, fp⟩ : ∃ rp, (valV ls k).getD (.ref N1) = .ref rp ∧ FrT K H4 rp (g k).1 (g k).2 := by
          cases e : valV ls k with
          | none =>
            rw [db4.2.2.2.2 k e]
            exact ⟨N1, rfl, fN1⟩
          | some v' =>
            obtain ⟨r', rfl, f'⟩ := db4.get e
            exact ⟨r', rfl, FrT.of f'⟩
        refine ⟨valV ls k, DGet.k (k := k) db4.1, ?_⟩
        refine ⟨(f k).1, (f k).2, (g k).1, (g k).2, ⟨rv, rp, by rw [ep]; rfl, fv4, fp, okv.1, okp.1, sm_mono okv.2.1 (by omega), sm_mono okv.2.2.1 (by omega), sm_mono okp.2.1 (by omega), sm_mono okp.2.2.1 (by omega), okv.2.2.2, okp.2.2.2⟩, fun r1 nr1 => ?_⟩
        have okt : Okb (A + B) (ftimes (f k) (g k)) := okb_times okv okp
        have s5 := same_new (o := .tup [.int (ftimes (f k) (g k)).1, .int (ftimes (f k) (g k)).2]) nr1
        have ok2 : Okb 3000 (wof f g ((kvs.take i).map (·.1))) := ok.mono (wf i (by omega))
        refine ⟨_, _, (ftimes (f k) (g k)).1, (ftimes (f k) (g k)).2, ⟨r, r1, rfl, fr4.new s5, FrT.of upd_same, ok.1, okt.1, ok2.2.1, ok2.2.2.1, sm_mono okt.2.1 (by omega), sm_mono okt.2.2.1 (by omega), ok.2.2.2, okt.2.2.2⟩, fun r2 nr2 => ?_⟩
        have es := wof_take (f := f) (g := g) hkv
        have s6 := same_new (o := .tup [.int (fplus (wof f g ((kvs.take i).map (·.1))) (ftimes (f k) (g k))).1, .int (fplus (wof f g ((kvs.take i).map (·.1))) (ftimes (f k) (g k))).2]) nr2
        refine ⟨_, r2, rfl, fun b' o nb e => s6 _ _ (s5 _ _ (lk4 b' o nb e)), s6 _ _ (s5 _ _ ha4), ?_, ?_⟩
        · rw [es]
          exact FrT.of upd_same
        · rw [es]
          exact (okb_plus ok okt).mono (wb_step (c := A + B + 2) (by omega))
    · have ei : kvs.take i = kvs := List.take_of_length_le (by omega)
      rw [ei] at fr ok
      refine .inl ⟨⟨ha3, by omega⟩, ha3, _, rfl, q _ r ?_ ?_ (ok.mono (Nat.mul_le_mul_left _ (by omega)))⟩
      · intro b' o e
        by_cases eb : b' = a
        · subst eb
          rw [upd_same, ← da.1]
          exact e
        · rw [upd_ne eb]
          exact lk b' o eb e
      · exact fr.unlock ha3
/-! ### less -/
def spLess (K : PySem.W.Frag) : Sp := fun vs H Q _ => ∃ n1 d1 n2 d2 : Int, Two K H vs n1 d1 n2 d2 ∧ Q (.bl (decide (n1 * d2 < n2 * d1))) H
end
end SS

namespace SS
open PySem PySem.Spec PyProof.Rows L2
theorem NF.keep {B : Nat} {H H' : Hp} {p : Key × V} (h : NF B H p) (k : ∀ r xs, H r = some (.tup xs) → H' r = some (.tup xs)) : NF B H' p := by
  obtain ⟨x, r, v, h1, h2, h3, h4⟩ := h
  exact ⟨x, r, v, h1, h2, k _ _ h3, h4⟩
theorem DM.keep {z : Prop} {m : Nat} {H H' : Hp} {a : Addr} {kvs : List (Key × V)} {f : Key → Int × Int} (h : DM z m H a kvs f) (ha : H' a = some (.dK kvs)) (k : ∀ r xs, H r = some (.tup xs) → H' r = some (.tup xs)) : DM z m H' a kvs f := by
  obtain ⟨_, h2, h3, h4, h5⟩ := h
  refine ⟨ha, h2, h3, fun p hp => ?_, h5⟩
  obtain ⟨e1, ⟨r, e2, e3⟩, e4⟩ := h4 p hp
  exact ⟨e1, ⟨r, e2, k _ _ e3⟩, e4⟩
theorem DM.st {z : Prop} {m : Nat} {H : Hp} {a st c : Addr} {kvs : List (Key × V)} {f : Key → Int × Int} (h : DM z m H a kvs f) (s : StA st c H) : a ≠ st := fun e => by
  obtain ⟨i, n, ff, xs, g1, _⟩ := s
  have h1 := h.1
  rw [e, g1] at h1
  cases h1
theorem wof_ext {α : Type _} {f g : α → Int × Int} {ks ls : List α} (hf : ∀ k, Lo (f k)) (hg : ∀ k, Lo (g k)) (nk : ks.Nodup) (nl : ls.Nodup) (ok : ∀ k, k ∉ ks → f k = (0, 1)) (ol : ∀ k, k ∉ ls → f k = (0, 1)) : wof f g ks = wof f g ls := by
  refine toQ_inj (wof_lo hf hg ks) (wof_lo hf hg ls) ?_
  rw [wof_q hf hg, wof_q hf hg]
  exact sumQ_ext nk nl (fun k n => by rw [ok k n, toQ_zero, Rat.zero_mul]) (fun k n => by rw [ol k n, toQ_zero, Rat.zero_mul])
def kd5 (h : Str → Bool) (l : List Str) : List (Key × V) := l.map fun s => (.inr s, .bl (h s))
theorem kd5_in {h : Str → Bool} {s : Str} : ∀ {l : List Str}, s ∈ l → valV (kd5 h l) (.inr s) = some (.bl (h s))
  | [], e => absurd e List.not_mem_nil
  | x :: l, e => by
    unfold valV kd5
    rw [List.map_cons]
    by_cases c : x = s
    · subst c
      rw [List.find?_cons_of_pos (by exact decide_eq_true rfl)]
      rfl
    · rw [List.find?_cons_of_neg (by
        intro z
        exact c (Sum.inr.inj (of_decide_eq_true z)))]
      exact kd5_in (l := l) ((List.mem_cons.mp e).resolve_left fun z => c z.symm)
theorem kd5_out {h : Str → Bool} {s : Str} : ∀ {l : List Str}, s ∉ l → valV (kd5 h l) (.inr s) = none
  | [], _ => rfl
  | x :: l, e => by
    unfold valV kd5
    rw [List.map_cons, List.find?_cons_of_neg (by
        intro z
        exact e (List.mem_cons.mpr (.inl (Sum.inr.inj (of_decide_eq_true z)).symm)))]
    exact kd5_out (l := l) fun z => e (List.mem_cons_of_mem _ z)
theorem sorts_out : ∀ i : Nat, i < 5 → ∀ s, sorts[i]? = some s → s ∉ sorts.take i := by decide +kernel
end SS

namespace SS
open PySem PySem.Spec PyProof.Rows L2
theorem kept_vals {W N : Int × Int} (hW : 0 < W.2) (hN : 0 < N.2) {lh mo : Bool} (e1 : decide (W.1 * N.2 < N.1 * W.2) = lh) (e2 : decide (N.1 * W.2 < W.1 * N.2) = mo) :
    ([(.inr "is", V.bl (!lh && !mo)), (.inr "most", .bl (!mo)), (.inr "least", .bl (!lh)), (.inr "below", .bl lh), (.inr "above", .bl mo)] : List (Key × V)) = kd5 (fun s => keptB s (toQ W) (toQ N)) sorts := by
  have l1 : keptB "below" (toQ W) (toQ N) = lh := by
    rw [kept_below, ← e1]
    exact decide_eq_decide.mpr (toQ_lt_iff hW hN).symm
  have l2 : keptB "above" (toQ W) (toQ N) = mo := by
    rw [kept_above, ← e2]
    exact decide_eq_decide.mpr (toQ_lt_iff hN hW).symm
  obtain ⟨ka, kb, kc⟩ := kept_all (toQ W) (toQ N)
  have l3 : keptB "least" (toQ W) (toQ N) = !lh := by rw [← l1, kb, Bool.not_not]
  have l4 : keptB "most" (toQ W) (toQ N) = !mo := by rw [← l2, kc, Bool.not_not]
  have l5 : keptB "is" (toQ W) (toQ N) = (!lh && !mo) := by rw [ka, l3, l4, Bool.and_comm]
  show _ = [((.inr "is" : Key), V.bl (keptB "is" (toQ W) (toQ N))), (.inr "most", .bl (keptB "most" (toQ W) (toQ N))), (.inr "least", .bl (keptB "least" (toQ W) (toQ N))), (.inr "below", .bl (keptB "below" (toQ W) (toQ N))), (.inr "above", .bl (keptB "above" (toQ W) (toQ N)))]
  rw [l1, l2, l3, l4, l5]
theorem sorts_nd : (sorts.map fun s => (.inr s : Key)).Nodup := by decide +kernel
theorem merge5 (b1 b2 b3 b4 b5 : Bool) : mergeK [] ([(.inr "is", V.bl b1), (.inr "most", .bl b2), (.inr "least", .bl b3), (.inr "below", .bl b4), (.inr "above", .bl b5)] : List (Key × V)) = [(.inr "is", V.bl b1), (.inr "most", .bl b2), (.inr "least", .bl b3), (.inr "below", .bl b4), (.inr "above", .bl b5)] :=
  merge_nd [(.inr "is", V.bl b1), (.inr "most", .bl b2), (.inr "least", .bl b3), (.inr "below", .bl b4), (.inr "above", .bl b5)] [] sorts_nd
section
variable {P : Program} {w : World} {K : PySem.W.Frag} {mg : Str → Option Value} {base : Heap}
end
end SS

namespace SS
open PySem PySem.Spec PyProof.Rows L2
section
variable {P : Program} {w : World} {K : PySem.W.Frag} {mg : Str → Option Value} {base : Heap}
/-! ### short fractions, whole points -/
def spShort (K : PySem.W.Frag) : Sp := fun vs H Q _ => ∃ (p : Addr) (N : Int × Int), vs = [.ref p] ∧ FrT K H p N.1 N.2 ∧ Okb 3000 N ∧ ∀ H' r (M : Int × Int), Same H H' → FrT K H' r M.1 M.2 → Okb 11 M → Q (.ref r) H'
theorem scShort : FnScope ["_law_number_here"] ["_law_number_here"] (defScope sShort) := ⟨rfl, rfl, rfl, by decide +kernel, rfl, by decide +kernel, by decide +kernel⟩
theorem okb_whole {i : Int} (h : i.natAbs < 2 ^ 11) : Okb 11 (i, 1) := ⟨(by show (0 : Int) < 1; decide), h, (by show (1 : Int).natAbs < 2 ^ 11; decide), Int.gcd_one_right i⟩
theorem ok_short {f' : Addr} {fd : FuncData} {k : Nat} (F : Fun K "_law_short" "_law_short" sShort f' fd) (ma : mg "abs" = none) : FnOk P w K mg base CX0 (k + 1) f' fd ["_law_number_here"] (spShort K) := by
  refine F.ok scShort (fun vs H Q E h => ?_) (fun cdv A' outer s H vs Q E hr h => ?_)
  · obtain ⟨_, _, rfl, _⟩ := h
    rfl
  · obtain ⟨p, N, rfl, fp, ok, q⟩ := h
    refine ⟨_, pss_cons (ps_if (PW.pt (pw_and (pt_cmpR op_lt (pe_callB call_abs (by rfl) ma boot_abs (pa_cons (pe_ix ix_tup (pv 0) pe_int (fun _ _ => rfl)) pa_nil)) pe_int (nomark _)) (pw_and1 (pt_cmpR op_lt (pe_ix ix_tup (pv 0) pe_int (fun _ _ => rfl)) pe_int (nomark _))))) (pss_one (ps_ret (pv 0))) pss_nil)
      (pss_one (ps_ret (pe_tup (pa_cons (pe_op op_sub (pe_op op_mod (pe_op op_fdivG (pe_ix ix_tup (pv 0) pe_int (fun _ _ => rfl)) (pe_ix ix_tup (pv 0) pe_int (fun _ _ => rfl))) pe_int) pe_int) (pa_cons pe_int pa_nil))))), ?_⟩
    have bad : ∀ {X : Prop}, X → X := fun h => h
    have tail : ∃ (v : Int), v = (N.1.fdiv N.2) % 1999 - 999 ∧ v.natAbs < 2 ^ 11 := ⟨_, rfl, by omega⟩
    obtain ⟨v, ev, bv⟩ := tail
    refine ⟨_, rfl, p, _, 0, _, rfl, rfl, fp.1, atI_nat (j := 0) rfl, _, rfl, _, 1000, rfl, rfl, _, rfl, ite2 (fun e => ?n1) (fun e => iteF ?ex1)⟩
    case' n1 => refine ⟨_, rfl, p, _, 1, _, rfl, rfl, fp.1, atI_nat (j := 1) rfl, _, 100, rfl, rfl, _, rfl, ite2 (fun e2 => ?y) (fun e2 => ?ex2)⟩
    case y =>
      have a1 : (if N.1 < 0 then -N.1 else N.1) < 1000 := of_decide_eq_true e
      have a2 : N.2 < 100 := of_decide_eq_true e2
      have a3 := ok.1
      have a4 : N.1.natAbs < 2048 := by
        split at a1 <;> omega
      refine ⟨_, rfl, q H p N (Same.refl _) fp ⟨ok.1, a4, ?_, ok.2.2.2⟩⟩
      show N.2.natAbs < 2048
      omega
    case ex1 | ex2 =>
      refine ⟨_, rfl, p, _, 0, _, rfl, rfl, fp.1, atI_nat (j := 0) rfl, _, rfl, p, _, 1, _, rfl, rfl, fp.1, atI_nat (j := 1) rfl, N.1, N.2, rfl, rfl, ⟨Int.ne_of_gt ok.1, logOf (by decide) ok.2.2.1 (by decide)⟩, _, 1999, rfl, rfl, (by show (0 : Int) < 1999; decide), _, 999, rfl, rfl, small2, fun r nr => ?_⟩
      refine q _ r (v, 1) (same_new nr) ?_ (okb_whole bv)
      rw [ev]
      exact FrT.of upd_same
def spSpoint : Sp := fun vs H Q _ => ∃ (st c u : Addr) (xs : List Str), vs = [.ref st, .ref u] ∧ StA st c H ∧ H u = some (.lst (xs.map V.str)) ∧ xs.length ≤ 9 ∧ (∀ x ∈ xs, NmOk x) ∧
  ∀ H' a kvs g, But st H H' → StA st c H' → H a = none → DM False 10 H' a kvs g → (∀ k, Okb 20 (g k)) → Q (.ref a) H'
theorem scSpoint : FnScope ["_law_state", "_law_unknowns", "_law_key"] ["_law_state", "_law_unknowns"] (defScope sSpoint) := ⟨rfl, rfl, rfl, by decide +kernel, rfl, by decide +kernel, by decide +kernel⟩
theorem ok_spoint {f' : Addr} {fd : FuncData} (F : Fun K "_law_some_point" "_law_some_point" sSpoint f' fd) (md : mg "dict" = none) (tk : Cl P w K mg base CX0 3 "_law_take" spTake []) : FnOk P w K mg base CX0 4 f' fd ["_law_state", "_law_unknowns"] spSpoint := by
  refine F.ok scSpoint (fun vs H Q E h => ?_) (fun cdv A' outer s H vs Q E hr h => ?_)
  · obtain ⟨_, _, _, _, rfl, _⟩ := h
    rfl
  · obtain ⟨st, c, u, xs, rfl, s5, hu5, xl, hx, q⟩ := h
    have us := strs_ne s5 hu5
    refine ⟨_, pss_one (ps_ret (pe_callTy (call_dictP rfl) (by rfl) md (by decide +kernel) (pa_cons (pe_lc (own := [("_law_key", 2)]) (g := gName 2) (tt := tYes) rfl scSpoint.nd (pi_list (pv 1)) (blkOk_by (by rfl))
          (fun _ _ _ _ _ => pg_name (i := 2) scSpoint.nd rfl (Or.inl rfl)) (fun _ _ _ _ _ => pts_nil)
          (fun _ _ _ _ _ => pe_tup (pa_cons (pv 2) (pa_cons (pe_tup (pa_cons (pe_op op_sub (pc0 tk hr (by decide) (pa_cons (pv 0) (pa_cons pe_int pa_nil))) pe_int) (pa_cons pe_int pa_nil))) pa_nil)))) pa_nil))), ?_⟩
    refine ⟨_, rfl, u, rfl, ⟨_, SqL.of hu5⟩, fun D nD => ?_⟩
    have Ds := s5.fresh nD
    have Dc := s5.fresh2 nD
    have uD : u ≠ D := ne_of_none hu5 nD
    refine lc_list (K := K) (a := u) (xs := xs.map V.str) (fun i H' => ∃ (ts : List Addr) (ks : List (Key × V)), H' D = some (.lst (ts.map V.ref)) ∧ StA st c H' ∧ (∀ x o, x ≠ st → x ≠ D → H x = some o → H' x = some o) ∧ ts.length ≤ i ∧
        Paired (fun (t : Addr) (q : Key × V) => H' t = some (.tup [kV q.1, q.2])) ts ks ∧ ∀ p ∈ ks, NF 20 H' p)
      ⟨[], [], upd_same, s5.other Ds Dc, fun x o _ n2 e => by rw [upd_ne n2]; exact e, Nat.le_refl _, .nil, fun p hp => absurd hp List.not_mem_nil⟩ (fun i H' _ ⟨_, _, _, _, w3, _⟩ => SqL.of (w3 _ _ us uD hu5)) ?_ ?_
    · rintro i y H6 hy ⟨ts, ks, w1, w2, w3, w4, w5, w6⟩
      have hi : i < 9 := by
        have z := (List.getElem?_eq_some_iff.mp hy).1
        rw [List.length_map] at z
        omega
      obtain ⟨x, hxi, rfl⟩ : ∃ x, x ∈ xs ∧ y = .str x := by
        rw [List.getElem?_map] at hy
        cases e : xs[i]? with
        | none =>
          rw [e] at hy
          cases hy
        | some x =>
          rw [e] at hy
          exact ⟨x, List.mem_of_getElem? e, (Option.some.inj hy).symm⟩
      refine ⟨rfl, _, rfl, _, rfl, st, c, 9, rfl, by decide, lt8 (by decide), w2, fun H7 d7 b7 s7 l7 u7 => ⟨d7, 4, rfl, rfl, small2, fun p np => ⟨small2, fun T nT => ?_⟩⟩⟩
      have sp := same_new (o := .tup [.int (d7 - 4), .int 1]) np
      have sT := same_new (o := .tup [.str x, .ref p]) nT
      have sB := sp.trans sT
      have hp9 := sT _ _ (upd_same (H := H7) (a := p) (o := .tup [.int (d7 - 4), .int 1]))
      have hT : (upd (upd H7 p (.tup [.int (d7 - 4), .int 1])) T (.tup [.str x, .ref p])) T = some (.tup [.str x, .ref p]) := upd_same
      generalize upd (upd H7 p (.tup [.int (d7 - 4), .int 1])) T (.tup [.str x, .ref p]) = H9 at sB hp9 hT ⊢
      have hD8 : H9 D = some (.lst (ts.map V.ref)) := sB _ _ (b7 _ _ Ds w1)
      have k8 : ∀ r ys, H6 r = some (.tup ys) → H9 r = some (.tup ys) := fun r ys e => sB _ _ (b7.tup w2 e)
      have s9 := s7.same sB
      have kD := keep_l (o := .lst (ts.map V.ref ++ [.ref T])) hD8
      refine ⟨_, hD8, ?_, ts ++ [T], ks ++ [(.inr x, .ref p)], ?_, s9.other Ds Dc, ?_, ?_, ?_, ?_⟩
      · rw [List.length_map]
        exact small1000 (by omega)
      · rw [upd_same, List.map_append]
        rfl
      · intro x' o n1 n2 e'
        rw [upd_ne n2]
        exact sB _ _ (b7 _ _ n1 (w3 _ _ n1 n2 e'))
      · rw [List.length_append]
        exact Nat.succ_le_succ w4
      · exact Paired.snocX (Paired.impX w5 fun t q' ht => kD _ _ (k8 _ _ ht)) (kD _ _ hT)
      · intro p' hp'
        rcases List.mem_append.mp hp' with z | z
        · exact (w6 p' z).keep fun r ys e' => kD _ _ (k8 _ _ e')
        · rw [List.mem_singleton.mp z]
          exact ⟨x, p, (d7 - 4, 1), rfl, hx x hxi, kD _ _ hp9, (okb_whole (by omega)).mono (by decide)⟩
    · rintro H6 ⟨ts, ks, w1, w2, w3, w4, w5, w6⟩
      refine ⟨D, ts, ks, rfl, SqL.of w1, Paired.impX w5 (fun t q' ht => SqT.of ht), fun Pt nPt => ?_⟩
      obtain ⟨g, pm, okg⟩ := PM.merge ks [] 0 _ (PM.new H6) (fun _ => okb_zero 19) w6
      have kl : ks.length ≤ 9 := by
        have z := (paired_at w5).1
        rw [List.length_map] at w4
        omega
      have DP : DM False 10 _ Pt _ g := (pm.dm nPt).mono (by omega)
      have sP := same_new (o := .dK (mergeK [] ks)) nPt
      refine q _ Pt _ g (fun x' o n1 e' => sP _ _ (w3 _ _ n1 (ne_of_none e' nD) e')) (w2.same sP) ?_ DP okg
      cases e : H Pt with
      | none => rfl
      | some o =>
        exfalso
        by_cases c1 : Pt = st
        · obtain ⟨i, n, ff, xs', g1, _⟩ := w2
          rw [c1, g1] at nPt
          cases nPt
        · have z := w3 _ _ c1 (ne_of_none e nD) e
          rw [nPt] at z
          cases z
end
end SS

namespace SS
open PySem PySem.Spec PyProof.Rows L2
section
variable {P : Program} {w : World} {K : PySem.W.Frag} {mg : Str → Option Value} {base : Heap}
theorem eqv_fr (a b : Int × Int) : PyData.eqv (.tuple [.int a.1, .int a.2]) (.tuple [.int b.1, .int b.2]) = decide (a = b) := by
  have e : PyData.eqv (.tuple [.int a.1, .int a.2]) (.tuple [.int b.1, .int b.2]) = (a.1 == b.1 && a.2 == b.2) := by
    simp [PyData.eqv, PyData.eqvAll]
  rw [e, Bool.eq_iff_iff, Bool.and_eq_true, beq_iff_eq, beq_iff_eq, decide_eq_true_iff]
  exact ⟨fun h => Prod.ext h.1 h.2, fun h => by rw [h]; exact ⟨rfl, rfl⟩⟩
end
end SS

namespace SS
open PySem PySem.Spec PyProof.Rows L2
/-! ### tables of generator expressions: all else stays -/
def Tabs (T : List Addr) (H : Hp) : Prop := ∀ P ∈ T, GxR.TabG H P
structure SameT (T : List Addr) (H H' : Hp) : Prop where
  ext : ∀ b o, H b = some o → (∀ ps, o ≠ .tbl ps) → H' b = some o
  tab : Tabs T H'
  free : ∀ {b}, H' b = none → H b = none
section
variable {T : List Addr} {H H1 H2 H' : Hp} {P : Addr}
theorem SameT.refl (h : Tabs T H) : SameT T H H := ⟨fun _ _ e _ => e, h, fun e => e⟩
theorem SameT.trans (a : SameT T H H1) (b : SameT T H1 H2) : SameT T H H2 := ⟨fun x o e n => b.ext x o (a.ext x o e n) n, b.tab, fun e => a.free (b.free e)⟩
theorem Tabs.same (h : Tabs T H) (s : Same H H') : Tabs T H' := fun P hP => by
  obtain ⟨ps, e, r⟩ := h P hP
  exact ⟨ps, s _ _ e, r⟩
theorem Tabs.but {st c : Addr} (h : Tabs T H) (s : But st H H') (y : StA st c H) : Tabs T H' := fun P hP => by
  obtain ⟨ps, e, r⟩ := h P hP
  refine ⟨ps, s _ _ (fun z => ?_) e, r⟩
  obtain ⟨i, n, f, xs, h1, _⟩ := y
  rw [z, h1] at e
  cases e
/-- an object that is no table changes -/
theorem Tabs.upd {a : Addr} {o u : HO} (h : Tabs T H) (ha : H a = some u) (nu : ∀ ps, u ≠ .tbl ps) : Tabs T (upd H a o) := fun P hP => by
  obtain ⟨ps, e, r⟩ := h P hP
  refine ⟨ps, ?_, r⟩
  rw [upd_ne fun z => ?_]
  · exact e
  · rw [z, ha] at e
    exact nu ps (Option.some.inj e)
theorem SameT.of (h : Tabs T H) (s : Same H H') : SameT T H H' := ⟨fun b o e _ => s b o e, h.same s, fun e => s.free e⟩
theorem SameT.tabbed (h : Tabs T H) (hP : GxR.TabG H P) (t : GxR.Tabbed P H H') : SameT T H H' := by
  refine ⟨fun b o e n => ?_, fun R hR => ?_, fun {b} e => ?_⟩
  · by_cases c : b = P
    · obtain ⟨ps, e', _⟩ := hP
      rw [c, e'] at e
      exact absurd (Option.some.inj e).symm (n ps)
    · rw [t.2 b c]
      exact e
  · by_cases c : R = P
    · rw [c]
      exact t.1
    · obtain ⟨ps, e, r⟩ := h R hR
      exact ⟨ps, by rw [t.2 R c]; exact e, r⟩
  · by_cases c : b = P
    · obtain ⟨⟨ps, e', _⟩, _⟩ := t
      rw [c, e'] at e
      cases e
    · rw [t.2 b c] at e
      exact e
/-- a dict is locked, and unlocked behind it -/
theorem SameT.unlock {a : Addr} {od : Obj} {kvs : List (Key × V)} (ha : H a = some (.dK kvs)) (s : SameT T (upd H a (.frz od (.dK kvs))) H') (ha' : H' a = some (.frz od (.dK kvs))) : SameT T H (upd H' a (.dK kvs)) := by
  refine ⟨fun b o e n => ?_, s.tab.upd ha' (fun ps z => by cases z), fun {b} e => ?_⟩
  · by_cases c : b = a
    · rw [c] at e ⊢
      rw [upd_same, ← ha]
      exact e
    · rw [upd_ne c]
      exact s.ext b o (by rw [upd_ne c]; exact e) n
  · by_cases c : b = a
    · rw [c, upd_same] at e
      cases e
    · rw [upd_ne c] at e
      have z := s.free e
      rw [upd_ne c] at z
      exact z
/-- tuples and lists stay -/
def KTL (H H' : Hp) : Prop := ∀ b xs, (H b = some (.tup xs) → H' b = some (.tup xs)) ∧ (H b = some (.lst xs) → H' b = some (.lst xs)) ∧ ∀ ob, H b = some (.frz ob (.tup xs)) → H' b = some (.frz ob (.tup xs))
theorem SameT.ktl (s : SameT T H H') : KTL H H' := fun b xs => ⟨fun e => s.ext _ _ e (fun ps z => by cases z), fun e => s.ext _ _ e (fun ps z => by cases z), fun ob e => s.ext _ _ e (fun ps z => by cases z)⟩
theorem KTL.trans (a : KTL H H1) (b : KTL H1 H2) : KTL H H2 := fun x xs => ⟨fun e => (b x xs).1 ((a x xs).1 e), fun e => (b x xs).2.1 ((a x xs).2.1 e), fun ob e => (b x xs).2.2 ob ((a x xs).2.2 ob e)⟩
theorem KTL.dict {a : Addr} {kvs : List (Key × V)} {o : HO} (ha : H a = some (.dK kvs)) : KTL H (upd H a o) := fun b xs => by
  have ne : ∀ u, H b = some u → (∀ ks, u ≠ .dK ks) → b ≠ a := fun u e n z => by
    rw [z, ha] at e
    exact n kvs (Option.some.inj e).symm
  refine ⟨fun e => ?_, fun e => ?_, fun ob e => ?_⟩ <;> rw [upd_ne (ne _ e fun ks z => by cases z)] <;> exact e
theorem SqT.ktl {K : PySem.W.Frag} {p : Addr} {xs : List V} (h : SqT K H p xs) (k : KTL H H') : SqT K H' p xs := by
  rcases h with (h | ⟨o, h⟩) | h
  · exact .inl (.inl ((k _ _).1 h))
  · exact .inl (.inr ⟨o, (k _ _).2.2 _ h⟩)
  · exact .inr h
theorem FrT.ktl {K : PySem.W.Frag} {p : Addr} {n d : Int} (h : FrT K H p n d) (s : KTL H H') : FrT K H' p n d := by
  obtain ⟨h1, h2⟩ := h
  rcases h1 with (h1 | ⟨o, h1⟩) | ⟨o, its, m, k1, k2, k3⟩
  · exact FrT.of ((s _ _).1 h1)
  · exact ⟨.inl (.inr ⟨o, (s _ _).2.2 _ h1⟩), .fTuple ((s _ _).2.2 _ h1)⟩
  · exact ⟨.inr ⟨o, its, m, k1, k2, k3⟩, .kTuple k1 k2⟩
theorem SqT.ty {K : PySem.W.Frag} {p : Addr} {xs : List V} (h : SqT K H p xs) : TyX K H (.ref p) (.type "tuple") := by
  rcases h with (h | ⟨o, h⟩) | ⟨o, its, n, k1, k2, k3⟩
  · exact .base (.tup h)
  · exact .fTuple h
  · exact .kTuple k1 k2
theorem DM.sameT {z : Prop} {m : Nat} {a : Addr} {kvs : List (Key × V)} {f : Key → Int × Int} (h : DM z m H a kvs f) (s : SameT T H H') : DM z m H' a kvs f := by
  obtain ⟨h1, h2, h3, h4, h5⟩ := h
  refine ⟨s.ext _ _ h1 (fun ps z => by cases z), h2, h3, fun p hp => ?_, h5⟩
  obtain ⟨e1, ⟨r, e2, e3⟩, e4⟩ := h4 p hp
  exact ⟨e1, ⟨r, e2, s.ext _ _ e3 (fun ps z => by cases z)⟩, e4⟩
end
/-! ### whole numbers, fractions, names of anything -/
/-- things that are no numbers: what they are -/
inductive Odd (K : PySem.W.Frag) (H : Hp) : V → String → Prop where
  | non : Odd K H .non "NoneType"
  | str (x : Str) : Odd K H (.str x) "str"
  | lst {p : Addr} {xs : List V} (h : H p = some (.lst xs)) : Odd K H (.ref p) "list"
  | tup {p : Addr} {xs : List V} (h : SqT K H p xs) : Odd K H (.ref p) "tuple"
  | dct {p : Addr} {ks : List (Key × V)} (h : H p = some (.dK ks)) : Odd K H (.ref p) "dict"
theorem Odd.ty {K : PySem.W.Frag} {H : Hp} {v : V} {t : String} (h : Odd K H v t) : TyX K H v (.type t) := by
  cases h with
  | non => exact .base .non
  | str x => exact .base (.str x)
  | lst h => exact .base (.lst h)
  | tup h => exact SqT.ty h
  | dct h => exact .base (.dK h)
def WhB (K : PySem.W.Frag) (H : Hp) (v : V) (b : Bool) : Prop := (∃ i, v = .int i ∧ b = true) ∨ (∃ t, v = .bl t ∧ b = false) ∨ ∃ t, Odd K H v t ∧ b = false
theorem odd_kit {K : PySem.W.Frag} {H : Hp} {v : V} {t : String} (h : Odd K H v t) : PySem.W.kitOne K (.type t) (.type "int") = some false := by
  cases h <;> exact kit_ty (by decide +kernel)
/-- is a fraction, by b; no dict is asked for its inside -/
def FracB (K : PySem.W.Frag) (H : Hp) (v : V) (b : Bool) : Prop :=
  (((∃ i, v = .int i) ∨ (∃ t, v = .bl t) ∨ v = .non ∨ (∃ x, v = .str x) ∨ ∃ p xs, v = .ref p ∧ H p = some (.lst xs)) ∧ b = false) ∨
  ∃ p xs, v = .ref p ∧ SqT K H p xs ∧ ((xs.length ≠ 2 ∧ b = false) ∨ ∃ x y, xs = [x, y] ∧ ((∃ n d, x = .int n ∧ y = .int d ∧ b = decide (1 ≤ d ∧ Int.gcd n d = 1)) ∨ (((∃ t, x = .bl t) ∨ ∃ n t, x = .int n ∧ y = .bl t) ∧ b = false)))
theorem FracB.ktl {K : PySem.W.Frag} {H H' : Hp} {v : V} {b : Bool} (h : FracB K H v b) (k : KTL H H') : FracB K H' v b := by
  rcases h with ⟨h, e⟩ | ⟨p, xs, e, h, r⟩
  · refine .inl ⟨?_, e⟩
    rcases h with h | h | h | h | ⟨p, xs, e1, e2⟩
    · exact .inl h
    · exact .inr (.inl h)
    · exact .inr (.inr (.inl h))
    · exact .inr (.inr (.inr (.inl h)))
    · exact .inr (.inr (.inr (.inr ⟨p, xs, e1, (k _ _).2.1 e2⟩)))
  · exact .inr ⟨p, xs, e, SqT.ktl h k, r⟩
theorem FracB.fr {K : PySem.W.Frag} {H : Hp} {p : Addr} {n d : Int} (h : FrT K H p n d) (hd : 0 < d) (hg : Int.gcd n d = 1) : FracB K H (.ref p) true :=
  .inr ⟨p, _, rfl, h.1, .inr ⟨_, _, rfl, .inl ⟨n, d, rfl, rfl, (decide_eq_true ⟨by omega, hg⟩).symm⟩⟩⟩
theorem abc_in : ∀ i : Nat, i ∈ abc.cps.toList → 97 ≤ i ∧ i ≤ 122 := by
  have h : ∀ i ∈ abc.cps.toList, 97 ≤ i ∧ i ≤ 122 := by decide +kernel
  exact h
section
variable {P : Program} {w : World} {K : PySem.W.Frag} {mg : Str → Option Value} {base : Heap}
/-- a def whose code object is known -/
theorem Fun.okC {x qual : Str} {st : Stmt} {f c : Addr} {fd : FuncData} {N ps : List Str} {k : Nat} {sp : Sp} (F : Fun K x qual st f fd) (hcode : fd.code = .ref c) (S : FnScope N ps (defScope st)) (len : ∀ vs H Q E, sp vs H Q E → vs.length = ps.length)
    (hbody : ∀ (cdv : Value) (A : Around) (outer : List Env) (s : Shared) (H : Hp) (vs : List V) (Q : VK) (E : XK), cdv = .ref c → Room k (A.deeper (envOfC qual (defScope st) s.heap.objs.size f cdv)) → sp vs H Q E →
      ∃ t, PSs (cxOf CX0 P w K mg base N qual (defScope st) f cdv A outer s H E).nox (defBody st) t ∧ t { nx := fun _ H' => Q .non H', rt := Q } (start N vs) H) : FnOk P w K mg base CX0 (k + 1) f fd ps sp := by
  obtain ⟨oc, od, kV, doc, pm, an, cdv, ct, osl, rfl, lk, hcd⟩ := F.ex
  have hc : cdv = .ref c := hcode
  refine fn_of lk hcd S len fun A outer s H vs Q E hr hsp => ?_
  obtain ⟨t, h, q⟩ := hbody cdv A outer s H vs Q E hc hr hsp
  exact ⟨t, h.nox, q⟩
/-- all(..) over a walk -/
theorem all_it {J : It} {n : Nat} {G : Hp → Prop} {Y : Nat → Hp → V → Hp → Prop} (w : L2.Walk J n G Y) {te : TE} {σ : L2.St} {ix : Nat} {Q : VK} {H1 : Hp} (Pv : Nat → Hp → Prop) (h0 : Pv 0 H1) (hG : ∀ i H, i ≤ n → Pv i H → G H)
    (hs : ∀ i x H H', i < n → Pv i H → Y i H x H' → te (σ.set ix (some x)) H' fun v H3 => ∃ b, v = .bl b ∧ (b = true → Pv (i + 1) H3) ∧ (b = false → Q (.bl false) H3)) (hd : ∀ H, Pv n H → Q (.bl true) H) :
    ∃ W : Nat → Nat → Hp → Prop, (∃ m, W 0 m H1) ∧ GxA.AllW J te σ ix Q W := by
  refine ⟨fun i m H => m = n - i ∧ i ≤ n ∧ Pv i H, ⟨n, by simp, Nat.zero_le _, h0⟩, ?_⟩
  rintro i m H ⟨rfl, hi, p⟩
  have q := hG i H hi p
  by_cases hlt : i < n
  · exact .inr ⟨w.goes i H hlt q, Pv (i + 1), fun H' p' => ⟨n - (i + 1), by omega, rfl, hlt, p'⟩, fun x H' y => hs i x H H' hlt p (w.yields i H x H' hlt q y)⟩
  · have e : i = n := by omega
    subst e
    exact .inl ⟨w.stops H q, hd H p⟩
def spFWhole (K : PySem.W.Frag) : Sp := fun vs H Q _ => ∃ v b, vs = [v] ∧ WhB K H v b ∧ Q (.bl b) H
theorem scFitsW : FnScope ["thing"] ["thing"] (defScope sFitsW) := ⟨rfl, rfl, rfl, by decide +kernel, rfl, by decide +kernel, by decide +kernel⟩
theorem ok_fitsw {f : Addr} {fd : FuncData} {k : Nat} (F : Fun K "fits_whole" "fits_whole" sFitsW f fd) (mi : mg "isinstance" = none) (mn : mg "int" = none) (mb : mg "bool" = none) : FnOk P w K mg base CX0 (k + 1) f fd ["thing"] (spFWhole K) := by
  refine F.ok scFitsW (fun vs H Q E h => ?_) (fun cdv A outer s H vs Q E hr h => ?_)
  · obtain ⟨a, b, rfl, _⟩ := h
    rfl
  · obtain ⟨v, b, rfl, hv, q⟩ := h
    refine ⟨_, pss_one (ps_ret (pe_and (pe_callB call_isi (by rfl) mi boot_isinstance (pa_cons (pv 0) (pa_cons (pe_bltn (v := .ty "int") (u := .type "int") (by rfl) mn (by decide +kernel) rfl) pa_nil)))
      (pe_one (pe_not (pe_callB call_isi (by rfl) mi boot_isinstance (pa_cons (pv 0) (pa_cons (pe_bltn (v := .ty "bool") (u := .type "bool") (by rfl) mb (by decide +kernel) rfl) pa_nil))))))), ?_⟩
    rcases hv with ⟨i, rfl, rfl⟩ | ⟨t, rfl, rfl⟩ | ⟨t, ho, rfl⟩
    · refine ⟨_, rfl, .int i, .ty "int", .type "int", .type "int", true, rfl, .ty _, .base (.int i), kit_ty (by decide +kernel), _, rfl, iteT ?_⟩
      exact ⟨_, rfl, .int i, .ty "bool", .type "int", .type "bool", false, rfl, .ty _, .base (.int i), kit_ty (by decide +kernel), _, rfl, q⟩
    · refine ⟨_, rfl, .bl t, .ty "int", .type "bool", .type "int", true, rfl, .ty _, .base (.bl t), kit_ty (by decide +kernel), _, rfl, iteT ?_⟩
      exact ⟨_, rfl, .bl t, .ty "bool", .type "bool", .type "bool", true, rfl, .ty _, .base (.bl t), kit_ty (by decide +kernel), _, rfl, q⟩
    · exact ⟨_, rfl, v, .ty "int", .type t, .type "int", false, rfl, .ty _, ho.ty, odd_kit ho, _, rfl, iteF q⟩
def spFFrac (K : PySem.W.Frag) : Sp := fun vs H Q _ => ∃ v b, vs = [v] ∧ FracB K H v b ∧ Q (.bl b) H
theorem scFitsF : FnScope ["thing", "top", "bottom"] ["thing"] (defScope sFitsF) := ⟨rfl, rfl, rfl, by decide +kernel, rfl, by decide +kernel, by decide +kernel⟩
theorem ok_fitsf {f : Addr} {fd : FuncData} {k : Nat} (F : Fun K "fits_fraction" "fits_fraction" sFitsF f fd) (mi : mg "isinstance" = none) (mt : mg "tuple" = none) (ml : mg "len" = none) (fw : Cl P w K mg base CX0 1 "fits_whole" (spFWhole K) []) (cd : Cl P w K mg base CX0 1 "common_divisor" spGcd []) :
    FnOk P w K mg base CX0 2 f fd ["thing"] (spFFrac K) := by
  refine F.ok scFitsF (fun vs H Q E h => ?_) (fun cdv A outer s H vs Q E hr h => ?_)
  · obtain ⟨a, b, rfl, _⟩ := h
    rfl
  · obtain ⟨v, b, rfl, hv, q⟩ := h
    refine ⟨_, pss_cons (ps_if (PW.pt (pw_or (pt_not (pt_val (pe_callB call_isi (by rfl) mi boot_isinstance (pa_cons (pv 0) (pa_cons (pe_bltn (v := .ty "tuple") (u := .type "tuple") (by rfl) mt (by decide +kernel) rfl) pa_nil)))))
        (pw_or1 (pt_cmpR op_ne (pe_callB call_len_seq (by rfl) ml PySem.boot_len (pa_cons (pv 0) pa_nil)) pe_int (nomark _))))) (pss_one (ps_ret pe_bl)) pss_nil)
      (pss_cons (ps_asg (pv 0) (pg_tup rfl (pgs_cons (pg_name (i := 1) scFitsF.nd rfl (.inl rfl)) (pgs_cons (pg_name (i := 2) scFitsF.nd rfl (.inl rfl)) pgs_nil))))
      (pss_cons (ps_if (PW.pt (pw_or (pt_not (pt_val (pc0 fw hr (by decide) (pa_cons (pv 1) pa_nil)))) (pw_or1 (pt_not (pt_val (pc0 fw hr (by decide) (pa_cons (pv 2) pa_nil))))))) (pss_one (ps_ret pe_bl)) pss_nil)
      (pss_one (ps_ret (pe_and (pe_cmpR op_ge (pv 2) pe_int (nomark _)) (pe_one (pe_cmpR op_eq (pc0 cd hr (by decide) (pa_cons (pv 1) (pa_cons (pv 2) pa_nil))) pe_int (nomark _)))))))), ?_⟩
    rcases hv with ⟨hv, rfl⟩ | ⟨p, xs, rfl, hs, hv⟩
    · have hk : ∃ t, TyX K H v (.type t) ∧ PySem.W.kitOne K (.type t) (.type "tuple") = some false := by
        rcases hv with ⟨i, rfl⟩ | ⟨t, rfl⟩ | rfl | ⟨x, rfl⟩ | ⟨p, xs, rfl, e⟩
        · exact ⟨_, .base (.int i), kit_ty (by decide +kernel)⟩
        · exact ⟨_, .base (.bl t), kit_ty (by decide +kernel)⟩
        · exact ⟨_, .base .non, kit_ty (by decide +kernel)⟩
        · exact ⟨_, .base (.str x), kit_ty (by decide +kernel)⟩
        · exact ⟨_, .base (.lst e), kit_ty (by decide +kernel)⟩
      obtain ⟨t, h1, h2⟩ := hk
      exact ⟨_, rfl, v, .ty "tuple", .type t, .type "tuple", false, rfl, .ty _, h1, h2, _, rfl, iteT q⟩
    · refine ⟨_, rfl, .ref p, .ty "tuple", .type "tuple", .type "tuple", true, rfl, .ty _, SqT.ty hs, kit_ty (by decide +kernel), _, rfl, iteF ?_⟩
      rcases hv with ⟨hl, rfl⟩ | ⟨x, y, rfl, hv⟩
      · refine ⟨_, rfl, p, _, rfl, .inr hs, rfl, true, ?_, iteT q⟩
        refine congrArg V.bl ?_
        rw [decide_eq_false fun z => hl (by have := V.int.inj z; omega)]
        rfl
      · refine ⟨_, rfl, p, _, rfl, .inr hs, rfl, false, rfl, iteF ?_⟩
        refine ⟨_, rfl, p, _, rfl, hs, rfl, _, _, rfl, _, _, rfl, rfl, ?_⟩
        rcases hv with ⟨n, d, rfl, rfl, rfl⟩ | ⟨hv, rfl⟩
        · refine ⟨_, rfl, _, true, rfl, .inl ⟨n, rfl, rfl⟩, _, rfl, iteF ?_⟩
          refine ⟨_, rfl, _, true, rfl, .inl ⟨d, rfl, rfl⟩, _, rfl, iteF ?_⟩
          refine ⟨_, rfl, d, 1, rfl, rfl, _, rfl, ?_⟩
          by_cases c : (1 : Int) ≤ d
          · rw [decide_eq_true c]
            refine iteT ⟨_, rfl, _, rfl, n, d, rfl, rfl, ?_⟩
            have e : decide (1 ≤ d ∧ Int.gcd n d = 1) = decide (V.int ((Int.gcd n d : Nat) : Int) = V.int 1) := decide_eq_decide.mpr ⟨fun z => by rw [z.2]; rfl, fun z => ⟨c, by have := V.int.inj z; omega⟩⟩
            rw [e] at q
            exact q
          · rw [decide_eq_false c]
            rw [decide_eq_false fun z => c z.1] at q
            exact iteF q
        · rcases hv with ⟨t, rfl⟩ | ⟨n, t, rfl, rfl⟩
          · exact ⟨_, rfl, _, false, rfl, .inr (.inl ⟨t, rfl, rfl⟩), _, rfl, iteT q⟩
          · refine ⟨_, rfl, _, true, rfl, .inl ⟨n, rfl, rfl⟩, _, rfl, iteF ?_⟩
            exact ⟨_, rfl, _, false, rfl, .inr (.inl ⟨t, rfl, rfl⟩), _, rfl, iteT q⟩
/-- is a name, by b -/
def NmB (K : PySem.W.Frag) (H : Hp) (v : V) (b : Bool) : Prop := (∃ x : Str, v = .str x ∧ x.length ≤ 1000 ∧ b = decide (NmOk x)) ∨ (((∃ i, v = .int i) ∨ v = .non ∨ ∃ p xs, v = .ref p ∧ SqT K H p xs) ∧ b = false)
def spFUnk (K : PySem.W.Frag) (T : List Addr) : Sp := fun vs H Q _ => ∃ v b, vs = [v] ∧ NmB K H v b ∧ Tabs T H ∧ ∀ H', SameT T H H' → Q (.bl b) H'
end
end SS

namespace SS
open PySem PySem.Spec PyProof.Rows L2
/-- an entry of a sum, by b -/
def EntB (K : PySem.W.Frag) (H : Hp) (p : Key × V) (b : Bool) : Prop :=
  (∃ x : Str, p.1 = .inr x ∧ x.length ≤ 1000 ∧ ¬ NmOk x ∧ b = false) ∨ (∃ i, p.1 = .inl i ∧ b = false) ∨
  ∃ x, p.1 = .inr x ∧ NmOk x ∧ ((FracB K H p.2 false ∧ b = false) ∨ ∃ r n d, p.2 = .ref r ∧ FrT K H r n d ∧ 0 < d ∧ Int.gcd n d = 1 ∧ b = decide (n ≠ 0))
theorem EntB.ktl {K : PySem.W.Frag} {H H' : Hp} {p : Key × V} {b : Bool} (h : EntB K H p b) (k : KTL H H') : EntB K H' p b := by
  rcases h with h | h | ⟨x, e, hx, h⟩
  · exact .inl h
  · exact .inr (.inl h)
  · refine .inr (.inr ⟨x, e, hx, ?_⟩)
    rcases h with ⟨h, e⟩ | ⟨r, n, d, e1, e2, e3⟩
    · exact .inl ⟨h.ktl k, e⟩
    · exact .inr ⟨r, n, d, e1, e2.ktl k, e3⟩
/-- is a sum, by b -/
def SumB (K : PySem.W.Frag) (H : Hp) (v : V) (b : Bool) : Prop :=
  ((v = .non ∨ (∃ i, v = .int i) ∨ (∃ x, v = .str x) ∨ (∃ p xs, v = .ref p ∧ H p = some (.lst xs)) ∨ ∃ p xs, v = .ref p ∧ SqT K H p xs) ∧ b = false) ∨
  ∃ a kvs bs, v = .ref a ∧ H a = some (.dK kvs) ∧ (kvs.map (·.1)).Nodup ∧ kvs.length ≤ 900 ∧ Paired (EntB K H) kvs bs ∧ b = bs.all id
theorem paired_get {α β : Type} {F : α → β → Prop} {l : List α} {m : List β} (h : Paired F l m) : l.length = m.length ∧ ∀ (i : Nat) (x : α), l[i]? = some x → ∃ y, m[i]? = some y ∧ F x y := by
  induction h with
  | nil => exact ⟨rfl, fun i x e => by simp at e⟩
  | cons hd tl ih =>
    refine ⟨by rw [List.length_cons, List.length_cons, ih.1], fun i x e => ?_⟩
    match i, e with
    | 0, e =>
      have z := Option.some.inj e
      subst z
      exact ⟨_, rfl, hd⟩
    | i + 1, e => exact ih.2 i x e
theorem nmlen {x : Str} (h : NmOk x) : x.length ≤ 1000 := by
  have e : x.length = x.cps.toList.length := by
    rw [Array.length_toList]
    rfl
  have := h.2.1
  omega
/-- an entry of a point, by b -/
def EntPt (K : PySem.W.Frag) (H : Hp) (p : Key × V) (b : Bool) : Prop :=
  (∃ x : Str, p.1 = .inr x ∧ x.length ≤ 1000 ∧ ¬ NmOk x ∧ b = false) ∨ (∃ i, p.1 = .inl i ∧ b = false) ∨ ∃ x, p.1 = .inr x ∧ NmOk x ∧ FracB K H p.2 b
theorem EntPt.ktl {K : PySem.W.Frag} {H H' : Hp} {p : Key × V} {b : Bool} (h : EntPt K H p b) (k : KTL H H') : EntPt K H' p b := by
  rcases h with h | h | ⟨x, e, hx, h⟩
  · exact .inl h
  · exact .inr (.inl h)
  · exact .inr (.inr ⟨x, e, hx, h.ktl k⟩)
/-- what is no dict -/
def NoDict (K : PySem.W.Frag) (H : Hp) (v : V) : Prop := v = .non ∨ (∃ i, v = .int i) ∨ (∃ x, v = .str x) ∨ (∃ p xs, v = .ref p ∧ H p = some (.lst xs)) ∨ (∃ p xs, v = .ref p ∧ SqT K H p xs) ∨ ∃ t, v = .bl t
theorem NoDict.kit {K : PySem.W.Frag} {H : Hp} {v : V} (h : NoDict K H v) : ∃ t, TyX K H v (.type t) ∧ PySem.W.kitOne K (.type t) (.type "dict") = some false := by
  rcases h with rfl | ⟨i, rfl⟩ | ⟨x, rfl⟩ | ⟨p, xs, rfl, e⟩ | ⟨p, xs, rfl, e⟩ | ⟨t, rfl⟩
  · exact ⟨_, .base .non, kit_ty (by decide +kernel)⟩
  · exact ⟨_, .base (.int i), kit_ty (by decide +kernel)⟩
  · exact ⟨_, .base (.str x), kit_ty (by decide +kernel)⟩
  · exact ⟨_, .base (.lst e), kit_ty (by decide +kernel)⟩
  · exact ⟨_, SqT.ty e, kit_ty (by decide +kernel)⟩
  · exact ⟨_, .base (.bl t), kit_ty (by decide +kernel)⟩
/-- is a point, by b -/
def PntB (K : PySem.W.Frag) (H : Hp) (v : V) (b : Bool) : Prop := (NoDict K H v ∧ b = false) ∨
  ∃ a kvs bs, v = .ref a ∧ H a = some (.dK kvs) ∧ (kvs.map (·.1)).Nodup ∧ kvs.length ≤ 900 ∧ Paired (EntPt K H) kvs bs ∧ b = bs.all id
/-- entries of a sum are entries of a point, or none -/
theorem ents_pt {K : PySem.W.Frag} {H : Hp} {kvs : List (Key × V)} {bs : List Bool} (h : Paired (EntB K H) kvs bs) : ∃ cs, Paired (EntPt K H) kvs cs ∧ (cs.all id = false → bs.all id = false) ∧
    (cs.all id = true → ∀ (i : Nat) (p : Key × V), kvs[i]? = some p → ∃ r n d, p.2 = .ref r ∧ FrT K H r n d ∧ 0 < d ∧ Int.gcd n d = 1 ∧ bs[i]? = some (decide (n ≠ 0))) := by
  induction h with
  | nil => exact ⟨[], .nil, fun z => by simp at z, fun _ i p e => by simp at e⟩
  | cons hd tl ih =>
    obtain ⟨cs, h1, h2, h3⟩ := ih
    have bad : ∀ {b : Bool}, b = false → ∀ bs : List Bool, (b :: bs).all id = false := fun e bs => by rw [e]; rfl
    have ff : ∀ {ccs : List Bool}, ¬ ((false :: ccs).all id = true) := fun z => by simp at z
    rcases hd with ⟨x, e, hx, nx, rfl⟩ | ⟨j, e, rfl⟩ | ⟨x, e, hx, ⟨fb, rfl⟩ | ⟨r, n, d, e2, fr, hd, hg, rfl⟩⟩
    · exact ⟨false :: cs, .cons (.inl ⟨x, e, hx, nx, rfl⟩) h1, fun _ => rfl, fun z => absurd z ff⟩
    · exact ⟨false :: cs, .cons (.inr (.inl ⟨j, e, rfl⟩)) h1, fun _ => rfl, fun z => absurd z ff⟩
    · exact ⟨false :: cs, .cons (.inr (.inr ⟨x, e, hx, fb⟩)) h1, fun _ => rfl, fun z => absurd z ff⟩
    · refine ⟨true :: cs, .cons (.inr (.inr ⟨x, e, hx, by rw [e2]; exact FracB.fr fr hd hg⟩)) h1, fun z => ?_, fun z i p hp => ?_⟩
      · rw [List.all_cons, h2 (by rw [List.all_cons] at z; exact z), Bool.and_false]
      · match i, hp with
        | 0, hp =>
          have e3 := Option.some.inj hp
          subst e3
          exact ⟨r, n, d, e2, fr, hd, hg, rfl⟩
        | i + 1, hp => exact h3 (by rw [List.all_cons] at z; exact z) i p hp
theorem ne_nought {n d : Int} (hgc : Int.gcd n d = 1) (hd : 0 < d) : (!(n == 0 && d == 1)) = decide (n ≠ 0) := by
  by_cases c0 : n = 0
  · have d1 : d = 1 := by
      rw [c0] at hgc
      have q1 : Int.gcd 0 d = d.natAbs := Int.gcd_zero_left ..
      omega
    rw [c0, d1]
    rfl
  · rw [decide_eq_true c0, beq_eq_false_iff_ne.mpr c0]
    rfl
section
variable {P : Program} {w : World} {K : PySem.W.Frag} {mg : Str → Option Value} {base : Heap}
def spFPt (K : PySem.W.Frag) (T : List Addr) : Sp := fun vs H Q _ => ∃ v b, vs = [v] ∧ PntB K H v b ∧ Tabs T H ∧ ∀ H', SameT T H H' → Q (.bl b) H'
def spFSum (K : PySem.W.Frag) (T : List Addr) : Sp := fun vs H Q _ => ∃ v b, vs = [v] ∧ SumB K H v b ∧ Tabs T H ∧ ∀ H', SameT T H H' → Q (.bl b) H'
/-- a sort, by b: a text or another plain thing -/
def SortB (v : V) (b : Bool) : Prop := flatV v = true ∧ b = inV v (sorts.map V.str)
/-- row_of of anything: C is NoRow -/
def spRow (K : PySem.W.Frag) (T : List Addr) (C : Addr) : Sp := fun vs H Q E => ∃ v1 v2 v3 b1 b2 b3, vs = [v1, v2, v3] ∧ Tabs T H ∧ SumB K H v1 b1 ∧ SortB v2 b2 ∧ FracB K H v3 b3 ∧
  ((b1 && b2 && b3) = false → ∀ H', SameT T H H' → E (.ref C) none H') ∧
  ((b1 && b2 && b3) = true → ∃ a kvs, v1 = .ref a ∧ H a = some (.dK kvs) ∧ ∀ H1, SameT T H H1 → ∀ c, H1 c = none → ∀ r, (upd H1 c (.dK kvs)) r = none → Q (.ref r) (upd (upd H1 c (.dK kvs)) r (.tup [.ref c, v2, v3])))
/-- is a row: a tuple of three by b -/
def spFRow (K : PySem.W.Frag) (T : List Addr) : Sp := fun vs H Q _ => ∃ u v1 v2 v3 b1 b2 b3, vs = [.ref u] ∧ H u = some (.tup [v1, v2, v3]) ∧ Tabs T H ∧ SumB K H v1 b1 ∧ SortB v2 b2 ∧ FracB K H v3 b3 ∧ ∀ H', SameT T H H' → Q (.bl (b1 && b2 && b3)) H'
theorem SumB.ktl {K : PySem.W.Frag} {H H' : Hp} {v : V} {b : Bool} (h : SumB K H v b) (k : KTL H H') (s : ∀ x o, H x = some o → H' x = some o) : SumB K H' v b := by
  rcases h with ⟨h, e⟩ | ⟨a, kvs, bs, e, ha, nd, kl, hp, e2⟩
  · refine .inl ⟨?_, e⟩
    rcases h with h | h | h | ⟨p, xs, e, h⟩ | ⟨p, xs, e, h⟩
    · exact .inl h
    · exact .inr (.inl h)
    · exact .inr (.inr (.inl h))
    · exact .inr (.inr (.inr (.inl ⟨p, xs, e, s _ _ h⟩)))
    · exact .inr (.inr (.inr (.inr ⟨p, xs, e, SqT.ktl h k⟩)))
  · refine .inr ⟨a, kvs, bs, e, s _ _ ha, nd, kl, ?_, e2⟩
    clear e2 ha nd kl e
    induction hp with
    | nil => exact .nil
    | cons hd tl ih => exact .cons (hd.ktl k) ih
end
end SS

namespace SS
open PySem PySem.Spec PyProof.Rows L2
section
variable {T : List Addr} {H H1 H' : Hp}
theorem Tabs.but2 {st c D : Addr} (h : Tabs T H) (y : StA st c H) (nD : H D = none) (w3 : ∀ x o, x ≠ st → x ≠ D → H x = some o → H' x = some o) : Tabs T H' := fun P hP => by
  obtain ⟨ps, e, r⟩ := h P hP
  refine ⟨ps, w3 _ _ (fun z => ?_) (ne_of_none e nD) e, r⟩
  obtain ⟨i, n, f, xs, h1, _⟩ := y
  rw [z, h1] at e
  cases e
theorem SameT.growX {p : Addr} {o u : HO} (s : SameT T H H1) (n : H p = none) (h : H1 p = some u) (nu : ∀ ps, u ≠ .tbl ps) : SameT T H (upd H1 p o) := by
  refine ⟨fun b x e nx => ?_, s.tab.upd h nu, fun {b} e => ?_⟩
  · rw [upd_ne (ne_of_none e n)]
    exact s.ext b x e nx
  · by_cases c : b = p
    · rw [c]
      exact n
    · rw [upd_ne c] at e
      exact s.free e
theorem paired_true {α : Type} {F : α → Bool → Prop} : ∀ {l : List α}, (∀ x ∈ l, F x true) → Paired F l (l.map fun _ => true)
  | [], _ => .nil
  | x :: l, h => .cons (h x (.head _)) (paired_true fun y hy => h y (.tail _ hy))
theorem DM.sumB {K : PySem.W.Frag} {m B : Nat} {a : Addr} {kvs : List (Key × V)} {f : Key → Int × Int} (h : DM True m H a kvs f) (ok : ∀ k, Okb B (f k)) (hm : m ≤ 900) : SumB K H (.ref a) true := by
  refine .inr ⟨a, kvs, kvs.map fun _ => true, rfl, h.1, h.2.1, Nat.le_trans h.2.2.1 hm, paired_true fun p hp => ?_, (List.all_eq_true.mpr fun x hx => ?_).symm⟩
  · obtain ⟨⟨x, e1, hx⟩, ⟨r, e2, e3⟩, nz⟩ := h.2.2.2.1 p hp
    exact .inr (.inr ⟨x, e1, hx, .inr ⟨r, _, _, e2, FrT.of e3, (ok _).1, (ok _).2.2.2, (decide_eq_true (nz trivial)).symm⟩⟩)
  · obtain ⟨_, _, e⟩ := List.mem_map.mp hx
    rw [← e]
    rfl
end
theorem sort_in : ∀ s ∈ sorts, inV (.str s) (sorts.map V.str) = true := by decide +kernel
end SS

namespace SS
open PySem PySem.Spec PyProof.Rows L2
/-! ### rows: a tuple of a sum, a sort and a bound -/
def RowT (K : PySem.W.Frag) (m : Nat) (H : Hp) (r a : Addr) (kvs : List (Key × V)) (f : Key → Int × Int) (srt : Str) (num : Int × Int) : Prop :=
  ∃ n, H r = some (.tup [.ref a, .str srt, .ref n]) ∧ DM True m H a kvs f ∧ FrT K H n num.1 num.2 ∧ srt ∈ sorts
section
variable {K : PySem.W.Frag} {m m' : Nat} {H H' : Hp} {r r' a a' : Addr} {kvs ls : List (Key × V)} {f : Key → Int × Int} {srt : Str} {num : Int × Int} {T : List Addr}
theorem RowT.same (h : RowT K m H r a kvs f srt num) (s : Same H H') : RowT K m H' r a kvs f srt num := by
  obtain ⟨n, h1, h2, h3, h4⟩ := h
  exact ⟨n, s _ _ h1, h2.same s, h3.new s, h4⟩
theorem RowT.sameT (h : RowT K m H r a kvs f srt num) (s : SameT T H H') : RowT K m H' r a kvs f srt num := by
  obtain ⟨n, h1, h2, h3, h4⟩ := h
  exact ⟨n, s.ext _ _ h1 (fun ps z => by cases z), h2.sameT s, h3.ktl s.ktl, h4⟩
theorem KTL.but {st c : Addr} (b : But st H H') (y : StA st c H) (xs0 : ∀ b' xs, H b' = some (.lst xs) → b' ≠ st → H' b' = some (.lst xs)) : True := trivial
theorem FrT.but {st c p : Addr} {n d : Int} (h : FrT K H p n d) (b : But st H H') (y : StA st c H) : FrT K H' p n d := by
  obtain ⟨h1, h2⟩ := h
  have ne : ∀ o, H p = some o → (∀ xs, o ≠ .lst xs) → p ≠ st := fun o e no z => by
    obtain ⟨i, n, ff, xs, g1, _⟩ := y
    rw [z, g1] at e
    exact no _ (Option.some.inj e).symm
  rcases h1 with (h1 | ⟨o, h1⟩) | ⟨o, its, mm, k1, k2, k3⟩
  · exact FrT.of (b.tup y h1)
  · have e := b _ _ (ne _ h1 fun xs z => by cases z) h1
    exact ⟨.inl (.inr ⟨o, e⟩), .fTuple e⟩
  · exact ⟨.inr ⟨o, its, mm, k1, k2, k3⟩, .kTuple k1 k2⟩
theorem RowT.but {st c : Addr} (h : RowT K m H r a kvs f srt num) (b : But st H H') (y : StA st c H) : RowT K m H' r a kvs f srt num := by
  obtain ⟨n, h1, h2, h3, h4⟩ := h
  exact ⟨n, b.tup y h1, h2.but b y, h3.but b y, h4⟩
theorem RowT.mono (h : RowT K m H r a kvs f srt num) (l : m ≤ m') : RowT K m' H r a kvs f srt num := by
  obtain ⟨n, h1, h2, h3⟩ := h
  exact ⟨n, h1, h2.mono l, h3⟩
/-- another dict changes -/
theorem RowT.upd {b : Addr} {ks : List (Key × V)} {o : HO} (h : RowT K m H r a kvs f srt num) (hb : H b = some (.dK ks)) (n : a ≠ b) : RowT K m (upd H b o) r a kvs f srt num := by
  obtain ⟨n', h1, h2, h3, h4⟩ := h
  exact ⟨n', keep_d hb _ _ h1, h2.upd hb n, h3.ktl (KTL.dict hb), h4⟩
/-! ### equal things -/
theorem xv_int (k : Nat) (i : Int) : XV K H (k + 1) (.int i) (.int i) := .inl ⟨rfl, rfl⟩
theorem xv_str (k : Nat) (x : Str) : XV K H (k + 1) (.str x) (.str x) := .inl ⟨rfl, rfl⟩
theorem xv_fr {p q : Addr} {n d : Int} (k : Nat) (h : FrT K H p n d) (h' : FrT K H q n d) : XV K H (k + 2) (.ref p) (.ref q) :=
  .inr (.inr (.inr ⟨p, q, _, _, rfl, rfl, h.1, h'.1, .cons (xv_int k _) (.cons (xv_int k _) .nil)⟩))
theorem xv_dm (k : Nat) (h : DM True m H a kvs f) (h' : DM True m' H a' ls f) : XV K H (k + 3) (.ref a) (.ref a') := by
  obtain ⟨x, y, kx, ky, e1, e2, hx, hy, hl, hp⟩ := deq_of h h'
  cases e1
  cases e2
  refine .inr (.inr (.inl (.inr ⟨a, a', kx, ky, rfl, rfl, hx, hy, hl, fun p hpm => ?_⟩)))
  obtain ⟨u, eu, p1, p2, n, d, e3, e4, g1, g2⟩ := hp p hpm
  refine ⟨u, eu, ?_⟩
  rw [e3, e4]
  exact xv_fr k (FrT.of g1) (FrT.of g2)
theorem xr_row (k : Nat) (h : RowT K m H r a kvs f srt num) (h' : RowT K m' H r' a' ls f srt num) : XR K H (XV K H (k + 3)) (.ref r) (.ref r') := by
  obtain ⟨n, h1, h2, h3, _⟩ := h
  obtain ⟨n', g1, g2, g3, _⟩ := h'
  exact .inr ⟨r, r', _, _, rfl, rfl, SqT.of h1, SqT.of g1, .cons (xv_dm k h2 g2) (.cons (xv_str _ _) (.cons (xv_fr (k + 1) h3 g3) .nil))⟩
theorem ne_row (k : Nat) (hk : k ≤ 40) {Q : VK} (h : RowT K m H r a kvs f srt num) (h' : RowT K m' H r' a' ls f srt num) (q : Q (.bl false) H) : rNeXT K (.ref r) (.ref r') H Q := by
  obtain ⟨n, h1, h2, h3, _⟩ := h
  obtain ⟨n', g1, g2, g3, _⟩ := h'
  exact ⟨k + 3, r, r', _, _, by omega, rfl, rfl, SqT.of h1, SqT.of g1, .cons (xv_dm k h2 g2) (.cons (xv_str _ _) (.cons (xv_fr (k + 1) h3 g3) .nil)), q⟩
end
theorem sorts_flat : (sorts.map V.str).all flatV = true := flat_strs sorts
section
variable {P : Program} {w : World} {K : PySem.W.Frag} {mg : Str → Option Value} {base : Heap}
def spIsRow (K : PySem.W.Frag) : Sp := fun vs H Q _ => ∃ (r a : Addr) (kvs : List (Key × V)) (f : Key → Int × Int) (srt : Str) (num : Int × Int) (m B : Nat), vs = [.ref r] ∧ RowT K m H r a kvs f srt num ∧ m ≤ 900 ∧ (∀ k, Okb B (f k)) ∧ Okb B num ∧ ∀ H', Same H H' → Q (.bl true) H'
def spFar : Sp := fun vs H Q _ => ∃ st c : Addr, vs = [.ref st] ∧ StA st c H ∧ ∀ H' p (num : Int × Int), But st H H' → StA st c H' → H' p = some (.tup [.int num.1, .int num.2]) → Okb 100 num → num.1 ≠ 0 → Q (.ref p) H'
def spRowLike (K : PySem.W.Frag) : Sp := fun vs H Q _ => ∃ (r a r' a' : Addr) (kvs ls : List (Key × V)) (f : Key → Int × Int) (srt : Str) (num : Int × Int) (m m' B : Nat), vs = [.ref r, .ref r'] ∧ RowT K m H r a kvs f srt num ∧ RowT K m' H r' a' ls f srt num ∧ m ≤ 900 ∧ (∀ k, Okb B (f k)) ∧ Okb B num ∧ ∀ H', Same H H' → Q (.bl true) H'
end
end SS




namespace SS
open PySem PySem.Spec PyProof.Rows L2 NumText LamX KyS
/-! ### rows by name: what is handed in, what is told -/
/-- nothing there, or a table -/
def Fr0 (H : Hp) (a : Addr) : Prop := ∀ u, H a = some u → ∃ ps, u = .tbl ps
theorem Fr0.of {H : Hp} {a : Addr} (h : H a = none) : Fr0 H a := fun u e => by rw [h] at e; cases e
theorem Fr0.ne {H : Hp} {a b : Addr} {o : HO} (h : Fr0 H a) (e : H b = some o) (n : ∀ ps, o ≠ .tbl ps) : b ≠ a := fun z => by
  obtain ⟨ps, q⟩ := h o (by rw [← z]; exact e)
  exact n ps q
theorem Fr0.back {H H' : Hp} {a : Addr} (e : ExtN H H') (h : Fr0 H' a) : Fr0 H a := fun u q => by
  by_cases z : ∃ ps, u = .tbl ps
  · exact z
  · exact h u (e _ _ q fun ps y => z ⟨ps, y⟩)
theorem ExtN.same {H H' : Hp} (s : Same H H') : ExtN H H' := fun b o e _ => s b o e
structure Rw where
  f : Key → Int × Int
  s : Str
  n : Int × Int
/-- a pair (name, row) in a heap: the pair's address, its name, the row, the row's address, its sum's -/
structure Ent where
  t : Addr
  x : Str
  R : Rw
  r : Addr
  a : Addr
def Ent.it (e : Ent) : KyS.It := (e.t, e.x, [V.ref e.r])
def RowE (K : PySem.W.Frag) (m : Nat) (H : Hp) (r a : Addr) (R : Rw) : Prop := ∃ kvs, RowT K m H r a kvs R.f R.s R.n
def EntOk (K : PySem.W.Frag) (m : Nat) (H : Hp) (e : Ent) : Prop := H e.t = some (.tup [.str e.x, .ref e.r]) ∧ RowE K m H e.r e.a e.R
theorem FrT.extN {K : PySem.W.Frag} {H H' : Hp} {p : Addr} {n d : Int} (h : FrT K H p n d) (e : ExtN H H') : FrT K H' p n d := by
  obtain ⟨h1, h2⟩ := h
  rcases h1 with (h1 | ⟨o, h1⟩) | ⟨o, its, m, k1, k2, k3⟩
  · have q := e _ _ h1 fun ps => by simp
    exact ⟨.inl (.inl q), .base (.tup q)⟩
  · have q := e _ _ h1 fun ps => by simp
    exact ⟨.inl (.inr ⟨o, q⟩), .fTuple q⟩
  · exact ⟨.inr ⟨o, its, m, k1, k2, k3⟩, .kTuple k1 k2⟩
theorem DM.extN {z : Prop} {m : Nat} {H H' : Hp} {a : Addr} {kvs : List (Key × V)} {f : Key → Int × Int} (h : DM z m H a kvs f) (e : ExtN H H') : DM z m H' a kvs f := by
  obtain ⟨h1, h2, h3, h4, h5⟩ := h
  refine ⟨e _ _ h1 fun ps => by simp, h2, h3, fun p hp => ?_, h5⟩
  obtain ⟨e1, ⟨r, e2, e3⟩, e4⟩ := h4 p hp
  exact ⟨e1, ⟨r, e2, e _ _ e3 fun ps => by simp⟩, e4⟩
theorem RowE.extN {K : PySem.W.Frag} {m : Nat} {H H' : Hp} {r a : Addr} {R : Rw} (h : RowE K m H r a R) (e : ExtN H H') : RowE K m H' r a R := by
  obtain ⟨kvs, n, h1, h2, h3, h4⟩ := h
  exact ⟨kvs, n, e _ _ h1 fun ps => by simp, h2.extN e, h3.extN e, h4⟩
theorem EntOk.extN {K : PySem.W.Frag} {m : Nat} {H H' : Hp} {e : Ent} (h : EntOk K m H e) (x : ExtN H H') : EntOk K m H' e := ⟨x _ _ h.1 fun ps => by simp, h.2.extN x⟩
theorem perm_map_inv {α β : Type} (f : α → β) {ys l : List β} (h : ys.Perm l) : ∀ {zs : List α}, l = zs.map f → ∃ ws : List α, ws.Perm zs ∧ ys = ws.map f := by
  induction h with
  | nil =>
    intro zs e
    cases zs with
    | nil => exact ⟨[], .refl _, rfl⟩
    | cons _ _ => cases e
  | cons y _ ih =>
    intro zs e
    cases zs with
    | nil => cases e
    | cons z zs =>
      rw [List.map_cons] at e
      injection e with e1 e2
      obtain ⟨ws, p, q⟩ := ih e2
      exact ⟨z :: ws, p.cons _, by rw [List.map_cons, ← q, ← e1]⟩
  | swap x y l =>
    intro zs e
    match zs, e with
    | z1 :: z2 :: zs, e =>
      simp only [List.map_cons, List.cons.injEq] at e
      obtain ⟨e1, e2, e3⟩ := e
      exact ⟨z2 :: z1 :: zs, .swap _ _ _, by rw [e1, e2, e3]; rfl⟩
  | trans _ _ ih1 ih2 =>
    intro zs e
    obtain ⟨ws, p, q⟩ := ih2 e
    obtain ⟨vs, p2, q2⟩ := ih1 q
    exact ⟨vs, p2.trans p, q2⟩
theorem keys_nm {z : Prop} {m : Nat} {H : Hp} {a : Addr} {kvs : List (Key × V)} {f : Key → Int × Int} (h : DM z m H a kvs f) : kvs.map (·.1) = (kvs.map fun p => nmOf p.1).map Sum.inr := by
  rw [List.map_map]
  refine List.map_congr_left fun p hp => ?_
  obtain ⟨⟨x, e, _⟩, _⟩ := h.2.2.2.1 p hp
  show p.1 = Sum.inr (nmOf p.1)
  rw [e]
  rfl
theorem nm_of_mem {z : Prop} {m : Nat} {H : Hp} {a : Addr} {kvs : List (Key × V)} {f : Key → Int × Int} (h : DM z m H a kvs f) {y : Str} (hy : y ∈ kvs.map fun p => nmOf p.1) : NmOk y ∧ ∃ r, valV kvs (.inr y) = some (.ref r) ∧ H r = some (.tup [.int (f (.inr y)).1, .int (f (.inr y)).2]) := by
  obtain ⟨p, hp, rfl⟩ := List.mem_map.mp hy
  obtain ⟨⟨x, e, ox⟩, ⟨r, e2, e3⟩, _⟩ := h.2.2.2.1 p hp
  have ev := val_nodup h.2.1 p hp
  rw [e] at ev e3
  have en : nmOf p.1 = x := by rw [e]; rfl
  rw [en]
  exact ⟨ox, r, by rw [ev, e2], e3⟩
/-- a dict comprehension over a list that stays -/
theorem dc_list {K : PySem.W.Frag} {a : Addr} {xs : List V} {g : TG} {tt : TT} {tk tv : TE} {vs : List Nat} {σ : L2.St} {H1 : Hp} {D : Addr} {Qd : Hp → Prop} (Pv : Nat → Hp → Prop) (h0 : Pv 0 (upd H1 D (.dK []))) (hl : ∀ i H, i ≤ xs.length → Pv i H → SqL K H a xs)
    (hs : ∀ i x H, xs[i]? = some x → Pv i H → g x (wipe σ vs) H fun σ2 H2 => wipe σ2 vs = wipe σ vs ∧ tt σ2 H2 fun b H3 => if b = true then tk σ2 H3 fun y H4 => tv σ2 H4 fun z H5 => ∃ kvs k, y = kV k ∧ H5 D = some (.dK kvs) ∧ kvs.length < sizeLine ∧ Pv (i + 1) (upd H5 D (.dK (putK kvs k z))) else Pv (i + 1) H3)
    (hd : ∀ H, Pv xs.length H → Qd H) :
    ∃ W : Nat → Nat → Hp → Prop, (∃ m, W 0 m (upd H1 D (.dK []))) ∧ ∀ i m H, W i m H →
      ((Itl K a).stop i H ∧ Qd H) ∨ ((Itl K a).go i H ∧ ∃ Nx : Hp → Prop, (∀ H', Nx H' → ∃ m', m' < m ∧ W (i + 1) m' H') ∧ ∀ x H', (Itl K a).yld i H x H' → g x (wipe σ vs) H' fun σ2 H2 => wipe σ2 vs = wipe σ vs ∧ tt σ2 H2 fun b H3 =>
        if b = true then tk σ2 H3 fun y H4 => tv σ2 H4 fun z H5 => ∃ kvs k, y = kV k ∧ H5 D = some (.dK kvs) ∧ kvs.length < sizeLine ∧ Nx (upd H5 D (.dK (putK kvs k z))) else Nx H3) := by
  refine ⟨fun i m H => m = xs.length - i ∧ i ≤ xs.length ∧ Pv i H, ⟨_, rfl, Nat.zero_le _, h0⟩, fun i m H hW => ?_⟩
  obtain ⟨em, hi, p⟩ := hW
  have q := hl i H hi p
  by_cases hlt : i < xs.length
  · refine .inr ⟨⟨xs, xs[i], q, by simp [hlt]⟩, Pv (i + 1), fun H' p' => ⟨xs.length - (i + 1), by omega, rfl, hlt, p'⟩, fun x H' y => ?_⟩
    obtain ⟨e, y⟩ := y
    subst e
    exact hs i x H' (y xs q) p
  · have e : i = xs.length := by omega
    subst e
    exact .inl ⟨⟨xs, q, Nat.le_refl _⟩, hd H p⟩
/-- f on some names, nought elsewhere -/
noncomputable def rst (f : Key → Int × Int) (l : List Str) (k : Key) : Int × Int := open Classical in if k ∈ (l.map fun x => (Sum.inr x : Key)) then f k else (0, 1)
theorem rst_in {f : Key → Int × Int} {l : List Str} {k : Key} (h : k ∈ l.map fun x => (Sum.inr x : Key)) : rst f l k = f k := by
  unfold rst
  exact if_pos h
theorem rst_out {f : Key → Int × Int} {l : List Str} {k : Key} (h : ¬ k ∈ l.map fun x => (Sum.inr x : Key)) : rst f l k = (0, 1) := by
  unfold rst
  exact if_neg h
theorem rst_snoc {f : Key → Int × Int} {l : List Str} {x : Str} (k : Key) : rst f (l ++ [x]) k = if k = .inr x then f (.inr x) else rst f l k := by
  by_cases c : k = .inr x
  · subst c
    rw [if_pos rfl, rst_in (by simp)]
  · rw [if_neg c]
    by_cases d : k ∈ l.map fun x => (Sum.inr x : Key)
    · rw [rst_in d, rst_in (by rw [List.map_append]; exact List.mem_append_left _ d)]
    · rw [rst_out d, rst_out]
      intro z
      rw [List.map_append] at z
      rcases List.mem_append.mp z with z | z
      · exact d z
      · exact c (by simpa using z)
theorem rst_nil {f : Key → Int × Int} (k : Key) : rst f [] k = (0, 1) := rst_out (by simp)
end SS
namespace SS
open PySem PySem.Spec PyProof.Rows L2 NumText LamX KyS
section
variable {P : Program} {w : World} {K : PySem.W.Frag} {mg : Str → Option Value} {base : Heap}
/-- the pairs stand in a list or a tuple -/
def SqA (K : PySem.W.Frag) (H : Hp) (a : Addr) (xs : List V) : Prop := SqL K H a xs ∨ SqT K H a xs
theorem SqA.extN {H H' : Hp} {a : Addr} {xs : List V} (h : SqA K H a xs) (e : ExtN H H') : SqA K H' a xs := h.imp (fun z => KyS.SqL.extN z e) fun z => KyS.SqT.extN z e
/-- a dict from names to rows, all new since H -/
def NewD (K : PySem.W.Frag) (m : Nat) (H H' : Hp) (D : Addr) (es : List Ent) : Prop :=
  H' D = some (.dK (es.map fun e => (.inr e.x, V.ref e.r))) ∧ (∀ e ∈ es, RowE K m H' e.r e.a e.R ∧ Fr0 H e.a ∧ e.a ≠ D) ∧ (es.map (·.a)).Nodup ∧ Fr0 H D
theorem RowE.but {m : Nat} {H H' : Hp} {r a D : Addr} {R : Rw} {l : List (Key × V)} (h : RowE K m H r a R) (hD : H D = some (.dK l)) (k : ∀ b o, b ≠ D → H b = some o → H' b = some o) (n : a ≠ D) : RowE K m H' r a R := by
  have tp : ∀ b xs, H b = some (.tup xs) → H' b = some (.tup xs) := fun b xs e => k _ _ (ne_of e hD (fun z => by cases z)) e
  obtain ⟨kvs, q, h1, h2, h3, h4⟩ := h
  refine ⟨kvs, q, tp _ _ h1, ?_, ?_, h4⟩
  · obtain ⟨d1, d2, d3, d4, d5⟩ := h2
    refine ⟨k _ _ n d1, d2, d3, fun p hp => ?_, d5⟩
    obtain ⟨e1, ⟨r', e2, e3⟩, e4⟩ := d4 p hp
    exact ⟨e1, ⟨r', e2, tp _ _ e3⟩, e4⟩
  · obtain ⟨f1, f2⟩ := h3
    rcases f1 with (f1 | ⟨o, f1⟩) | ⟨o, its, m, k1, k2, k3⟩
    · exact ⟨.inl (.inl (tp _ _ f1)), .base (.tup (tp _ _ f1))⟩
    · have q := k _ _ (ne_of f1 hD (fun z => by cases z)) f1
      exact ⟨.inl (.inr ⟨o, q⟩), .fTuple q⟩
    · exact ⟨.inr ⟨o, its, m, k1, k2, k3⟩, .kTuple k1 k2⟩
theorem val_ents {gs : List Ent} {x : Str} (h : x ∉ gs.map (·.x)) : valV (gs.map fun e => ((Sum.inr e.x : Key), V.ref e.r)) (.inr x) = none := by
  cases q : valV (gs.map fun e => ((Sum.inr e.x : Key), V.ref e.r)) (.inr x) with
  | none => rfl
  | some v =>
    obtain ⟨p, hp, e1, _⟩ := mem_valV q
    obtain ⟨g, hg, rfl⟩ := List.mem_map.mp hp
    exact absurd (List.mem_map.mpr ⟨g, hg, Sum.inr.inj e1⟩) h
theorem NewD.put {m : Nat} {H H' H7 : Hp} {D : Addr} {gs : List Ent} {e : Ent} (h : NewD K m H H' D gs) (s : Same H' H7) (r : RowE K m H7 e.r e.a e.R) (fr : Fr0 H e.a) (aD : e.a ≠ D) (fa : ∀ g ∈ gs, g.a ≠ e.a) (fx : e.x ∉ gs.map (·.x)) :
    NewD K m H (upd H7 D (.dK (putK (gs.map fun e => (.inr e.x, V.ref e.r)) (.inr e.x) (.ref e.r)))) D (gs ++ [e]) := by
  obtain ⟨h1, h2, h3, h4⟩ := h
  have hD := s _ _ h1
  refine ⟨?_, fun g hg => ?_, ?_, h4⟩
  · rw [upd_same, putK_new _ (val_ents fx), List.map_append]
    rfl
  · rcases List.mem_append.mp hg with hg | hg
    · obtain ⟨a1, a2, a3⟩ := h2 g hg
      exact ⟨RowE.but (RowE.extN a1 (ExtN.same s)) hD (fun b o n q => by rw [upd_ne n]; exact q) a3, a2, a3⟩
    · obtain rfl := List.mem_singleton.mp hg
      exact ⟨RowE.but r hD (fun b o n q => by rw [upd_ne n]; exact q) aD, fr, aD⟩
  · rw [List.map_append]
    refine List.nodup_append.mpr ⟨h3, by simp, fun x hx y hy => ?_⟩
    obtain ⟨g, hg, rfl⟩ := List.mem_map.mp hx
    obtain rfl : y = e.a := by simpa using hy
    exact fa g hg
def spRbn (K : PySem.W.Frag) (T : List (Addr × Str)) : Sp := fun vs H Q _ => ∃ (a : Addr) (zs : List Ent) (m : Nat), vs = [.ref a] ∧ SqA K H a (zs.map fun z => V.ref z.t) ∧ (∀ z ∈ zs, EntOk K m H z) ∧ (zs.map (·.x)).Nodup ∧ zs.length ≤ 400 ∧ m < 60 ∧ LamX.Tabs T H ∧
  ∀ H' D es, ExtN H H' → LamX.Tabs T H' → NewD K m H H' D es → (es.map fun e => (e.x, e.R)).Perm (zs.map fun e => (e.x, e.R)) → (es.map (·.x)).Pairwise leS → Q (.ref D) H'
theorem scRbn : FnScope ["rows", "told", "name", "row", "one", "sort", "bound", "unknown"] ["rows"] (defScope sRbn) := ⟨rfl, rfl, rfl, by decide +kernel, rfl, by decide +kernel, by decide +kernel⟩
theorem ok_rbn {f c Pt : Addr} {fd : FuncData} {T : List (Addr × Str)} (F : Fun K "rows_by_name" "rows_by_name" sRbn f fd) (hc : fd.code = .ref c) (TB : TabB base mg c Pt) (hT : (Pt, Str.ofString "rows_by_name" ++ ".<locals>." ++ "<lambda>") ∈ T) (hu : ∀ p ∈ T, p.1 = Pt → p.2 = Str.ofString "rows_by_name" ++ ".<locals>." ++ "<lambda>")
    (ms : mg "sorted" = none) : FnOk P w K mg base CX0 4 f fd ["rows"] (spRbn K T) := by
  refine Fun.okC F hc scRbn (fun vs H Q E h => ?_) (fun cdv A outer s H vs Q E hcd hr h => ?_)
  · obtain ⟨_, _, _, rfl, _⟩ := h
    rfl
  · obtain ⟨a, zs, m, rfl, hS, hz, nd, hl, hm, ht, q⟩ := h
    have hu' := hu_of hr
    refine ⟨_, pss_cons (ps_set (i := 1) scRbn.nd rfl (.inl rfl) pe_dnewK)
      (pss_cons (ps_for PassesOwn.never rfl (pi_list (pe_sortedKey0 (k := 1) (T := T) (by rfl) ms (pv 0) TB hcd hT hu hr ⟨rfl, rfl, rfl, rfl⟩ rfl (fun _ _ _ _ _ _ => rfl)))
          (pg_tup rfl (pgs_cons (pg_name (i := 2) scRbn.nd rfl (.inl rfl)) (pgs_cons (pg_name (i := 3) scRbn.nd rfl (.inl rfl)) pgs_nil)))
        (pss_cons (ps_asg (pv 3) (pg_tup rfl (pgs_cons (pg_name (i := 4) scRbn.nd rfl (.inr rfl)) (pgs_cons (pg_name (i := 5) scRbn.nd rfl (.inl rfl)) (pgs_cons (pg_name (i := 6) scRbn.nd rfl (.inl rfl)) pgs_nil)))))
        (pss_one (ps_dput hu' (pv 1) (pv 2) (pe_tup (pa_cons (pe_dc (own := [("unknown", 7)]) (g := gName 7) (tt := tYes) rfl scRbn.nd (pi_list (pe_callB (call_sortedD rfl) (by rfl) ms (by decide +kernel) (pa_cons (pv 4) pa_nil))) (blkOk_by (by rfl))
            (fun _ _ _ _ _ => pg_name (i := 7) scRbn.nd rfl (Or.inl rfl)) (fun _ _ _ _ _ => pts_nil)
            (fun _ _ _ _ _ => pv 7) (fun _ _ _ _ _ => pe_dget hu' (pv 4) (pv 7) (fun _ _ => rfl))) (pa_cons (pv 5) (pa_cons (pv 6) pa_nil)))) rfl))))
      (pss_one (ps_ret (pv 1)))), ?_⟩
    intro D nD
    have s0 := same_new (o := .dK []) nD
    have e0 : ExtN H (upd H D (.dK [])) := ExtN.same s0
    have eZ : (zs.map Ent.it).map (fun z => V.ref z.1) = zs.map fun z => V.ref z.t := by
      rw [List.map_map]
      rfl
    refine ⟨_, rfl, a, zs.map Ent.it, rfl, by rw [eZ]; exact hS.extN e0, fun z hz' => ?_, ht.ext s0, fun H3 L ys eN T3 pm srt nL hL => ?_⟩
    · obtain ⟨e, he, rfl⟩ := List.mem_map.mp hz'
      exact SqT.of (s0 _ _ (hz e he).1)
    obtain ⟨es, pe, rfl⟩ := perm_map_inv Ent.it pm rfl
    have eE : (es.map Ent.it).map (fun z => V.ref z.1) = es.map fun z => V.ref z.t := by
      rw [List.map_map]
      rfl
    have eS : ((es.map Ent.it).map fun z => z.2.1) = es.map (·.x) := by
      rw [List.map_map]
      rfl
    rw [eE] at hL
    rw [eS] at srt
    have hD3 : H3 D = some (.dK []) := eN _ _ upd_same fun ps => by simp
    have eH3 : ExtN H H3 := e0.trans eN
    have hLD : L ≠ D := fun z => by rw [z, hD3] at hL; cases hL
    have hes : ∀ e ∈ es, EntOk K m H e := fun e he => hz e (pe.mem_iff.mp he)
    have nde : (es.map (·.x)).Nodup := (pe.map _).nodup_iff.mpr nd
    have lle : es.length ≤ 400 := by rw [pe.length_eq]; exact hl
    refine ⟨L, rfl, ⟨_, SqL.of hL⟩, for_list (K := K) (a := L) (xs := es.map fun z => V.ref z.t) (fun i σ H' => ∃ (y2 y3 y4 y5 y6 y7 : Option V) (gs : List Ent), σ = [some (.ref a), some (.ref D), y2, y3, y4, y5, y6, y7] ∧
        (∀ b o, b ≠ D → H3 b = some o → H' b = some o) ∧ NewD K m H H' D gs ∧ (gs.map fun e => (e.x, e.R)) = (es.take i).map fun e => (e.x, e.R))
      ⟨none, none, none, none, none, none, [], rfl, fun b o _ e => e, ⟨hD3, fun e he => (by cases he), List.nodup_nil, Fr0.of nD⟩, rfl⟩ (fun i σ H' _ hW => ?_) ?_ ?_⟩
    · obtain ⟨_, _, _, _, _, _, _, _, k1, _⟩ := hW
      exact SqL.of (k1 _ _ hLD hL)
    · rintro i y σ H4 hy ⟨y2, y3, y4, y5, y6, y7, gs, rfl, k1, hN, hg⟩
      obtain ⟨e, hei, rfl⟩ : ∃ e, es[i]? = some e ∧ y = .ref e.t := by
        rw [List.getElem?_map] at hy
        cases e : es[i]? with
        | none =>
          rw [e] at hy
          cases hy
        | some r =>
          rw [e] at hy
          exact ⟨r, rfl, (Option.some.inj hy).symm⟩
      have hem := List.mem_of_getElem? hei
      obtain ⟨ht1, kvs, n, hr1, hd1, hf1, hs1⟩ := hes e hem
      have kk : ∀ b o, (∀ ps, o ≠ .tbl ps) → H b = some o → H4 b = some o := fun b o nt eb => k1 _ _ (ne_of_none eb nD) (eH3 _ _ eb nt)
      have x4 : ExtN H H4 := fun b o eb nt => kk b o nt eb
      have d4 := hd1.extN x4
      have aD : e.a ≠ D := ne_of_none hd1.1 nD
      refine ⟨e.t, _, rfl, SqT.of (kk _ _ (fun ps => by simp) ht1), rfl, _, _, rfl, _, _, rfl, rfl, ?_⟩
      refine ⟨_, rfl, e.r, _, rfl, SqT.of (kk _ _ (fun ps => by simp) hr1), rfl, _, _, rfl, _, _, rfl, _, _, rfl, rfl, ?_⟩
      have kl : kvs.length ≤ m := hd1.2.2.1
      have ln : (kvs.map fun p => nmOf p.1).length = kvs.length := List.length_map ..
      refine ⟨_, rfl, e.a, kvs, (kvs.map fun p => nmOf p.1), rfl, .inl d4.1, keys_nm d4, by rw [ln]; omega, fun ys p perm srt' np => ?_⟩
      have s5 := same_new (o := .lst (ys.map V.str)) np
      have d5 := d4.same s5
      refine ⟨p, rfl, ⟨_, SqL.of upd_same⟩, fun D2 nD2 => ?_⟩
      have s6 := same_new (o := .dK []) nD2
      have pD2 : p ≠ D2 := ne_of_none upd_same nD2
      have yl : ys.length = kvs.length := by rw [perm.length_eq, ln]
      refine dc_list (K := K) (a := p) (xs := ys.map V.str) (fun j H' => ∃ ks, (∀ b o, b ≠ D2 → upd H4 p (.lst (ys.map V.str)) b = some o → H' b = some o) ∧ DM True j H' D2 ks (rst e.R.f (ys.take j)))
        ⟨[], fun b o n eb => by rw [upd_ne n]; exact eb, (dm_new upd_same).fn fun k => rst_nil k⟩ (fun j H' _ hW => ?_) ?_ ?_
      · obtain ⟨_, k2, _⟩ := hW
        exact SqL.of (k2 _ _ pD2 upd_same)
      · rintro j yv H6 hy ⟨ks, k2, dm⟩
        obtain ⟨y, hyi, rfl⟩ : ∃ y, ys[j]? = some y ∧ yv = .str y := by
          rw [List.getElem?_map] at hy
          cases e : ys[j]? with
          | none =>
            rw [e] at hy
            cases hy
          | some y =>
            rw [e] at hy
            exact ⟨y, rfl, (Option.some.inj hy).symm⟩
        obtain ⟨oy, r, ev, er⟩ := nm_of_mem d5 (perm.mem_iff.mp (List.mem_of_getElem? hyi))
        have jl : j < ys.length := (List.getElem?_eq_some_iff.mp hyi).1
        have aD2 : e.a ≠ D2 := ne_of_none d5.1 nD2
        have a6 := k2 _ _ aD2 d5.1
        have r6 := k2 _ _ (ne_of_none er nD2) er
        have nz : (e.R.f (.inr y)).1 ≠ 0 := by
          obtain ⟨q, hq, e1, e2⟩ := mem_valV ev
          have z := (d5.2.2.2.1 q hq).2.2 trivial
          rw [e1] at z
          exact z
        have dp := dm.put (x := y) (r := r) (v := e.R.f (.inr y)) oy r6 (fun _ => nz)
        refine ⟨rfl, _, rfl, _, rfl, _, rfl, e.a, _, rfl, .inl ⟨kvs, .inr y, .inl a6, rfl, ev.symm⟩, ks, .inr y, rfl, dm.1, small1000 (by have := dm.2.2.1; omega), _, ?_, dp.fn fun k => ?_⟩
        · intro b o n eb
          rw [upd_ne n]
          exact k2 b o n eb
        · have tk : ys.take (j + 1) = ys.take j ++ [y] := by
            rw [List.take_add_one, hyi]
            rfl
          rw [tk]
          exact rst_snoc k
      · rintro H6 ⟨ks, k2, dm⟩
        rw [List.length_map, List.take_length] at dm
        have dmf : DM True m H6 D2 ks e.R.f := (dm.mono (by omega)).fn fun k => by
          by_cases c : k ∈ ys.map fun x => (Sum.inr x : Key)
          · exact (rst_in c).symm
          · rw [rst_out c]
            refine hd1.out fun z => c ?_
            rw [keys_nm hd1] at z
            obtain ⟨x, hx, rfl⟩ := List.mem_map.mp z
            exact List.mem_map.mpr ⟨x, perm.mem_iff.mpr hx, rfl⟩
        have D2n : D2 ≠ D := by
          intro z
          have q1 := s5 _ _ hN.1
          rw [← z, nD2] at q1
          cases q1
        have D2H : Fr0 H D2 := fun u eb => by
          by_cases z : ∃ ps, u = .tbl ps
          · exact z
          · have q1 := s5 _ _ (kk _ _ (fun ps y => z ⟨ps, y⟩) eb)
            rw [nD2] at q1
            cases q1
        have k6 : ∀ b o, H4 b = some o → H6 b = some o := fun b o eb => k2 _ _ (ne_of_none (s5 _ _ eb) nD2) (s5 _ _ eb)
        have hD6 := k6 _ _ hN.1
        have n4 := (x4 : ExtN H H4)
        have f6 : FrT K H6 n e.R.n.1 e.R.n.2 := hf1.extN fun b o eb nt => k6 _ _ (kk _ _ nt eb)
        refine ⟨_, rfl, _, rfl, (by show 3 ≤ sizeLine; decide), fun t nt => ?_⟩
        have s7 := same_new (o := .tup [.ref D2, .str e.R.s, .ref n]) nt
        have S7 : Same H4 (upd H6 t (.tup [.ref D2, .str e.R.s, .ref n])) := fun b o eb => s7 _ _ (k6 _ _ eb)
        have tD : t ≠ D := fun z => by rw [z, hD6] at nt; cases nt
        have gl : gs.length ≤ 400 := by
          have z := congrArg List.length hg
          rw [List.length_map, List.length_map, List.length_take] at z
          omega
        have fx : e.x ∉ gs.map (·.x) := fun z => by
          have q1 : gs.map (·.x) = (es.take i).map (·.x) := by
            have z := congrArg (List.map Prod.fst) hg
            simpa [List.map_map, Function.comp_def] using z
          rw [q1, List.map_take] at z
          have q2 : (es.map (·.x))[i]? = some e.x := by rw [List.getElem?_map, hei]; rfl
          obtain ⟨j, ej⟩ := List.mem_iff_getElem?.mp z
          have hj : j < i := by
            have := (List.getElem?_eq_some_iff.mp ej).1
            rw [List.length_take] at this
            omega
          rw [List.getElem?_take, if_pos hj] at ej
          have := (List.getElem?_inj (List.getElem?_eq_some_iff.mp ej).1 nde).mp (ej.trans q2.symm)
          omega
        have D2f : ∀ g ∈ gs, g.a ≠ D2 := fun g hg' z => by
          obtain ⟨⟨kg, ng, r1, r2, _⟩, _⟩ := hN.2.1 g hg'
          have q1 := s5 _ _ r2.1
          rw [z, nD2] at q1
          cases q1
        have row : RowE K m (upd H6 t (.tup [.ref D2, .str e.R.s, .ref n])) t D2 e.R := ⟨ks, n, upd_same, dmf.same s7, f6.new s7, hs1⟩
        have nd' := hN.put (e := ⟨e.t, e.x, e.R, t, D2⟩) S7 row D2H D2n D2f fx
        refine ⟨_, rfl, _, rfl, D, _, rfl, DPut.k (k := .inr e.x) (s7 _ _ hD6) (small1000 (by rw [List.length_map]; omega)), _, _, _, _, _, _, gs ++ [⟨e.t, e.x, e.R, t, D2⟩], rfl, fun b o nb eb => ?_, nd', ?_⟩
        · rw [upd_ne nb]
          exact S7 _ _ (k1 _ _ nb eb)
        · rw [List.map_append, hg, List.take_add_one, hei, List.map_append]
          rfl
    · rintro σ H4 ⟨y2, y3, y4, y5, y6, y7, gs, rfl, k1, hN, hg⟩
      rw [List.length_map, List.take_length] at hg
      have hx : gs.map (·.x) = es.map (·.x) := by
        have z := congrArg (List.map Prod.fst) hg
        simpa [List.map_map, Function.comp_def] using z
      refine ⟨_, rfl, q H4 D gs (fun b o eb nt => k1 _ _ (ne_of_none eb nD) (eH3 _ _ eb nt)) ?_ hN ?_ (by rw [hx]; exact srt)⟩
      · intro p hp
        obtain ⟨ps, a1, a2, a3⟩ := T3 p hp
        have nP : p.1 ≠ D := ne_of a1 hD3 (fun z => by cases z)
        refine ⟨ps, k1 _ _ nP a1, a2, fun pos cv hcv => ?_⟩
        obtain ⟨c0, e1, e2⟩ := a3 pos cv hcv
        exact ⟨c0, e1, k1 _ _ (ne_of e2 hD3 (fun z => by unfold CodeO at z; cases z)) e2⟩
      · rw [hg]
        exact pe.map _
end
end SS
namespace SS
open PySem PySem.Spec PyProof.Rows L2 NumText LamX KyS
/-- a dict comprehension over the keys of a dict that stays -/
theorem dc_keys {a : Addr} {od : Obj} {kvs : List (Key × V)} {g : TG} {tt : TT} {tk tv : TE} {vs : List Nat} {σ : L2.St} {H1 : Hp} {D : Addr} {Qd : Hp → Prop} (Pv : Nat → Hp → Prop) (h0 : Pv 0 (upd H1 D (.dK []))) (hl : ∀ i H, Pv i H → H a = some (.frz od (.dK kvs)))
    (hs : ∀ i k v H, kvs[i]? = some (k, v) → Pv i H → g (kV k) (wipe σ vs) H fun σ2 H2 => wipe σ2 vs = wipe σ vs ∧ tt σ2 H2 fun b H3 => if b = true then tk σ2 H3 fun y H4 => tv σ2 H4 fun z H5 => ∃ kvs k, y = kV k ∧ H5 D = some (.dK kvs) ∧ kvs.length < sizeLine ∧ Pv (i + 1) (upd H5 D (.dK (putK kvs k z))) else Pv (i + 1) H3)
    (hd : ∀ H, Pv kvs.length H → Qd H) :
    ∃ W : Nat → Nat → Hp → Prop, (∃ m, W 0 m (upd H1 D (.dK []))) ∧ ∀ i m H, W i m H →
      ((Itk a od kvs).stop i H ∧ Qd H) ∨ ((Itk a od kvs).go i H ∧ ∃ Nx : Hp → Prop, (∀ H', Nx H' → ∃ m', m' < m ∧ W (i + 1) m' H') ∧ ∀ x H', (Itk a od kvs).yld i H x H' → g x (wipe σ vs) H' fun σ2 H2 => wipe σ2 vs = wipe σ vs ∧ tt σ2 H2 fun b H3 =>
        if b = true then tk σ2 H3 fun y H4 => tv σ2 H4 fun z H5 => ∃ kvs k, y = kV k ∧ H5 D = some (.dK kvs) ∧ kvs.length < sizeLine ∧ Nx (upd H5 D (.dK (putK kvs k z))) else Nx H3) := by
  refine ⟨fun i m H => m = kvs.length - i ∧ i ≤ kvs.length ∧ Pv i H, ⟨_, rfl, Nat.zero_le _, h0⟩, fun i m H hW => ?_⟩
  obtain ⟨em, hi, p⟩ := hW
  have q := hl i H p
  by_cases hlt : i < kvs.length
  · refine .inr ⟨⟨q, hlt⟩, Pv (i + 1), fun H' p' => ⟨kvs.length - (i + 1), by omega, rfl, hlt, p'⟩, fun x H' y => ?_⟩
    obtain ⟨rfl, k, v, hk, rfl⟩ := y
    exact hs i k v H' hk p
  · have e : i = kvs.length := by omega
    subst e
    exact .inl ⟨⟨q, Nat.le_refl _⟩, hd H p⟩
section
variable {P : Program} {w : World} {K : PySem.W.Frag} {mg : Str → Option Value} {base : Heap}
def isR (e : Ent) : Bool := decide (e.R.s = "is")
/-- the dict's rows: what is told of them -/
def NewD.at {m : Nat} {H H' : Hp} {D : Addr} {es : List Ent} (h : NewD K m H H' D es) := h.2.1
theorem val_ent {gs : List Ent} (nd : (gs.map (·.x)).Nodup) {e : Ent} (h : e ∈ gs) : valV (gs.map fun e => ((Sum.inr e.x : Key), V.ref e.r)) (.inr e.x) = some (.ref e.r) := by
  refine val_nodup ?_ (Sum.inr e.x, V.ref e.r) (List.mem_map.mpr ⟨e, h, rfl⟩)
  rw [List.map_map]
  have : (Prod.fst ∘ fun e : Ent => ((Sum.inr e.x : Key), V.ref e.r)) = Sum.inr ∘ Ent.x := rfl
  rw [this, ← List.map_map]
  exact List.Pairwise.map (R := (· ≠ ·)) Sum.inr (fun a b n z => n (Sum.inr.inj z)) nd
def spEbn (K : PySem.W.Frag) (T : List (Addr × Str)) : Sp := fun vs H Q _ => ∃ (a : Addr) (zs : List Ent) (m : Nat), vs = [.ref a] ∧ SqA K H a (zs.map fun z => V.ref z.t) ∧ (∀ z ∈ zs, EntOk K m H z) ∧ (zs.map (·.x)).Nodup ∧ zs.length ≤ 400 ∧ m < 60 ∧ LamX.Tabs T H ∧
  ∀ H' D es, ExtN H H' → LamX.Tabs T H' → NewD K m H H' D es → (es.map fun e => (e.x, e.R)).Perm ((zs.filter isR).map fun e => (e.x, e.R)) → (es.map (·.x)).Pairwise leS → Q (.ref D) H'
theorem scEbn : FnScope ["rows", "named", "name"] ["rows"] (defScope sEbn) := ⟨rfl, rfl, rfl, by decide +kernel, rfl, by decide +kernel, by decide +kernel⟩
theorem ok_ebn {f : Addr} {fd : FuncData} {T : List (Addr × Str)} (F : Fun K "equals_by_name" "equals_by_name" sEbn f fd) (rb : Cl P w K mg base CX0 4 "rows_by_name" (spRbn K T) []) : FnOk P w K mg base CX0 5 f fd ["rows"] (spEbn K T) := by
  refine F.ok scEbn (fun vs H Q E h => ?_) (fun cdv A outer s H vs Q E hr h => ?_)
  · obtain ⟨_, _, _, rfl, _⟩ := h
    rfl
  · obtain ⟨a, zs, m, rfl, hS, hz, nd, hl, hm, ht, q⟩ := h
    have hu' := hu_of hr
    refine ⟨_, pss_cons (ps_set (i := 1) scEbn.nd rfl (.inr rfl) (pc0 rb hr (by decide) (pa_cons (pv 0) pa_nil)))
      (pss_one (ps_ret (pe_lock (pe_dc (own := [("name", 2)]) (g := gName 2) rfl scEbn.nd (pi_keys (pv 1)) (blkOk_by (by rfl))
            (fun _ _ _ _ _ => pg_name (i := 2) scEbn.nd rfl (Or.inl rfl)) (fun _ _ _ _ _ => pts_one (pt_cmpR op_eq (pe_ix (ix_tupK (K := K) rfl) (pe_dget hu' (pv 1) (pv 2) (fun _ _ => rfl)) pe_int (fun _ _ => rfl)) pe_str (nomark _)))
            (fun _ _ _ _ _ => pv 2) (fun _ _ _ _ _ => pe_dget hu' (pv 1) (pv 2) (fun _ _ => rfl)))))), ?_⟩
    refine ⟨_, rfl, a, zs, m, rfl, hS, hz, nd, hl, hm, ht, fun H1 D1 es e1 T1 N1 pm srt => ?_⟩
    have hx : (es.map (·.x)).Perm (zs.map (·.x)) := by
      have z := pm.map Prod.fst
      simpa [List.map_map, Function.comp_def] using z
    have nde : (es.map (·.x)).Nodup := hx.nodup_iff.mpr nd
    have lle : es.length ≤ 400 := by
      have z := hx.length_eq
      rw [List.length_map, List.length_map] at z
      omega
    refine ⟨D1, .dK (es.map fun e => (.inr e.x, V.ref e.r)), N1.1, trivial, fun od => ⟨_, rfl, D1, od, rfl, .inl ⟨_, upd_same, fun D nD => ?_⟩⟩⟩
    have nD1 : H1 D = none := by
      cases e : H1 D with
      | none => rfl
      | some o =>
        by_cases c : D = D1
        · rw [c, upd_same] at nD
          cases nD
        · rw [upd_ne c, e] at nD
          cases nD
    have DD : D1 ≠ D := ne_of_none N1.1 nD1
    refine dc_keys (H1 := upd H1 D1 (.frz od (.dK (es.map fun e => (.inr e.x, V.ref e.r))))) (D := D) (a := D1) (od := od) (kvs := es.map fun e => (.inr e.x, V.ref e.r)) (fun i H' => (∀ b o, b ≠ D1 → b ≠ D → H1 b = some o → H' b = some o) ∧ H' D1 = some (.frz od (.dK (es.map fun e => (.inr e.x, V.ref e.r)))) ∧ H' D = some (.dK (((es.take i).filter isR).map fun e => (.inr e.x, V.ref e.r))))
      ⟨fun b o n1 n2 e => by rw [upd_ne n2, upd_ne n1]; exact e, by rw [upd_ne DD]; exact upd_same, upd_same⟩ (fun i H' hW => hW.2.1) ?_ ?_
    · rintro i key v H' hkv ⟨k1, k2, k3⟩
      obtain ⟨e, hei, rfl, rfl⟩ : ∃ e, es[i]? = some e ∧ key = .inr e.x ∧ v = .ref e.r := by
        rw [List.getElem?_map] at hkv
        cases z : es[i]? with
        | none => rw [z] at hkv; cases hkv
        | some e =>
          rw [z] at hkv
          have z2 := Option.some.inj hkv
          exact ⟨e, rfl, (congrArg Prod.fst z2).symm, (congrArg Prod.snd z2).symm⟩
      have hem := List.mem_of_getElem? hei
      obtain ⟨⟨kvs, n, r1, r2, r3, r4⟩, f1, f2⟩ := N1.2.1 e hem
      have rD : e.r ≠ D1 := ne_of r1 N1.1 (fun z => by cases z)
      have r1' := k1 _ _ rD (ne_of_none r1 nD1) r1
      have dg : DGet H' D1 (kV (.inr e.x)) (some (.ref e.r)) := .inl ⟨_, .inr e.x, .inr ⟨od, k2⟩, rfl, (val_ent nde hem).symm⟩
      have tk : es.take (i + 1) = es.take i ++ [e] := by
        rw [List.take_add_one, hei]
        rfl
      refine ⟨rfl, _, rfl, _, rfl, D1, _, rfl, dg, e.r, _, 1, _, rfl, rfl, SqT.of r1', atI_nat (j := 1) rfl, ⟨rfl, ?_⟩⟩
      by_cases c : e.R.s = "is"
      · have di : decide (V.str e.R.s = V.str (Str.ofString "is")) = true := decide_eq_true (by rw [c])
        have gt : isR e = true := decide_eq_true c
        have gl : ((es.take i).filter isR).length ≤ 400 := by
          have z := List.length_filter_le isR (es.take i)
          rw [List.length_take] at z
          omega
        have fx : e.x ∉ ((es.take i).filter isR).map (·.x) := fun z => by
          obtain ⟨g, hg, ex⟩ := List.mem_map.mp z
          have hg' := (List.mem_filter.mp hg).1
          obtain ⟨j, ej⟩ := List.mem_iff_getElem?.mp hg'
          have hj : j < i := by
            have := (List.getElem?_eq_some_iff.mp ej).1
            rw [List.length_take] at this
            omega
          rw [List.getElem?_take, if_pos hj] at ej
          have q1 : (es.map (·.x))[j]? = some e.x := by rw [List.getElem?_map, ej, ← ex]; rfl
          have q2 : (es.map (·.x))[i]? = some e.x := by rw [List.getElem?_map, hei]; rfl
          have := (List.getElem?_inj (List.getElem?_eq_some_iff.mp q1).1 nde).mp (q1.trans q2.symm)
          omega
        refine ⟨true, congrArg V.bl di, iteT ⟨_, rfl, _, rfl, _, rfl, D1, _, rfl, dg, _, .inr e.x, rfl, k3, small1000 (by rw [List.length_map]; omega), fun b o n1 n2 eb => ?_, ?_, ?_⟩⟩
        · rw [upd_ne n2]
          exact k1 b o n1 n2 eb
        · rw [upd_ne DD]
          exact k2
        · rw [upd_same, putK_new _ (val_ents fx), tk, List.filter_append, List.map_append, List.filter_cons_of_pos gt]
          rfl
      · have di : decide (V.str e.R.s = V.str (Str.ofString "is")) = false := decide_eq_false fun z => c (V.str.inj z)
        have gt : ¬ isR e = true := fun z => c (of_decide_eq_true z)
        refine ⟨false, congrArg V.bl di, iteF ⟨k1, k2, ?_⟩⟩
        rw [tk, List.filter_append, List.filter_cons_of_neg gt, List.filter_nil, List.append_nil]
        exact k3
    · rintro H' ⟨k1, k2, k3⟩
      rw [List.length_map, List.take_length] at k3
      have kb : ∀ b o, b ≠ D1 → H1 b = some o → upd H' D1 (.dK (es.map fun e => (.inr e.x, V.ref e.r))) b = some o := fun b o n1 eb => by
        rw [upd_ne n1]
        exact k1 b o n1 (ne_of_none eb nD1) eb
      have x2 : ExtN H (upd H' D1 (.dK (es.map fun e => (.inr e.x, V.ref e.r)))) := fun b o eb nt => kb b o (N1.2.2.2.ne eb nt) (e1 _ _ eb nt)
      refine ⟨k2, q _ D (es.filter isR) x2 ?_ ⟨by rw [upd_ne DD.symm]; exact k3, fun e he => ?_, ?_, ?_⟩ ?_ ?_⟩
      · intro p hp
        obtain ⟨ps, a1, a2, a3⟩ := T1 p hp
        refine ⟨ps, kb _ _ (ne_of a1 N1.1 (fun z => by cases z)) a1, a2, fun pos cv hcv => ?_⟩
        obtain ⟨c0, e1, e2⟩ := a3 pos cv hcv
        exact ⟨c0, e1, kb _ _ (ne_of e2 N1.1 (fun z => by unfold CodeO at z; cases z)) e2⟩
      · obtain ⟨r1, r2, r3⟩ := N1.2.1 e (List.mem_filter.mp he).1
        have aD : e.a ≠ D := by
          obtain ⟨kvs, n, _, d, _⟩ := r1
          exact ne_of_none d.1 nD1
        exact ⟨RowE.but r1 N1.1 kb r3, r2, aD⟩
      · exact N1.2.2.1.sublist ((List.filter_sublist).map _)
      · exact Fr0.back e1 (Fr0.of nD1)
      · have ff : ∀ l : List Ent, (l.filter isR).map (fun e => (e.x, e.R)) = (l.map fun e => (e.x, e.R)).filter fun p : Str × Rw => decide (p.2.s = Str.ofString "is") := fun l => by
          rw [List.filter_map]
          rfl
        rw [ff, ff]
        exact pm.filter _
      · exact srt.sublist ((List.filter_sublist).map _)
end
end SS
namespace SS
open PySem PySem.Spec PyProof.Rows L2 NumText LamX KyS
/-- a step: a row times a number, a row with another one so many times -/
inductive Stp where
  | tm (x : Str) (c : Int × Int)
  | ad (x y : Str) (c : Int × Int)
def Stp.nm : Stp → Str
  | .tm x _ => x
  | .ad x _ _ => x
def Stp.num : Stp → Int × Int
  | .tm _ c => c
  | .ad _ _ c => c
section
variable {P : Program} {w : World} {K : PySem.W.Frag} {mg : Str → Option Value} {base : Heap}
def StpAt (K : PySem.W.Frag) (H : Hp) (v : V) : Stp → Prop
  | .tm x c => ∃ s n, v = .ref s ∧ SqT K H s [.str (Str.ofString "times"), .str x, .ref n] ∧ FrT K H n c.1 c.2
  | .ad x y c => ∃ s n, v = .ref s ∧ SqT K H s [.str (Str.ofString "add"), .str x, .str y, .ref n] ∧ FrT K H n c.1 c.2
/-- a step on rows of these names -/
def Stp.Ok (names : List Str) : Stp → Prop
  | .tm x c => x ∈ names ∧ c.1 ≠ 0 ∧ Okb 105 c
  | .ad x y c => x ∈ names ∧ y ∈ names ∧ x ≠ y ∧ Okb 105 c
theorem StpAt.extN {H H' : Hp} {v : V} {t : Stp} (h : StpAt K H v t) (e : ExtN H H') : StpAt K H' v t := by
  cases t with
  | tm x c =>
    obtain ⟨s, n, e1, h1, h2⟩ := h
    exact ⟨s, n, e1, KyS.SqT.extN h1 e, h2.extN e⟩
  | ad x y c =>
    obtain ⟨s, n, e1, h1, h2⟩ := h
    exact ⟨s, n, e1, KyS.SqT.extN h1 e, h2.extN e⟩
/-! ### names_row -/
def spNamesRow : Sp := fun vs H Q _ => ∃ (D : Addr) (kvs : List (Key × V)) (x : Str), vs = [.ref D, .str x] ∧ H D = some (.dK kvs) ∧ Q (.bl (valV kvs (.inr x)).isSome) H
theorem scNamesRow : FnScope ["equals", "thing"] ["equals", "thing"] (defScope sNamesRow) := ⟨rfl, rfl, rfl, by decide +kernel, rfl, by decide +kernel, by decide +kernel⟩
theorem ok_namesrow {f : Addr} {fd : FuncData} {k : Nat} (F : Fun K "names_row" "names_row" sNamesRow f fd) (mi : mg "isinstance" = none) (mst : mg "str" = none) : FnOk P w K mg base CX0 (k + 1) f fd ["equals", "thing"] spNamesRow := by
  refine F.ok scNamesRow (fun vs H Q E h => ?_) (fun cdv A outer s H vs Q E hr h => ?_)
  · obtain ⟨_, _, _, rfl, _⟩ := h
    rfl
  · obtain ⟨D, kvs, x, rfl, hD, q⟩ := h
    have hu := hu_of hr
    refine ⟨_, pss_one (ps_ret (pe_and (pe_callB call_isi (by rfl) mi boot_isinstance (pa_cons (pv 1) (pa_cons (pe_bltn (v := .ty "str") (u := .type "str") (by rfl) mst (by decide +kernel) rfl) pa_nil))) (pe_one (pe_cmp (pc_din hu (pv 1) (pv 0)))))), ?_⟩
    refine ⟨_, rfl, .str x, .ty "str", .type "str", .type "str", true, rfl, .ty _, .base (.str x), kit_ty (by decide +kernel), _, rfl, iteT ?_⟩
    refine ⟨_, rfl, _, rfl, D, _, rfl, DGet.k (k := .inr x) hD, q⟩
/-! ### fits_times, fits_add, fits_step -/
def spFitsTm (K : PySem.W.Frag) : Sp := fun vs H Q _ => ∃ (D : Addr) (kvs : List (Key × V)) (v : V) (x : Str) (c : Int × Int), vs = [.ref D, v] ∧ H D = some (.dK kvs) ∧ (valV kvs (.inr x)).isSome = true ∧ StpAt K H v (.tm x c) ∧ c.1 ≠ 0 ∧ Okb 105 c ∧ Q (.bl true) H
theorem okb_frac {H : Hp} {n : Addr} {c : Int × Int} (h : FrT K H n c.1 c.2) (ok : Okb 105 c) : FracB K H (.ref n) true := .inr ⟨n, _, rfl, h.1, .inr ⟨_, _, rfl, .inl ⟨_, _, rfl, rfl, (decide_eq_true ⟨ok.1, ok.2.2.2⟩).symm⟩⟩⟩
theorem scFitsTm : FnScope ["equals", "step", "word", "name", "number"] ["equals", "step"] (defScope sFitsTm) := ⟨rfl, rfl, rfl, by decide +kernel, rfl, by decide +kernel, by decide +kernel⟩
theorem ok_fitstm {f aN : Addr} {fd : FuncData} (F : Fun K "fits_times" "fits_times" sFitsTm f fd) (gN : mg "NOUGHT" = some (.ref aN)) (hN : ∀ H, FrT K H aN 0 1) (nr : Cl P w K mg base CX0 1 "names_row" spNamesRow []) (ff : Cl P w K mg base CX0 2 "fits_fraction" (spFFrac K) []) :
    FnOk P w K mg base CX0 3 f fd ["equals", "step"] (spFitsTm K) := by
  refine F.ok scFitsTm (fun vs H Q E h => ?_) (fun cdv A outer s H vs Q E hr h => ?_)
  · obtain ⟨_, _, _, _, _, rfl, _⟩ := h
    rfl
  · obtain ⟨D, kvs, v, x, c, rfl, hD, hx, ⟨st, n, rfl, hs, hn⟩, c0, ok, q⟩ := h
    refine ⟨_, pss_cons (ps_asg (pv 1) (pg_tup rfl (pgs_cons (pg_name (i := 2) scFitsTm.nd rfl (.inl rfl)) (pgs_cons (pg_name (i := 3) scFitsTm.nd rfl (.inl rfl)) (pgs_cons (pg_name (i := 4) scFitsTm.nd rfl (.inl rfl)) pgs_nil)))))
      (pss_one (ps_ret (pe_and (pe_cmpR op_eq (pv 2) pe_str (nomark _)) (pe_and (pc0 nr hr (by decide) (pa_cons (pv 0) (pa_cons (pv 3) pa_nil))) (pe_and (pc0 ff hr (by decide) (pa_cons (pv 4) pa_nil)) (pe_one (pe_cmpR (op_neD hr.units) (pv 4) (pe_glob (v := .ref aN) (by rfl) gN rfl) (nomark _)))))))), ?_⟩
    refine ⟨_, rfl, st, _, rfl, hs, rfl, _, _, rfl, _, _, rfl, _, _, rfl, rfl, ?_⟩
    refine ⟨_, rfl, rfl, true, rfl, iteT ?_⟩
    refine ⟨_, rfl, _, rfl, D, kvs, x, rfl, hD, _, rfl, ?_⟩
    rw [hx]
    refine iteT ⟨_, rfl, _, true, rfl, okb_frac hn ok, _, rfl, iteT ?_⟩
    have q' : Q (.bl (!PyData.eqv (.tuple [.int c.1, .int c.2]) (.tuple [.int 0, .int 1]))) H := by
      rw [eqv_nought]
      have z : (c.1 == 0) = false := by simpa using c0
      rw [z]
      exact q
    exact ⟨_, rfl, .tuple [.int c.1, .int c.2], .tuple [.int 0, .int 1], .tup hn.1 (.cons (.int _) (.cons (.int _) .nil)), .tup (hN _).1 (.cons (.int _) (.cons (.int _) .nil)), rfl, rfl, q'⟩
def spFitsAdd (K : PySem.W.Frag) : Sp := fun vs H Q _ => ∃ (D : Addr) (kvs : List (Key × V)) (v : V) (x y : Str) (c : Int × Int), vs = [.ref D, v] ∧ H D = some (.dK kvs) ∧ (valV kvs (.inr x)).isSome = true ∧ (valV kvs (.inr y)).isSome = true ∧ StpAt K H v (.ad x y c) ∧ x ≠ y ∧ Okb 105 c ∧ Q (.bl true) H
theorem scFitsAdd : FnScope ["equals", "step", "word", "name", "other", "number"] ["equals", "step"] (defScope sFitsAdd) := ⟨rfl, rfl, rfl, by decide +kernel, rfl, by decide +kernel, by decide +kernel⟩
theorem ok_fitsadd {f : Addr} {fd : FuncData} (F : Fun K "fits_add" "fits_add" sFitsAdd f fd) (nr : Cl P w K mg base CX0 1 "names_row" spNamesRow []) (ff : Cl P w K mg base CX0 2 "fits_fraction" (spFFrac K) []) :
    FnOk P w K mg base CX0 3 f fd ["equals", "step"] (spFitsAdd K) := by
  refine F.ok scFitsAdd (fun vs H Q E h => ?_) (fun cdv A outer s H vs Q E hr h => ?_)
  · obtain ⟨_, _, _, _, _, _, rfl, _⟩ := h
    rfl
  · obtain ⟨D, kvs, v, x, y, c, rfl, hD, hx, hy, ⟨st, n, rfl, hs, hn⟩, xy, ok, q⟩ := h
    refine ⟨_, pss_cons (ps_asg (pv 1) (pg_tup rfl (pgs_cons (pg_name (i := 2) scFitsAdd.nd rfl (.inl rfl)) (pgs_cons (pg_name (i := 3) scFitsAdd.nd rfl (.inl rfl)) (pgs_cons (pg_name (i := 4) scFitsAdd.nd rfl (.inl rfl)) (pgs_cons (pg_name (i := 5) scFitsAdd.nd rfl (.inl rfl)) pgs_nil))))))
      (pss_cons (ps_if (PW.pt (pw_or (pt_cmpR op_ne (pv 2) pe_str (nomark _)) (pw_or (pt_not (pt_val (pc0 nr hr (by decide) (pa_cons (pv 0) (pa_cons (pv 3) pa_nil))))) (pw_or1 (pt_not (pt_val (pc0 nr hr (by decide) (pa_cons (pv 0) (pa_cons (pv 4) pa_nil))))))))) (pss_one (ps_ret pe_bl)) pss_nil)
      (pss_one (ps_ret (pe_and (pe_cmpR op_ne (pv 3) (pv 4) (nomark _)) (pe_one (pc0 ff hr (by decide) (pa_cons (pv 5) pa_nil))))))), ?_⟩
    refine ⟨_, rfl, st, _, rfl, hs, rfl, _, _, rfl, _, _, rfl, _, _, rfl, _, _, rfl, rfl, ?_⟩
    refine ⟨_, rfl, rfl, false, rfl, iteF ?_⟩
    refine ⟨_, rfl, _, rfl, D, kvs, x, rfl, hD, _, rfl, ?_⟩
    rw [hx]
    refine iteF ⟨_, rfl, _, rfl, D, kvs, y, rfl, hD, _, rfl, ?_⟩
    rw [hy]
    have nx : (!decide (V.str x = V.str y)) = true := by
      rw [decide_eq_false fun z => xy (V.str.inj z)]
      rfl
    refine iteF ⟨_, rfl, _, rfl, rfl, true, congrArg V.bl nx, iteT ⟨_, rfl, _, true, rfl, okb_frac hn ok, q⟩⟩
def spFitsStep (K : PySem.W.Frag) : Sp := fun vs H Q _ => ∃ (D : Addr) (kvs : List (Key × V)) (names : List Str) (v : V) (t : Stp), vs = [.ref D, v] ∧ H D = some (.dK kvs) ∧ (∀ x ∈ names, (valV kvs (.inr x)).isSome = true) ∧ StpAt K H v t ∧ t.Ok names ∧ Q (.bl true) H
theorem scFitsStep : FnScope ["equals", "step"] ["equals", "step"] (defScope sFitsStep) := ⟨rfl, rfl, rfl, by decide +kernel, rfl, by decide +kernel, by decide +kernel⟩
theorem ok_fitsstep {f : Addr} {fd : FuncData} (F : Fun K "fits_step" "fits_step" sFitsStep f fd) (mi : mg "isinstance" = none) (mt : mg "tuple" = none) (ml : mg "len" = none) (ft : Cl P w K mg base CX0 3 "fits_times" (spFitsTm K) []) (fa : Cl P w K mg base CX0 3 "fits_add" (spFitsAdd K) []) :
    FnOk P w K mg base CX0 4 f fd ["equals", "step"] (spFitsStep K) := by
  refine F.ok scFitsStep (fun vs H Q E h => ?_) (fun cdv A outer s H vs Q E hr h => ?_)
  · obtain ⟨_, _, _, _, _, rfl, _⟩ := h
    rfl
  · obtain ⟨D, kvs, names, v, t, rfl, hD, hx, hs, ho, q⟩ := h
    refine ⟨_, pss_cons (ps_if (pt_not (pt_val (pe_callB call_isi (by rfl) mi boot_isinstance (pa_cons (pv 1) (pa_cons (pe_bltn (v := .ty "tuple") (u := .type "tuple") (by rfl) mt (by decide +kernel) rfl) pa_nil))))) (pss_one (ps_ret pe_bl)) pss_nil)
      (pss_cons (ps_if (pt_cmpR op_eq (pe_callB call_len_seq (by rfl) ml PySem.boot_len (pa_cons (pv 1) pa_nil)) pe_int (nomark _)) (pss_one (ps_ret (pc0 ft hr (by decide) (pa_cons (pv 0) (pa_cons (pv 1) pa_nil))))) pss_nil)
      (pss_one (ps_ret (pe_and (pe_cmpR op_eq (pe_callB call_len_seq (by rfl) ml PySem.boot_len (pa_cons (pv 1) pa_nil)) pe_int (nomark _)) (pe_one (pc0 fa hr (by decide) (pa_cons (pv 0) (pa_cons (pv 1) pa_nil)))))))), ?_⟩
    cases t with
    | tm x c =>
      have hs' := hs
      obtain ⟨st, n, rfl, h1, h2⟩ := hs'
      refine ⟨_, rfl, .ref st, .ty "tuple", .type "tuple", .type "tuple", true, rfl, .ty _, SqT.ty h1, kit_ty (by decide +kernel), _, rfl, iteF ?_⟩
      refine ⟨_, rfl, st, _, rfl, .inr h1, rfl, true, rfl, iteT ?_⟩
      exact ⟨_, rfl, _, rfl, D, kvs, .ref st, x, c, rfl, hD, hx x ho.1, hs, ho.2.1, ho.2.2, q⟩
    | ad x y c =>
      have hs' := hs
      obtain ⟨st, n, rfl, h1, h2⟩ := hs'
      refine ⟨_, rfl, .ref st, .ty "tuple", .type "tuple", .type "tuple", true, rfl, .ty _, SqT.ty h1, kit_ty (by decide +kernel), _, rfl, iteF ?_⟩
      refine ⟨_, rfl, st, _, rfl, .inr h1, rfl, false, rfl, iteF ?_⟩
      refine ⟨_, rfl, st, _, rfl, .inr h1, rfl, true, rfl, iteT ?_⟩
      exact ⟨_, rfl, _, rfl, D, kvs, .ref st, x, y, c, rfl, hD, hx x ho.1, hx y ho.2.1, hs, ho.2.2.1, ho.2.2.2, q⟩
end
end SS
namespace SS
open PySem PySem.Spec PyProof.Rows L2 NumText LamX KyS
section
variable {P : Program} {w : World} {K : PySem.W.Frag} {mg : Str → Option Value} {base : Heap}
/-- a row behind a step; the row that the step names second -/
def Rw.step (R R2 : Rw) : Stp → Rw
  | .tm _ c => ⟨fun k => ftimes (R.f k) c, R.s, ftimes R.n c⟩
  | .ad _ _ c => ⟨fun k => fplus (R.f k) (ftimes (R2.f k) c), R.s, fplus R.n (ftimes R2.n c)⟩
def Rw.Okb (n : Nat) (R : Rw) : Prop := (∀ k, SS.Okb n (R.f k)) ∧ SS.Okb n R.n
def Stp.nm2 : Stp → Str
  | .tm x _ => x
  | .ad _ y _ => y
def spRowBehind (K : PySem.W.Frag) : Sp := fun vs H Q _ => ∃ (D : Addr) (kvs : List (Key × V)) (v : V) (t : Stp) (r a r2 a2 : Addr) (R R2 : Rw) (m : Nat), vs = [.ref D, v] ∧ H D = some (.dK kvs) ∧ StpAt K H v t ∧ valV kvs (.inr t.nm) = some (.ref r) ∧ valV kvs (.inr t.nm2) = some (.ref r2) ∧
  RowE K m H r a R ∧ RowE K m H r2 a2 R2 ∧ m ≤ 20 ∧ R.Okb 1400 ∧ R2.Okb 1400 ∧ SS.Okb 105 t.num ∧ (R.step R2 t).Okb 1400 ∧ ∀ H' r' a', Same H H' → H r' = none → H a' = none → RowE K (m + m) H' r' a' (R.step R2 t) → Q (.ref r') H'
theorem scRowBehind : FnScope ["equals", "step", "one", "sort", "bound", "number", "other"] ["equals", "step"] (defScope sRowBehind) := ⟨rfl, rfl, rfl, by decide +kernel, rfl, by decide +kernel, by decide +kernel⟩
theorem two_of {H : Hp} {p q : Addr} {A B : Int × Int} {n k : Nat} (hp : FrT K H p A.1 A.2) (hq : FrT K H q B.1 B.2) (ha : SS.Okb n A) (hb : SS.Okb k B) (hn : n ≤ 3000) (hk : k ≤ 3000) : Two K H [.ref p, .ref q] A.1 A.2 B.1 B.2 :=
  ⟨p, q, rfl, hp, hq, ha.1, hb.1, sm_mono ha.2.1 hn, sm_mono ha.2.2.1 hn, sm_mono hb.2.1 hk, sm_mono hb.2.2.1 hk, ha.2.2.2, hb.2.2.2⟩
theorem ok_rowbehind {f : Addr} {fd : FuncData} (F : Fun K "row_behind" "row_behind" sRowBehind f fd) (st : Cl P w K mg base CX0 4 "sum_times" (spSumTimes K) []) (sp : Cl P w K mg base CX0 5 "sum_plus" spSumPlus []) (tm : Cl P w K mg base CX0 3 "times" (spTimes K) []) (pl : Cl P w K mg base CX0 3 "plus" (spPlus K) []) :
    FnOk P w K mg base CX0 6 f fd ["equals", "step"] (spRowBehind K) := by
  refine F.ok scRowBehind (fun vs H Q E h => ?_) (fun cdv A outer s H vs Q E hr h => ?_)
  · obtain ⟨_, _, _, _, _, _, _, _, _, _, _, rfl, _⟩ := h
    rfl
  · obtain ⟨D, kvs, v, t, r, a, r2, a2, R, R2, m, rfl, hD, hs, hv, hv2, ⟨ks, n, e1, e2, e3, e4⟩, ⟨ks2, n2, g1, g2, g3, g4⟩, hm, okR, okR2, okc, okS, q⟩ := h
    have hu := hu_of hr
    refine ⟨_, pss_cons (ps_asg (pe_dget hu (pv 0) (pe_ix ix_tup (pv 1) pe_int (fun _ _ => rfl)) (fun _ _ => rfl)) (pg_tup rfl (pgs_cons (pg_name (i := 2) scRowBehind.nd rfl (.inl rfl)) (pgs_cons (pg_name (i := 3) scRowBehind.nd rfl (.inl rfl)) (pgs_cons (pg_name (i := 4) scRowBehind.nd rfl (.inl rfl)) pgs_nil)))))
      (pss_cons (ps_set (i := 5) scRowBehind.nd rfl (.inl rfl) (pe_ix ix_tup (pv 1) (pe_un un_neg pe_int) (fun _ _ => rfl)))
      (pss_cons (ps_if (pt_cmpR op_eq (pe_ix ix_tup (pv 1) pe_int (fun _ _ => rfl)) pe_str (nomark _)) (pss_one (ps_ret (pe_tup (pa_cons (pc0 st hr (by decide) (pa_cons (pv 2) (pa_cons (pv 5) pa_nil))) (pa_cons (pv 3) (pa_cons (pc0 tm hr (by decide) (pa_cons (pv 4) (pa_cons (pv 5) pa_nil))) pa_nil)))))) pss_nil)
      (pss_cons (ps_set (i := 6) scRowBehind.nd rfl (.inl rfl) (pe_dget hu (pv 0) (pe_ix ix_tup (pv 1) pe_int (fun _ _ => rfl)) (fun _ _ => rfl)))
      (pss_one (ps_ret (pe_tup (pa_cons (pc0 sp hr (by decide) (pa_cons (pv 2) (pa_cons (pc0 st hr (by decide) (pa_cons (pe_ix ix_tup (pv 6) pe_int (fun _ _ => rfl)) (pa_cons (pv 5) pa_nil))) pa_nil))) (pa_cons (pv 3) (pa_cons (pc0 pl hr (by decide) (pa_cons (pv 4) (pa_cons (pc0 tm hr (by decide) (pa_cons (pe_ix ix_tup (pv 6) pe_int (fun _ _ => rfl)) (pa_cons (pv 5) pa_nil))) pa_nil))) pa_nil))))))))), ?_⟩
    cases t with
    | tm x c =>
      obtain ⟨ss, cn, rfl, h1, h2⟩ := hs
      refine ⟨_, rfl, _, ⟨rfl, ss, _, 1, _, rfl, rfl, h1, atI_nat (j := 1) rfl, D, _, rfl, .inl ⟨kvs, .inr x, .inl hD, rfl, hv.symm⟩, ?_⟩⟩
      refine ⟨r, _, rfl, SqT.of e1, rfl, _, _, rfl, _, _, rfl, _, _, rfl, rfl, ?_⟩
      refine ⟨_, rfl, 1, rfl, ss, _, _, _, rfl, rfl, h1, rfl, ?_⟩
      refine ⟨_, rfl, ss, _, 0, _, rfl, rfl, h1, atI_nat (j := 0) rfl, rfl, true, rfl, iteT ?_⟩
      refine ⟨_, rfl, _, rfl, a, cn, ks, R.f, c, m, 1400, 105, rfl, e2, h2, okR.1, okc, by omega, by omega, by omega, fun H1 c1 ks1 s1 nc1 d1 => ?_⟩
      refine ⟨_, rfl, _, rfl, _, rfl, R.n.1, R.n.2, c.1, c.2, two_of (e3.new s1) (h2.new s1) okR.2 okc (by decide) (by decide), fun p np => ?_⟩
      refine ⟨(by show 3 ≤ sizeLine; decide), fun t nt => ?_⟩
      have s2 := same_new (o := .tup [.int (fr1 (R.n.1 * c.1) (R.n.2 * c.2)), .int (fr2 (R.n.1 * c.1) (R.n.2 * c.2))]) np
      have s3 := same_new (o := .tup [.ref c1, .str R.s, .ref p]) nt
      exact q _ t c1 ((s1.trans s2).trans s3) (s1.free (s2.free nt)) nc1 ⟨ks1, p, upd_same, ((d1.same s2).same s3).mono (by omega), (FrT.of upd_same).new s3, e4⟩
    | ad x y c =>
      obtain ⟨ss, cn, rfl, h1, h2⟩ := hs
      refine ⟨_, rfl, _, ⟨rfl, ss, _, 1, _, rfl, rfl, h1, atI_nat (j := 1) rfl, D, _, rfl, .inl ⟨kvs, .inr x, .inl hD, rfl, hv.symm⟩, ?_⟩⟩
      refine ⟨r, _, rfl, SqT.of e1, rfl, _, _, rfl, _, _, rfl, _, _, rfl, rfl, ?_⟩
      refine ⟨_, rfl, 1, rfl, ss, _, _, _, rfl, rfl, h1, rfl, ?_⟩
      refine ⟨_, rfl, ss, _, 0, _, rfl, rfl, h1, atI_nat (j := 0) rfl, rfl, false, rfl, iteF ?_⟩
      refine ⟨_, rfl, _, ⟨rfl, ss, _, 2, _, rfl, rfl, h1, atI_nat (j := 2) rfl, D, _, rfl, .inl ⟨kvs, .inr y, .inl hD, rfl, hv2.symm⟩, ?_⟩⟩
      have okc' : SS.Okb 105 c := okc
      have okT : ∀ k, SS.Okb 1505 (ftimes (R2.f k) c) := fun k => okb_times (okR2.1 k) okc'
      refine ⟨_, rfl, _, rfl, r2, _, 0, _, rfl, rfl, SqT.of g1, atI_nat (j := 0) rfl, _, rfl, a2, cn, ks2, R2.f, c, m, 1400, 105, rfl, g2, h2, okR2.1, okc', by omega, by omega, by omega, fun H1 c1 ks1 s1 nc1 d1 => ?_⟩
      refine ⟨a, c1, ks, ks1, R.f, _, m, m, 1505, rfl, e2.same s1, d1, fun k => (okR.1 k).mono (by decide), okT, by omega, fun k => (okS.1 k).mono (by decide), by decide, fun H2 c2 ks' s2 nc2 d2 => ?_⟩
      have S2 := s1.trans s2
      refine ⟨_, rfl, _, rfl, _, rfl, r2, _, 2, _, rfl, rfl, SqT.of (S2 _ _ g1), atI_nat (j := 2) rfl, _, rfl, R2.n.1, R2.n.2, c.1, c.2, two_of (g3.new S2) (h2.new S2) okR2.2 okc' (by decide) (by decide), fun p np => ?_⟩
      have s3 := same_new (o := .tup [.int (fr1 (R2.n.1 * c.1) (R2.n.2 * c.2)), .int (fr2 (R2.n.1 * c.1) (R2.n.2 * c.2))]) np
      have fp : FrT K _ p (ftimes R2.n c).1 (ftimes R2.n c).2 := FrT.of (upd_same (H := H2) (a := p) (o := .tup [.int (fr1 (R2.n.1 * c.1) (R2.n.2 * c.2)), .int (fr2 (R2.n.1 * c.1) (R2.n.2 * c.2))]))
      refine ⟨R.n.1, R.n.2, (ftimes R2.n c).1, (ftimes R2.n c).2, two_of (e3.new (S2.trans s3)) fp okR.2 (okb_times okR2.2 okc') (by decide) (by decide), fun p2 np2 => ?_⟩
      refine ⟨(by show 3 ≤ sizeLine; decide), fun t nt => ?_⟩
      have s4 := same_new (o := .tup [.int (fplus R.n (ftimes R2.n c)).1, .int (fplus R.n (ftimes R2.n c)).2]) np2
      have s5 := same_new (o := .tup [.ref c2, .str R.s, .ref p2]) nt
      exact q _ t c2 (((S2.trans s3).trans s4).trans s5) (S2.free (s3.free (s4.free nt))) (s1.free nc2) ⟨ks', p2, upd_same, ((d2.same s3).same s4).same s5, (FrT.of upd_same).new s5, e4⟩
end
end SS
namespace SS
open PySem PySem.Spec PyProof.Rows L2 NumText LamX KyS
theorem ps_never {X : Cx} {st : PySem.Stmt} : PS X st (fun _ _ _ => False) := ⟨fun _ _ _ _ _ _ h => h.elim⟩
/-! ### the plain reckoning of steps -/
abbrev Nm := Str × Rw
def look (L : List Nm) (y : Str) : Rw := ((L.find? fun q => decide (q.1 = y)).map (·.2)).getD ⟨fun _ => (0, 1), "is", (0, 1)⟩
def stepM (L : List Nm) (t : Stp) : List Nm := L.map fun q => if q.1 = t.nm then (q.1, q.2.step (look L t.nm2) t) else q
def Rw.In (U : List Str) (R : Rw) : Prop := ∀ k, (R.f k).1 ≠ 0 → k ∈ U.map fun x => (Sum.inr x : Key)
theorem stepM_names (L : List Nm) (t : Stp) : (stepM L t).map (·.1) = L.map (·.1) := by
  unfold stepM
  rw [List.map_map]
  refine List.map_congr_left fun q _ => ?_
  show (if q.1 = t.nm then (q.1, q.2.step (look L t.nm2) t) else q).1 = q.1
  split <;> rfl
theorem look_mem {L : List Nm} {y : Str} (h : y ∈ L.map (·.1)) : (y, look L y) ∈ L := by
  unfold look
  cases e : L.find? fun q => decide (q.1 = y) with
  | none =>
    obtain ⟨q, hq, e2⟩ := List.mem_map.mp h
    have z := List.find?_eq_none.mp e q hq
    exact absurd (decide_eq_true e2) z
  | some q =>
    have z := of_decide_eq_true (List.find?_some (p := fun q : Nm => decide (q.1 = y)) e)
    have m := List.mem_of_find?_eq_some e
    rw [← z]
    exact m
theorem RowE.tight {K : PySem.W.Frag} {m : Nat} {H : Hp} {r a : Addr} {R : Rw} {U : List Str} (h : RowE K m H r a R) (u : R.In U) : RowE K U.length H r a R := by
  obtain ⟨kvs, n, h1, h2, h3, h4⟩ := h
  refine ⟨kvs, n, h1, ⟨h2.1, h2.2.1, ?_, h2.2.2.2⟩, h3, h4⟩
  have s : (kvs.map (·.1)) ⊆ U.map fun x => (Sum.inr x : Key) := fun k hk => by
    obtain ⟨p, hp, rfl⟩ := List.mem_map.mp hk
    exact u _ ((h2.2.2.2.1 p hp).2.2 trivial)
  have z := (List.nodup_iff_pairwise_ne.mp h2.2.1)
  have := List.Nodup.length_le_of_subset h2.2.1 s
  rw [List.length_map, List.length_map] at this
  exact this
section
variable {P : Program} {w : World} {K : PySem.W.Frag} {mg : Str → Option Value} {base : Heap}
/-- the dict's rows put anew -/
def repl (es : List Ent) (x : Str) (R : Rw) (r a : Addr) : List Ent := es.map fun e => if e.x = x then ⟨e.t, e.x, R, r, a⟩ else e
theorem putK_ents {es : List Ent} {x : Str} {R : Rw} {r a : Addr} (h : x ∈ es.map (·.x)) :
    putK (es.map fun e => ((Sum.inr e.x : Key), V.ref e.r)) (.inr x) (.ref r) = (repl es x R r a).map fun e => ((Sum.inr e.x : Key), V.ref e.r) := by
  obtain ⟨e, he, ex⟩ := List.mem_map.mp h
  unfold putK repl
  rw [if_pos (List.any_eq_true.mpr ⟨(Sum.inr e.x, V.ref e.r), List.mem_map.mpr ⟨e, he, rfl⟩, decide_eq_true (by rw [← ex])⟩), List.map_map, List.map_map]
  refine List.map_congr_left fun g _ => ?_
  show (if (Sum.inr g.x : Key) = Sum.inr x then ((Sum.inr g.x : Key), V.ref r) else (Sum.inr g.x, V.ref g.r)) = (Sum.inr (if g.x = x then (⟨g.t, g.x, R, r, a⟩ : Ent) else g).x, V.ref (if g.x = x then (⟨g.t, g.x, R, r, a⟩ : Ent) else g).r)
  by_cases c : g.x = x
  · rw [if_pos (by rw [c]), if_pos c]
  · rw [if_neg (fun z => c (Sum.inr.inj z)), if_neg c]
theorem repl_nr {es : List Ent} {x : Str} {R : Rw} {r a : Addr} : (repl es x R r a).map (fun e => (e.x, e.R)) = (es.map fun e => (e.x, e.R)).map fun q => if q.1 = x then (q.1, R) else q := by
  unfold repl
  rw [List.map_map, List.map_map]
  refine List.map_congr_left fun g _ => ?_
  show ((if g.x = x then (⟨g.t, g.x, R, r, a⟩ : Ent) else g).x, (if g.x = x then (⟨g.t, g.x, R, r, a⟩ : Ent) else g).R) = if g.x = x then (g.x, R) else (g.x, g.R)
  split <;> rfl
theorem repl_a {es : List Ent} {x : Str} {R : Rw} {r a : Addr} (nx : (es.map (·.x)).Nodup) (nd : (es.map (·.a)).Nodup) (n : ∀ e ∈ es, e.a ≠ a) : ((repl es x R r a).map (·.a)).Nodup := by
  unfold repl
  rw [List.map_map]
  have e : ((fun e : Ent => e.a) ∘ fun e : Ent => if e.x = x then (⟨e.t, e.x, R, r, a⟩ : Ent) else e) = fun e => if e.x = x then a else e.a := by
    funext g
    show (if g.x = x then (⟨g.t, g.x, R, r, a⟩ : Ent) else g).a = _
    split <;> rfl
  rw [e]
  clear e
  induction es with
  | nil => exact List.nodup_nil
  | cons g es ih =>
    rw [List.map_cons] at nx nd ⊢
    obtain ⟨x1, x2⟩ := List.nodup_cons.mp nx
    obtain ⟨a1, a2⟩ := List.nodup_cons.mp nd
    refine List.nodup_cons.mpr ⟨fun z => ?_, ih x2 a2 fun e he => n e (List.mem_cons_of_mem _ he)⟩
    obtain ⟨q, hq, eq⟩ := List.mem_map.mp z
    by_cases c : g.x = x
    · have c2 : q.x ≠ x := fun y => x1 (List.mem_map.mpr ⟨q, hq, y.trans c.symm⟩)
      rw [if_pos c, if_neg c2] at eq
      exact n q (List.mem_cons_of_mem _ hq) eq
    · rw [if_neg c] at eq
      by_cases c2 : q.x = x
      · rw [if_pos c2] at eq
        exact n g List.mem_cons_self eq.symm
      · rw [if_neg c2] at eq
        exact a1 (List.mem_map.mpr ⟨q, hq, eq⟩)
end
end SS
namespace SS
open PySem PySem.Spec PyProof.Rows L2 NumText LamX KyS
section
variable {P : Program} {w : World} {K : PySem.W.Frag} {mg : Str → Option Value} {base : Heap}
/-- the state on the way: like NewD, the abstract heap H the one at the entry -/
structure Cur (K : PySem.W.Frag) (U : List Str) (H H' : Hp) (D : Addr) (es : List Ent) : Prop where
  d : NewD K U.length H H' D es
  nd : (es.map (·.x)).Nodup
  ln : es.length ≤ 400
  sup : ∀ e ∈ es, e.R.In U
  ok : ∀ e ∈ es, e.R.Okb 1400
def nr (e : Ent) : Nm := (e.x, e.R)
theorem nr_look {es : List Ent} (nd : (es.map (·.x)).Nodup) {e : Ent} (h : e ∈ es) : look (es.map nr) e.x = e.R := by
  have hm : e.x ∈ (es.map nr).map (·.1) := List.mem_map.mpr ⟨nr e, List.mem_map.mpr ⟨e, h, rfl⟩, rfl⟩
  obtain ⟨g, hg, eg⟩ := List.mem_map.mp (look_mem hm)
  have ex : g.x = e.x := congrArg Prod.fst eg
  have er : g.R = look (es.map nr) e.x := congrArg Prod.snd eg
  have : g = e := by
    obtain ⟨i, hi⟩ := List.mem_iff_getElem?.mp hg
    obtain ⟨j, hj⟩ := List.mem_iff_getElem?.mp h
    have q1 : (es.map (·.x))[i]? = some e.x := by rw [List.getElem?_map, hi, ← ex]; rfl
    have q2 : (es.map (·.x))[j]? = some e.x := by rw [List.getElem?_map, hj]; rfl
    have z := (List.getElem?_inj (List.getElem?_eq_some_iff.mp q1).1 nd).mp (q1.trans q2.symm)
    rw [z, hj] at hi
    exact (Option.some.inj hi).symm
  rw [← er, this]
/-- a step done to the dict -/
theorem Cur.step {U : List Str} {H H1 H2 : Hp} {D : Addr} {es : List Ent} {t : Stp} {e e2 : Ent} {r' a' : Addr} (c : Cur K U H H1 D es) (he : e ∈ es) (he2 : e2 ∈ es) (hx : e.x = t.nm) (hx2 : e2.x = t.nm2) (s : Same H1 H2) (hr : H1 r' = none) (ha : H1 a' = none) (x01 : ExtN H H1)
    (row : RowE K (U.length + U.length) H2 r' a' (e.R.step e2.R t)) (ok : (e.R.step e2.R t).Okb 1400) (iu : (e.R.step e2.R t).In U) :
    Cur K U H (upd H2 D (.dK (putK (es.map fun e => (.inr e.x, V.ref e.r)) (.inr t.nm) (.ref r')))) D (repl es t.nm (e.R.step e2.R t) r' a') ∧ (repl es t.nm (e.R.step e2.R t) r' a').map nr = stepM (es.map nr) t := by
  have hD := s _ _ c.d.1
  have aD : a' ≠ D := fun z => by rw [z, c.d.1] at ha; cases ha
  have mx : t.nm ∈ es.map (·.x) := List.mem_map.mpr ⟨e, he, hx⟩
  have l2 : look (es.map nr) t.nm2 = e2.R := by rw [← hx2]; exact nr_look c.nd he2
  have rp : ∀ g ∈ repl es t.nm (e.R.step e2.R t) r' a', (g.R = e.R.step e2.R t ∧ g.r = r' ∧ g.a = a') ∨ g ∈ es := fun g hg => by
    obtain ⟨q, hq, eq⟩ := List.mem_map.mp hg
    by_cases z : q.x = t.nm
    · rw [if_pos z] at eq
      rw [← eq]
      exact .inl ⟨rfl, rfl, rfl⟩
    · rw [if_neg z] at eq
      rw [← eq]
      exact .inr hq
  have fa : ∀ g ∈ es, g.a ≠ a' := fun g hg z => by
    obtain ⟨⟨kg, ng, r1, r2, _⟩, _⟩ := c.d.2.1 g hg
    rw [← z, r2.1] at ha
    cases ha
  have ex : (repl es t.nm (e.R.step e2.R t) r' a').map (·.x) = es.map (·.x) := by
    unfold repl
    rw [List.map_map]
    refine List.map_congr_left fun g _ => ?_
    show (if g.x = t.nm then (⟨g.t, g.x, _, r', a'⟩ : Ent) else g).x = g.x
    split <;> rfl
  refine ⟨⟨⟨?_, fun g hg => ?_, repl_a c.nd c.d.2.2.1 fa, c.d.2.2.2⟩, by rw [ex]; exact c.nd, ?_, fun g hg => ?_, fun g hg => ?_⟩, ?_⟩
  · rw [upd_same, putK_ents mx]
  · rcases rp g hg with ⟨z1, z2, z3⟩ | z
    · rw [z1, z2, z3]
      refine ⟨RowE.but (row.tight iu) hD (fun b o n q => by rw [upd_ne n]; exact q) aD, Fr0.back x01 (Fr0.of ha), aD⟩
    · obtain ⟨r1, r2, r3⟩ := c.d.2.1 g z
      exact ⟨RowE.but (RowE.extN r1 (ExtN.same s)) hD (fun b o n q => by rw [upd_ne n]; exact q) r3, r2, r3⟩
  · unfold repl
    rw [List.length_map]
    exact c.ln
  · rcases rp g hg with ⟨z1, _⟩ | z
    · rw [z1]
      exact iu
    · exact c.sup g z
  · rcases rp g hg with ⟨z1, _⟩ | z
    · rw [z1]
      exact ok
    · exact c.ok g z
  · have z : (repl es t.nm (e.R.step e2.R t) r' a').map nr = (es.map nr).map fun q => if q.1 = t.nm then (q.1, e.R.step e2.R t) else q := repl_nr
    rw [z]
    unfold stepM
    rw [List.map_map, List.map_map]
    refine List.map_congr_left fun g hg => ?_
    show (if g.x = t.nm then (g.x, e.R.step e2.R t) else nr g) = if g.x = t.nm then (g.x, g.R.step (look (es.map nr) t.nm2) t) else nr g
    by_cases y : g.x = t.nm
    · rw [if_pos y, if_pos y, l2]
      have e3 : g.R = e.R := by rw [← nr_look c.nd hg, ← nr_look c.nd he, y, hx]
      rw [e3]
    · rw [if_neg y, if_neg y]
end
end SS
namespace SS
open PySem PySem.Spec PyProof.Rows L2 NumText LamX KyS
/-! ### a for over a list or a tuple -/
theorem pi_or {X : Cx} {tg e : Expr} {w1 w2 : TI} (h1 : PI X tg e w1) (h2 : PI X tg e w2) : PI X tg e (fun σ H R => w1 σ H R ∨ w2 σ H R) :=
  ⟨fun pins s σ H R I h => h.elim (h1.run pins s σ H R I) (h2.run pins s σ H R I)⟩
def iSeqW (K : PySem.W.Frag) (te : TE) : TI := fun σ H R => iList K te σ H R ∨ iTup K te σ H R
theorem pi_seqA {X : Cx} {tg e : Expr} {te : TE} {K : PySem.W.Frag} (hK : K = X.K) (h : PE X e te) : PI X tg e (iSeqW K te) := by
  subst hK
  exact pi_or (pi_list h) (pi_tup h)
theorem for_seq {K : PySem.W.Frag} {b : Addr} {i : Nat} {xs : List V} {g : TG} {tb : TS} {D : Ends} {σ : L2.St} {H : Hp} (hv : σ[i]? = some (some (V.ref b))) (Pv : Nat → L2.St → Hp → Prop) (h0 : Pv 0 σ H) (hq : (∀ j σ' H', Pv j σ' H' → SqL K H' b xs) ∨ ∀ j σ' H', Pv j σ' H' → SqT K H' b xs)
    (hs : ∀ i x σ H, xs[i]? = some x → Pv i σ H → g x σ H fun σ2 H2 => tb { D with nx := Pv (i + 1), ct := Pv (i + 1), bk := D.nx } σ2 H2) (hd : ∀ σ H, Pv xs.length σ H → D.nx σ H) : tFor (iSeqW K (tVar i)) g tb D σ H := by
  rcases hq with hq | hq
  · exact .inl ⟨_, hv, b, rfl, ⟨_, hq 0 _ _ h0⟩, for_list (K := K) (a := b) (xs := xs) Pv h0 (fun j σ' H' _ p => hq j σ' H' p) hs hd⟩
  · exact .inr ⟨_, hv, b, rfl, ⟨_, hq 0 _ _ h0⟩, for_tup (K := K) (a := b) (xs := xs) Pv h0 (fun j σ' H' _ p => hq j σ' H' p) hs hd⟩
theorem step_in {U : List Str} {R R2 : Rw} {t : Stp} (h : R.In U) (h2 : R2.In U) (o : R.Okb 1400) (o2 : R2.Okb 1400) (oc : SS.Okb 105 t.num) : (R.step R2 t).In U := fun k hk => by
  refine Classical.byContradiction fun n => hk ?_
  have z1 : R.f k = (0, 1) := okb_top0 (o.1 k) (Classical.byContradiction fun y => n (h k y))
  have z2 : R2.f k = (0, 1) := okb_top0 (o2.1 k) (Classical.byContradiction fun y => n (h2 k y))
  cases t with
  | tm x c =>
    show (ftimes (R.f k) c).1 = 0
    rw [z1, zero_ftimes (show SS.Okb 105 c from oc)]
  | ad x y c =>
    show (fplus (R.f k) (ftimes (R2.f k) c)).1 = 0
    rw [z1, z2, zero_ftimes (show SS.Okb 105 c from oc)]
    decide
theorem StpAt.one {K : PySem.W.Frag} {H : Hp} {v : V} {t : Stp} (h : StpAt K H v t) : ∃ ss xs, v = .ref ss ∧ SqT K H ss xs ∧ atI xs 1 = some (.str t.nm) := by
  cases t with
  | tm x c =>
    obtain ⟨s, n, e, h1, _⟩ := h
    exact ⟨s, _, e, h1, rfl⟩
  | ad x y c =>
    obtain ⟨s, n, e, h1, _⟩ := h
    exact ⟨s, _, e, h1, rfl⟩
theorem Stp.Ok.nm {l : List Str} {t : Stp} (h : t.Ok l) : t.nm ∈ l ∧ t.nm2 ∈ l ∧ SS.Okb 105 t.num := by
  cases t with
  | tm x c => exact ⟨h.1, h.1, h.2.2⟩
  | ad x y c => exact ⟨h.1, h.2.1, h.2.2.2⟩
theorem pairs_of {H : Hp} : ∀ (gs : List Ent) (ts : List Addr), Paired (fun (t : Addr) (q : Key × V) => H t = some (.tup [kV q.1, q.2])) ts (gs.map fun e => ((Sum.inr e.x : Key), V.ref e.r)) →
    ∃ es : List Ent, es.map nr = gs.map nr ∧ es.map (fun e => V.ref e.t) = ts.map V.ref ∧ es.map (·.a) = gs.map (·.a) ∧ ∀ e ∈ es, H e.t = some (.tup [.str e.x, .ref e.r]) ∧ ∃ g ∈ gs, g.R = e.R ∧ g.r = e.r ∧ g.a = e.a
  | [], ts, h => by
    cases h
    exact ⟨[], rfl, rfl, rfl, fun e he => by cases he⟩
  | g :: gs, ts, h => by
    cases h with
    | cons r p =>
      rename_i t ts'
      obtain ⟨es, e1, e2, e3, e4⟩ := pairs_of gs ts' p
      refine ⟨⟨t, g.x, g.R, g.r, g.a⟩ :: es, by rw [List.map_cons, List.map_cons, e1]; rfl, by rw [List.map_cons, List.map_cons, e2], by rw [List.map_cons, List.map_cons, e3], fun e he => ?_⟩
      rcases List.mem_cons.mp he with rfl | he
      · exact ⟨r, g, List.mem_cons_self, rfl, rfl, rfl⟩
      · obtain ⟨a1, g', hg, a2⟩ := e4 e he
        exact ⟨a1, g', List.mem_cons_of_mem _ hg, a2⟩
section
variable {P : Program} {w : World} {K : PySem.W.Frag} {mg : Str → Option Value} {base : Heap}
def isN (q : Nm) : Bool := decide (q.2.s = Str.ofString "is")
/-- a pair that was told -/
def PairE (K : PySem.W.Frag) (m : Nat) (H0 H : Hp) (e : Ent) : Prop := H e.t = some (.tup [.str e.x, .ref e.r]) ∧ RowE K m H e.r e.a e.R ∧ Fr0 H0 e.a
/-- the names rising of the rows "is", and that all is well on the way -/
def Way (U : List Str) (L : List Nm) (ts : List Stp) : Prop := ∀ L0 : List Nm, L0.Perm (L.filter isN) → (L0.map (·.1)).Pairwise leS → (∀ t ∈ ts, t.Ok (L0.map (·.1))) ∧ ∀ i, ∀ q ∈ (ts.take i).foldl stepM L0, q.2.In U ∧ q.2.Okb 1400
def spStepped (K : PySem.W.Frag) (T : List (Addr × Str)) : Sp := fun vs H Q _ => ∃ (a b : Addr) (zs : List Ent) (us : List V) (ts : List Stp) (U : List Str), vs = [.ref a, .ref b] ∧ SqA K H a (zs.map fun z => V.ref z.t) ∧ (∀ z ∈ zs, EntOk K U.length H z) ∧ (zs.map (·.x)).Nodup ∧ zs.length ≤ 400 ∧ U.length ≤ 20 ∧ LamX.Tabs T H ∧
  SqA K H b us ∧ Paired (StpAt K H) us ts ∧ Way U (zs.map nr) ts ∧
  ∀ (H' : Hp) (l : Addr) (es : List Ent) (L0 : List Nm), ExtN H H' → LamX.Tabs T H' → L0.Perm ((zs.map nr).filter isN) → (L0.map (·.1)).Pairwise leS → es.map nr = ts.foldl stepM L0 → H' l = some (.lst (es.map fun e => V.ref e.t)) → (∀ e ∈ es, PairE K U.length H H' e) → (es.map (·.a)).Nodup → Fr0 H l → Q (.ref l) H'
theorem scStepped : FnScope ["rows", "steps", "equals", "step"] ["rows", "steps"] (defScope sStepped) := ⟨rfl, rfl, rfl, by decide +kernel, rfl, by decide +kernel, by decide +kernel⟩
theorem ok_stepped {f : Addr} {fd : FuncData} {T : List (Addr × Str)} (F : Fun K "stepped" "stepped" sStepped f fd) (mli : mg "list" = none) (eb : Cl P w K mg base CX0 5 "equals_by_name" (spEbn K T) []) (fs : Cl P w K mg base CX0 4 "fits_step" (spFitsStep K) []) (rb : Cl P w K mg base CX0 6 "row_behind" (spRowBehind K) []) :
    FnOk P w K mg base CX0 7 f fd ["rows", "steps"] (spStepped K T) := by
  refine F.ok scStepped (fun vs H Q E h => ?_) (fun cdv A outer s H vs Q E hr h => ?_)
  · obtain ⟨_, _, _, _, _, _, rfl, _⟩ := h
    rfl
  · obtain ⟨a, b, zs, us, ts, U, rfl, hS, hz, nd, hl, hU, ht, hb, hst, way, q⟩ := h
    have hu := hu_of hr
    have lst : us.length = ts.length := Paired.length hst
    refine ⟨_, pss_cons (ps_set (i := 2) scStepped.nd rfl (.inl rfl) (pc0 eb hr (by decide) (pa_cons (pv 0) pa_nil)))
        (pss_cons (ps_for PassesOwn.never rfl (pi_seqA (K := K) rfl (pv 1)) (pg_name (i := 3) scStepped.nd rfl (.inl rfl))
          (pss_cons (ps_if (pt_not (pt_val (pc0 fs hr (by decide) (pa_cons (pv 2) (pa_cons (pv 3) pa_nil))))) (pss_one ps_never) pss_nil)
          (pss_one (ps_dput hu (pv 2) (pe_ix (ix_tupK (K := K) rfl) (pv 3) pe_int (fun _ _ => rfl)) (pc0 rb hr (by decide) (pa_cons (pv 2) (pa_cons (pv 3) pa_nil))) rfl))))
        (pss_one (ps_ret (LiI.pe_listItems rfl (pv 2) (by rfl) mli (by decide +kernel))))), ?_⟩
    refine ⟨_, rfl, a, zs, U.length, rfl, hS, hz, nd, hl, by omega, ht, fun H1 D es e1 T1 N1 pm srt => ?_⟩
    have pm' : (es.map nr).Perm ((zs.map nr).filter isN) := by
      have z : (zs.filter isR).map nr = (zs.map nr).filter isN := by
        rw [List.filter_map]
        rfl
      rw [← z]
      exact pm
    have srt' : ((es.map nr).map (·.1)).Pairwise leS := by
      rw [List.map_map]
      exact srt
    obtain ⟨okT, okW⟩ := way _ pm' srt'
    have hnx : (es.map nr).map (·.1) = es.map (·.x) := by
      rw [List.map_map]
      rfl
    have nde : (es.map (·.x)).Nodup := by
      have z : (((zs.map nr).filter isN).map (·.1)).Sublist ((zs.map nr).map (·.1)) := (List.filter_sublist).map _
      have z2 : ((zs.map nr).map (·.1)).Nodup := by
        rw [List.map_map]
        exact nd
      rw [← hnx]
      exact (pm'.map _).nodup_iff.mpr (z2.sublist z)
    have lle : es.length ≤ 400 := by
      have z := pm'.length_eq
      have z2 := List.length_filter_le isN (zs.map nr)
      rw [List.length_map] at z z2
      omega
    have cur0 : Cur K U H H1 D es := ⟨N1, nde, lle, fun e he => (okW 0 (nr e) (List.mem_map.mpr ⟨e, he, rfl⟩)).1, fun e he => (okW 0 (nr e) (List.mem_map.mpr ⟨e, he, rfl⟩)).2⟩
    have names : ∀ j, ((ts.take j).foldl stepM (es.map nr)).map (·.1) = es.map (·.x) := fun j => by
      have z : ∀ (l : List Stp) (L : List Nm), (l.foldl stepM L).map (·.1) = L.map (·.1) := fun l => by
        induction l with
        | nil => intro L; rfl
        | cons t l ih =>
          intro L
          rw [List.foldl_cons, ih, stepM_names]
      rw [z, hnx]
    refine for_seq (K := K) (b := b) (xs := us) rfl (fun i σ H' => ∃ (y3 : Option V) (gs : List Ent), σ = [some (.ref a), some (.ref b), some (.ref D), y3] ∧ (∀ x o, x ≠ D → H1 x = some o → H' x = some o) ∧ Cur K U H H' D gs ∧ gs.map nr = (ts.take i).foldl stepM (es.map nr))
      ⟨none, es, rfl, fun x o _ e => e, cur0, rfl⟩ ?_ ?_ ?_
    · have bD : ∀ {H' : Hp}, (∀ x o, x ≠ D → H1 x = some o → H' x = some o) → ExtN H H' := fun k b o eb nt => k _ _ (N1.2.2.2.ne eb nt) (e1 _ _ eb nt)
      rcases hb with hb | hb
      · exact .inl fun j σ' H' ⟨_, _, _, k, _⟩ => KyS.SqL.extN hb (bD k)
      · exact .inr fun j σ' H' ⟨_, _, _, k, _⟩ => KyS.SqT.extN hb (bD k)
    · rintro i v σ H' hv ⟨y3, gs, rfl, k1, cur, hg⟩
      have x01 : ExtN H H' := fun b o eb nt => k1 _ _ (N1.2.2.2.ne eb nt) (e1 _ _ eb nt)
      obtain ⟨t, hti, hst'⟩ := (paired_get hst).2 i v hv
      have st' := hst'.extN x01
      have hgx : gs.map (·.x) = es.map (·.x) := by
        have z := names i
        rw [← hg, List.map_map] at z
        exact z
      have okt := okT t (List.mem_of_getElem? hti)
      rw [hnx, ← hgx] at okt
      obtain ⟨n1, n2, n3⟩ := okt.nm
      obtain ⟨e, he, hx⟩ := List.mem_map.mp n1
      obtain ⟨g, hgm, hx2⟩ := List.mem_map.mp n2
      have some1 : ∀ x ∈ gs.map (·.x), (valV (gs.map fun e => ((Sum.inr e.x : Key), V.ref e.r)) (.inr x)).isSome = true := fun x hx => by
        obtain ⟨q, hq, rfl⟩ := List.mem_map.mp hx
        rw [val_ent cur.nd hq]
        rfl
      have v1 := val_ent cur.nd he
      rw [hx] at v1
      have v2 := val_ent cur.nd hgm
      rw [hx2] at v2
      have tk : (ts.take (i + 1)).foldl stepM (es.map nr) = stepM (gs.map nr) t := by
        rw [List.take_add_one, hti, hg, List.foldl_append]
        rfl
      have l2 : look (gs.map nr) t.nm2 = g.R := by
        rw [← hx2]
        exact nr_look cur.nd hgm
      have okS : (e.R.step g.R t).In U ∧ (e.R.step g.R t).Okb 1400 := by
        refine okW (i + 1) (e.x, e.R.step g.R t) ?_
        rw [tk]
        refine List.mem_map.mpr ⟨nr e, List.mem_map.mpr ⟨e, he, rfl⟩, ?_⟩
        show (if e.x = t.nm then (e.x, e.R.step (look (gs.map nr) t.nm2) t) else nr e) = _
        rw [if_pos hx, l2]
      obtain ⟨r1, _⟩ := cur.d.2.1 e he
      obtain ⟨r2, _⟩ := cur.d.2.1 g hgm
      refine ⟨_, rfl, _, rfl, D, _, gs.map (·.x), v, t, rfl, cur.d.1, some1, st', okt, true, rfl, iteF ?_⟩
      refine ⟨_, rfl, _, rfl, D, _, v, t, e.r, e.a, g.r, g.a, e.R, g.R, U.length, rfl, cur.d.1, st', v1, v2, r1, r2, hU, cur.ok e he, cur.ok g hgm, n3, okS.2, fun H2 r' a' s2 nr' na' row => ?_⟩
      obtain ⟨ss, xs, ev, hxs, hat⟩ := (st'.extN (ExtN.same s2)).one
      have step := cur.step he hgm hx hx2 s2 nr' na' x01 row okS.2 okS.1
      refine ⟨_, rfl, _, rfl, ss, xs, 1, _, ev, rfl, hxs, hat, D, _, rfl, DPut.k (k := .inr t.nm) (s2 _ _ cur.d.1) (small1000 (by rw [List.length_map]; have := cur.ln; omega)), _, _, rfl, fun x o n eb => ?_, step.1, by rw [step.2, tk]⟩
      rw [upd_ne n]
      exact s2 _ _ (k1 x o n eb)
    · rintro σ H' ⟨y3, gs, rfl, k1, cur, hg⟩
      have x01 : ExtN H H' := fun b o eb nt => k1 _ _ (N1.2.2.2.ne eb nt) (e1 _ _ eb nt)
      rw [lst, List.take_length] at hg
      refine ⟨_, rfl, D, _, rfl, cur.d.1, fun H2 l pts s2 nl2 _ _ hl2 pd => ?_⟩
      obtain ⟨es', q1, q2, q3, q4⟩ := pairs_of gs pts pd
      refine q H2 l es' (es.map nr) (x01.trans (ExtN.same s2)) ?_ pm' srt' (by rw [q1, hg]) (by rw [hl2, ← q2]) (fun e he => ?_) (by rw [q3]; exact cur.d.2.2.1) (Fr0.back x01 (Fr0.of nl2))
      · intro p hp
        obtain ⟨ps, a1, a2, a3⟩ := T1 p hp
        refine ⟨ps, s2 _ _ (k1 _ _ (ne_of a1 N1.1 (fun z => by cases z)) a1), a2, fun pos cv hcv => ?_⟩
        obtain ⟨c0, f1, f2⟩ := a3 pos cv hcv
        exact ⟨c0, f1, s2 _ _ (k1 _ _ (ne_of f2 N1.1 (fun z => by unfold CodeO at z; cases z)) f2)⟩
      · obtain ⟨a1, g, hg', a2, a3, a4⟩ := q4 e he
        obtain ⟨r1, f1, _⟩ := cur.d.2.1 g hg'
        rw [a2, a3, a4] at r1
        rw [a4] at f1
        exact ⟨a1, r1.extN (ExtN.same s2), f1⟩
end
end SS
namespace SS
open PySem PySem.Spec PyProof.Rows L2
theorem mid {Inv C : L2.St → Hp → Prop} {G : Prop} (m : (∀ σ H, Inv σ H → C σ H) → G) (k : ∀ σ H, Inv σ H → C σ H) : G := m k
theorem two_okb {K : PySem.W.Frag} {H : Hp} {p q : Addr} {u v : Int × Int} {A B : Nat} (h1 : FrT K H p u.1 u.2) (h2 : FrT K H q v.1 v.2) (k1 : Okb A u) (k2 : Okb B v) (l1 : A ≤ 3000) (l2 : B ≤ 3000) : Two K H [.ref p, .ref q] u.1 u.2 v.1 v.2 :=
  ⟨p, q, rfl, h1, h2, k1.1, k2.1, sm_mono k1.2.1 l1, sm_mono k1.2.2.1 l1, sm_mono k2.2.1 l2, sm_mono k2.2.2.1 l2, k1.2.2.2, k2.2.2.2⟩
theorem s_ba : ∀ s ∈ (["below", "above"] : List Str), s ∈ sorts := by decide +kernel
theorem s_mb : ∀ s ∈ (["most", "below"] : List Str), s ∈ sorts := by decide +kernel
theorem s_la : ∀ s ∈ (["least", "above"] : List Str), s ∈ sorts := by decide +kernel
section
variable {P : Program} {w : World} {K : PySem.W.Frag} {mg : Str → Option Value} {base : Heap}
def spSRow (K : PySem.W.Frag) : Sp := fun vs H Q _ => ∃ (st c u b : Addr) (xs : List Str) (ls : List (Key × V)) (g : Key → Int × Int), vs = [.ref st, .ref u, .ref b] ∧ StA st c H ∧ H u = some (.lst (xs.map V.str)) ∧ xs.length ≤ 9 ∧ (∀ x ∈ xs, NmOk x) ∧ DM False 10 H b ls g ∧ (∀ k, Okb 20 (g k)) ∧
  ∀ H' r a p kvs f srt num, But st H H' → StA st c H' → H a = none → H' r = some (.tup [.ref a, .str srt, .ref p]) → DM True 10 H' a kvs f → (∀ k, Okb 20 (f k)) → srt ∈ sorts → FrT K H' p num.1 num.2 → Okb 20 num → KIn xs kvs → Q (.ref r) H'
theorem scSRow : FnScope ["_law_state", "_law_unknowns", "_law_point", "_law_way", "_law_sort", "_law_one", "_law_near", "_law_bound"] ["_law_state", "_law_unknowns", "_law_point"] (defScope sSRow) := ⟨rfl, rfl, rfl, by decide +kernel, rfl, by decide +kernel, by decide +kernel⟩
set_option maxHeartbeats 2000000 in
theorem ok_srow {f' : Addr} {fd : FuncData} (F : Fun K "_law_some_row" "_law_some_row" sSRow f' fd) (ss : Cl P w K mg base CX0 5 "_law_some_sum" spSsum []) (tk : Cl P w K mg base CX0 3 "_law_take" spTake []) (nm : Cl P w K mg base CX0 4 "_law_number" spNumber [])
    (lw : Cl P w K mg base CX0 4 "_law_worth" (spWorth K) []) (lpl : Cl P w K mg base CX0 3 "_law_plus" (spPlus K) []) (sho : Cl P w K mg base CX0 1 "_law_short" (spShort K) []) : FnOk P w K mg base CX0 6 f' fd ["_law_state", "_law_unknowns", "_law_point"] (spSRow K) := by
  refine F.ok scSRow (fun vs H Q E h => ?_) (fun cdv A outer s H vs Q E hr h => ?_)
  · obtain ⟨_, _, _, _, _, _, _, rfl, _⟩ := h
    rfl
  · obtain ⟨st, c, u, b, xs, ls, g, rfl, sa, hu0, xl, hx, db, okg, q⟩ := h
    refine ⟨_, pss_cons (ps_set (i := 3) scSRow.nd rfl (.inl rfl) (pc0 tk hr (by decide) (pa_cons (pv 0) (pa_cons pe_int pa_nil))))
      (pss_cons (ps_set (i := 4) scSRow.nd rfl (.inl rfl) (pe_ix ix_tup (pe_tup (pa_cons pe_str (pa_cons pe_str (pa_cons pe_str (pa_cons pe_str (pa_cons pe_str pa_nil)))))) (pc0 tk hr (by decide) (pa_cons (pv 0) (pa_cons pe_int pa_nil))) (fun _ _ => rfl)))
      (pss_cons (ps_set (i := 5) scSRow.nd rfl (.inl rfl) (pc0 ss hr (by decide) (pa_cons (pv 0) (pa_cons (pv 1) pa_nil))))
      (pss_cons (ps_set (i := 6) scSRow.nd rfl (.inl rfl) (pe_op op_sub (pc0 tk hr (by decide) (pa_cons (pv 0) (pa_cons pe_int pa_nil))) pe_int))
      (pss_cons (ps_set (i := 7) scSRow.nd rfl (.inl rfl) (pc0 nm hr (by decide) (pa_cons (pv 0) pa_nil)))
      (pss_cons (ps_if (pt_cmpR op_gt (pv 3) pe_int (nomark _)) (pss_one (ps_set (i := 7) scSRow.nd rfl (.inl rfl) (pc0 sho hr (by decide) (pa_cons (pc0 lpl hr (by decide) (pa_cons (pc0 lw hr (by decide) (pa_cons (pv 5) (pa_cons (pv 2) pa_nil))) (pa_cons (pe_tup (pa_cons (pv 6) (pa_cons pe_int pa_nil))) pa_nil))) pa_nil)))) pss_nil)
      (pss_cons (ps_if (PW.pt (pw_and (pt_cmpR op_gt (pv 3) pe_int (nomark _)) (pw_and1 (pt_cmpR op_ne (pv 6) pe_int (nomark _)))))
        (pss_cons (ps_set (i := 4) scSRow.nd rfl (.inl rfl) (pe_ix ix_tup (pe_tup (pa_cons pe_str (pa_cons pe_str pa_nil))) (pc0 tk hr (by decide) (pa_cons (pv 0) (pa_cons pe_int pa_nil))) (fun _ _ => rfl)))
        (pss_cons (ps_if (pt_cmpR op_gt (pv 6) pe_int (nomark _)) (pss_one (ps_set (i := 4) scSRow.nd rfl (.inl rfl) (pe_ix ix_tup (pe_tup (pa_cons pe_str (pa_cons pe_str pa_nil))) (pc0 tk hr (by decide) (pa_cons (pv 0) (pa_cons pe_int pa_nil))) (fun _ _ => rfl)))) pss_nil)
        (pss_one (ps_if (pt_cmpR op_lt (pv 6) pe_int (nomark _)) (pss_one (ps_set (i := 4) scSRow.nd rfl (.inl rfl) (pe_ix ix_tup (pe_tup (pa_cons pe_str (pa_cons pe_str pa_nil))) (pc0 tk hr (by decide) (pa_cons (pv 0) (pa_cons pe_int pa_nil))) (fun _ _ => rfl)))) pss_nil)))) pss_nil)
      (pss_one (ps_ret (pe_tup (pa_cons (pv 5) (pa_cons (pv 4) (pa_cons (pv 7) pa_nil)))))))))))), ?_⟩
    have us := strs_ne sa hu0
    refine ⟨_, rfl, st, c, 5, rfl, by decide, lt8 (by decide), sa, fun H1 way b1 s1 l1 u1 => ?_⟩
    refine ⟨by show 5 ≤ sizeLine; decide, fun U nU => ?_⟩
    have sU := same_new (o := .tup (sorts.map V.str)) nU
    refine ⟨_, rfl, st, c, 5, rfl, by decide, lt8 (by decide), s1.same sU, fun H2 d2 b2 s2 l2 u2 => ?_⟩
    obtain ⟨srt, hs1, hs2⟩ := at_str (xs := sorts) l2 u2
    refine ⟨U, _, d2, _, rfl, rfl, SqT.of (b2.tup (s1.same sU) upd_same), hs2, ?_⟩
    have B2 := (b1.trans (Same.but sU)).trans b2
    refine ⟨_, rfl, _, rfl, st, c, u, xs, rfl, s2, B2 _ _ us hu0, xl, hx, fun H3 a1 k1 b3 s3 na1 d1 z1 kin => ?_⟩
    have D1 : DM True 10 H3 a1 k1 (pval H3 k1) := (d1.dm z1).mono (by omega)
    have ok1 : ∀ k, Okb 20 (pval H3 k1 k) := fun k => d1.okp (k := 19) k
    generalize pval H3 k1 = f1 at D1 ok1
    have B3 := B2.trans b3
    have nab : a1 ≠ b := fun e => by
      rw [e, (db.but B2 sa).1] at na1
      cases na1
    have naH : H a1 = none := by
      cases e : H a1 with
      | none => rfl
      | some o =>
        by_cases c1 : a1 = st
        · obtain ⟨i, n, ff, xs', g1, _⟩ := s2
          rw [c1, g1] at na1
          cases na1
        · rw [B2 _ _ c1 e] at na1
          cases na1
    refine ⟨_, rfl, st, c, 5, rfl, by decide, lt8 (by decide), s3, fun H4 d4 b4 s4 l4 u4 => ⟨d4, 2, rfl, rfl, ?_⟩⟩
    refine ⟨_, rfl, st, c, rfl, s4, fun H5 p5 b5 s5 f5 => ?_⟩
    have B5 := (B3.trans b4).trans b5
    have D5 := (D1.but b4 s3).but b5 s4
    have hn := f5.val.1
    have okn := f5.okb
    generalize fval H5 (.ref p5) = num5 at hn okn
    refine' mid (C := _) (Inv := fun σ H' => ∃ (p : Addr) (num : Int × Int), σ = [some (.ref st), some (.ref u), some (.ref b), some (.int way), some (.str srt), some (.ref a1), some (.int (d4 - 2)), some (.ref p)] ∧ But st H H' ∧ StA st c H' ∧ DM True 10 H' a1 k1 f1 ∧ FrT K H' p num.1 num.2 ∧ Okb 20 num) (fun key => ?main) ?cont
    case main =>
      refine ⟨_, rfl, way, 0, rfl, rfl, _, rfl, ite2 (fun e => ?ya) (fun e => ?yb)⟩
      case yb => exact key _ _ ⟨p5, num5, rfl, B5, s5, D5, FrT.of hn, okn⟩
      case ya =>
        refine ⟨_, rfl, _, rfl, a1, b, k1, ls, f1, g, True, False, 10, 10, 20, 20, rfl, D5, db.but B5 sa, ok1, okg, by decide, nab, fun H6 r6 e6 fw okw => ?_⟩
        refine ⟨_, rfl, small2, fun N nN => ?_⟩
        have eN := same_new (o := .tup [.int (d4 - 2), .int 1]) nN
        have okd : Okb 11 (d4 - 2, 1) := okb_whole (by omega)
        refine ⟨_, _, d4 - 2, 1, two_okb (v := (d4 - 2, 1)) (fw.new eN) (FrT.of upd_same) okw okd (by decide) (by decide), fun r7 n7 => ?_⟩
        have e7 := same_new (o := .tup [.int (fplus (wof f1 g (k1.map (·.1))) (d4 - 2, 1)).1, .int (fplus (wof f1 g (k1.map (·.1))) (d4 - 2, 1)).2]) n7
        refine ⟨r7, fplus (wof f1 g (k1.map (·.1))) (d4 - 2, 1), rfl, FrT.of upd_same, (okb_plus okw okd).mono (by decide), fun H8 r8 M e8 f8 ok8 => ?_⟩
        have E := (e6.trans eN).trans (e7.trans e8)
        exact key _ _ ⟨r8, M, rfl, B5.trans (Same.but E), s5.same E, D5.same E, f8, ok8.mono (by decide)⟩
    case cont =>
      rintro σ H6 ⟨p, num, rfl, B6, s6, D6, f6, okp⟩
      refine' mid (C := _) (Inv := fun σ H' => ∃ srt' : Str, srt' ∈ sorts ∧ σ = [some (.ref st), some (.ref u), some (.ref b), some (.int way), some (.str srt'), some (.ref a1), some (.int (d4 - 2)), some (.ref p)] ∧ But st H H' ∧ StA st c H' ∧ DM True 10 H' a1 k1 f1 ∧ FrT K H' p num.1 num.2) (fun key => ?main2) ?cont2
      case main2 =>
        refine ⟨_, rfl, way, 2, rfl, rfl, _, rfl, ite2 (fun e => ?ya) (fun e => ?yb)⟩
        case yb =>
          refine iteF ?_
          exact key _ _ ⟨srt, hs1, rfl, B6, s6, D6, f6⟩
        case ya =>
          refine ⟨_, rfl, rfl, _, rfl, ite2 (fun e2 => ?za) (fun e2 => ?zb)⟩
          case zb => exact key _ _ ⟨srt, hs1, rfl, B6, s6, D6, f6⟩
          case za =>
            refine ⟨small2, fun U7 nU7 => ?_⟩
            have sU7 := same_new (o := .tup ((["below", "above"] : List Str).map V.str)) nU7
            refine ⟨_, rfl, st, c, 2, rfl, by decide, lt8 (by decide), s6.same sU7, fun H7 d7 b7 s7 l7 u7 => ?_⟩
            obtain ⟨srt7, hm7, ha7⟩ := at_str (xs := (["below", "above"] : List Str)) l7 u7
            refine ⟨U7, _, d7, _, rfl, rfl, SqT.of (b7.tup (s6.same sU7) upd_same), ha7, ?_⟩
            have B7 := (B6.trans (Same.but sU7)).trans b7
            have D7 := (D6.same sU7).but b7 (s6.same sU7)
            have f7 := (f6.new sU7).but b7 (s6.same sU7)
            refine' mid (C := _) (Inv := fun σ H' => ∃ srt' : Str, srt' ∈ sorts ∧ σ = [some (.ref st), some (.ref u), some (.ref b), some (.int way), some (.str srt'), some (.ref a1), some (.int (d4 - 2)), some (.ref p)] ∧ But st H H' ∧ StA st c H' ∧ DM True 10 H' a1 k1 f1 ∧ FrT K H' p num.1 num.2) (fun key2 => ?main3) ?cont3
            case main3 =>
              refine ⟨_, rfl, d4 - 2, 0, rfl, rfl, _, rfl, ite2 (fun e => ?va) (fun e => ?vb)⟩
              case vb => exact key2 _ _ ⟨srt7, s_ba _ hm7, rfl, B7, s7, D7, f7⟩
              case va =>
                refine ⟨small2, fun U8 nU8 => ?_⟩
                have sU8 := same_new (o := .tup ((["most", "below"] : List Str).map V.str)) nU8
                refine ⟨_, rfl, st, c, 2, rfl, by decide, lt8 (by decide), s7.same sU8, fun H8 d8 b8 s8 l8 u8 => ?_⟩
                obtain ⟨srt8, hm8, ha8⟩ := at_str (xs := (["most", "below"] : List Str)) l8 u8
                refine ⟨U8, _, d8, _, rfl, rfl, SqT.of (b8.tup (s7.same sU8) upd_same), ha8, ?_⟩
                have B8 := (B7.trans (Same.but sU8)).trans b8
                have D8 := (D7.same sU8).but b8 (s7.same sU8)
                have f8 := (f7.new sU8).but b8 (s7.same sU8)
                exact key2 _ _ ⟨srt8, s_mb _ hm8, rfl, B8, s8, D8, f8⟩
            case cont3 =>
              rintro σ H9 ⟨srt', hs', rfl, B9, s9, D9, f9⟩
              refine ⟨_, rfl, d4 - 2, 0, rfl, rfl, _, rfl, ite2 (fun e => ?va) (fun e => ?vb)⟩
              case vb => exact key _ _ ⟨srt', hs', rfl, B9, s9, D9, f9⟩
              case va =>
                refine ⟨small2, fun U10 nU10 => ?_⟩
                have sU10 := same_new (o := .tup ((["least", "above"] : List Str).map V.str)) nU10
                refine ⟨_, rfl, st, c, 2, rfl, by decide, lt8 (by decide), s9.same sU10, fun H10 d10 b10 s10 l10 u10 => ?_⟩
                obtain ⟨srt10, hm10, ha10⟩ := at_str (xs := (["least", "above"] : List Str)) l10 u10
                refine ⟨U10, _, d10, _, rfl, rfl, SqT.of (b10.tup (s9.same sU10) upd_same), ha10, ?_⟩
                have B10 := (B9.trans (Same.but sU10)).trans b10
                have D10 := (D9.same sU10).but b10 (s9.same sU10)
                have f10 := (f9.new sU10).but b10 (s9.same sU10)
                exact key _ _ ⟨srt10, s_la _ hm10, rfl, B10, s10, D10, f10⟩
      case cont2 =>
        rintro σ H9 ⟨srt', hs', rfl, B9, s9, D9, f9⟩
        refine ⟨_, rfl, _, rfl, _, rfl, by show 3 ≤ sizeLine; decide, fun R nR => ?_⟩
        have sR := same_new (o := .tup [.ref a1, .str srt', .ref p]) nR
        exact q _ R a1 p k1 f1 srt' num (B9.trans (Same.but sR)) (s9.same sR) naH upd_same (D9.same sR) ok1 hs' (f9.new sR) okp kin
end
end SS
namespace SS
open PySem PySem.Spec PyProof.Rows L2 NumText LamX KyS
section
variable {P : Program} {w : World} {K : PySem.W.Frag} {mg : Str → Option Value} {base : Heap}
theorem EntOk.same {m : Nat} {H H' : Hp} {e : Ent} (h : EntOk K m H e) (s : Same H H') : EntOk K m H' e := h.extN (ExtN.same s)
theorem EntOk.lst {m : Nat} {H : Hp} {e : Ent} {D : Addr} {xs : List V} {o : HO} (h : EntOk K m H e) (hD : H D = some (.lst xs)) : EntOk K m (upd H D o) e := by
  have tp : ∀ b ys, H b = some (.tup ys) → (upd H D o) b = some (.tup ys) := fun b ys q => by rw [upd_ne (ne_of q hD (fun z => by cases z))]; exact q
  obtain ⟨h1, kvs, n, h2, h3, h4, h5⟩ := h
  refine ⟨tp _ _ h1, kvs, n, tp _ _ h2, ?_, ?_, h5⟩
  · obtain ⟨d1, d2, d3, d4, d5⟩ := h3
    refine ⟨by rw [upd_ne (ne_of d1 hD (fun z => by cases z))]; exact d1, d2, d3, fun p hp => ?_, d5⟩
    obtain ⟨e1, ⟨r', e2, e3⟩, e4⟩ := d4 p hp
    exact ⟨e1, ⟨r', e2, tp _ _ e3⟩, e4⟩
  · obtain ⟨f1, f2⟩ := h4
    rcases f1 with (f1 | ⟨u, f1⟩) | ⟨u, its, m, k1, k2, k3⟩
    · exact ⟨.inl (.inl (tp _ _ f1)), .base (.tup (tp _ _ f1))⟩
    · have q : (upd H D o) n = some (.frz u (.tup [.int e.R.n.1, .int e.R.n.2])) := by rw [upd_ne (ne_of f1 hD (fun z => by cases z))]; exact f1
      exact ⟨.inl (.inr ⟨u, q⟩), .fTuple q⟩
    · exact ⟨.inr ⟨u, its, m, k1, k2, k3⟩, .kTuple k1 k2⟩
/-- a list of pairs made since H, its sums apart -/
structure NewL (K : PySem.W.Frag) (m : Nat) (H H' : Hp) (l : Addr) (es : List Ent) : Prop where
  lst : H' l = some (.lst (es.map fun e => V.ref e.t))
  e : ∀ e ∈ es, EntOk K m H' e ∧ H e.a = none
  nd : (es.map (·.a)).Nodup
  nl : H l = none
/-! ### _law_copied -/
def spCopied (K : PySem.W.Frag) : Sp := fun vs H Q _ => ∃ (a : Addr) (zs : List Ent) (m : Nat), vs = [.ref a] ∧ SqL K H a (zs.map fun z => V.ref z.t) ∧ (∀ z ∈ zs, EntOk K m H z) ∧ zs.length ≤ 400 ∧ ∀ H' l es, Same H H' → NewL K m H H' l es → es.map nr = zs.map nr → Q (.ref l) H'
theorem scCopied : FnScope ["_law_rows", "_law_name", "_law_row"] ["_law_rows"] (defScope sCopied) := ⟨rfl, rfl, rfl, by decide +kernel, rfl, by decide +kernel, by decide +kernel⟩
theorem ok_copied {f : Addr} {fd : FuncData} {k : Nat} (F : Fun K "_law_copied" "_law_copied" sCopied f fd) (md : mg "dict" = none) : FnOk P w K mg base CX0 (k + 1) f fd ["_law_rows"] (spCopied K) := by
  refine F.ok scCopied (fun vs H Q E h => ?_) (fun cdv A outer s H vs Q E hr h => ?_)
  · obtain ⟨_, _, _, rfl, _⟩ := h
    rfl
  · obtain ⟨a, zs, m, rfl, hS, hz, hl, q⟩ := h
    refine ⟨_, pss_one (ps_ret (pe_lc (own := [("_law_name", 1), ("_law_row", 2)]) (g := gTup K 2 (gCons (gName 1) (gCons (gName 2) gNil))) rfl scCopied.nd (pi_list (pv 0)) (blkOk_by (by rfl))
        (fun _ _ _ _ _ => pg_tup rfl (pgs_cons (pg_name (i := 1) scCopied.nd rfl (.inl rfl)) (pgs_cons (pg_name (i := 2) scCopied.nd rfl (.inl rfl)) pgs_nil))) (fun _ _ _ _ _ => pts_nil)
        (fun _ _ _ _ _ => pe_tup (pa_cons (pv 1) (pa_cons (pe_tup (pa_cons (pe_callTy call_dictD (by rfl) md (by decide +kernel) (pa_cons (pe_ix (ix_tupK (K := K) rfl) (pv 2) pe_int (fun _ _ => rfl)) pa_nil))
          (pa_cons (pe_ix (ix_tupK (K := K) rfl) (pv 2) pe_int (fun _ _ => rfl)) (pa_cons (pe_ix (ix_tupK (K := K) rfl) (pv 2) pe_int (fun _ _ => rfl)) pa_nil)))) pa_nil))))), ?_⟩
    refine ⟨_, rfl, a, rfl, ⟨_, hS⟩, fun D nD => ?_⟩
    refine lc_list (K := K) (a := a) (xs := zs.map fun z => V.ref z.t) (fun i H' => ∃ es : List Ent, H' D = some (.lst (es.map fun e => V.ref e.t)) ∧ es.map nr = (zs.take i).map nr ∧ (∀ e ∈ es, EntOk K m H' e ∧ H e.a = none ∧ e.a ≠ D) ∧ (es.map (·.a)).Nodup ∧ ∀ b o, H b = some o → H' b = some o)
      ⟨[], upd_same, rfl, fun e he => (by cases he), List.nodup_nil, fun b o e => by rw [upd_ne (ne_of_none e nD)]; exact e⟩ (fun i H' _ ⟨_, _, _, _, _, w2⟩ => Same.seq w2 hS) ?_ ?_
    · rintro i v H' hv ⟨es, w1, wn, we, wd, w2⟩
      obtain ⟨z, hzi, rfl⟩ : ∃ z, zs[i]? = some z ∧ v = .ref z.t := by
        rw [List.getElem?_map] at hv
        cases e : zs[i]? with
        | none => rw [e] at hv; cases hv
        | some z =>
          rw [e] at hv
          exact ⟨z, rfl, (Option.some.inj hv).symm⟩
      have el : es.length ≤ 400 := by
        have q1 := congrArg List.length wn
        rw [List.length_map, List.length_map, List.length_take] at q1
        omega
      obtain ⟨h1, kvs, n, h2, h3, h4, h5⟩ := hz z (List.mem_of_getElem? hzi)
      refine ⟨z.t, _, rfl, SqT.of (w2 _ _ h1), rfl, _, _, rfl, _, _, rfl, rfl, rfl, ?_⟩
      have W : Same H H' := fun b o e => w2 b o e
      refine ⟨_, rfl, _, rfl, z.r, _, 0, _, rfl, rfl, SqT.of (w2 _ _ h2), atI_nat (j := 0) rfl, z.a, kvs, rfl, .inl (w2 _ _ h3.1), fun d nd => ?_⟩
      have s3 := same_new (o := .dK kvs) nd
      refine ⟨_, rfl, z.r, _, 1, _, rfl, rfl, SqT.of (s3 _ _ (w2 _ _ h2)), atI_nat (j := 1) rfl, _, rfl, z.r, _, 2, _, rfl, rfl, SqT.of (s3 _ _ (w2 _ _ h2)), atI_nat (j := 2) rfl, (by show 3 ≤ sizeLine; decide), fun r nr' => ?_⟩
      have s4 := same_new (o := .tup [.ref d, .str z.R.s, .ref n]) nr'
      refine ⟨small2, fun t nt => ⟨es.map fun e => V.ref e.t, ?_, small1000 (by rw [List.length_map]; omega), es ++ [⟨t, z.x, z.R, r, d⟩], ?_, ?_, ?_, ?_, ?_⟩⟩
      · exact same_new nt _ _ (s4 _ _ (s3 _ _ w1))
      all_goals have s5 := same_new (o := .tup [.str z.x, .ref r]) nt
      all_goals have S5 : Same H' _ := (s3.trans s4).trans s5
      · rw [upd_same, List.map_append]
        rfl
      · rw [List.map_append, wn, List.take_add_one, hzi, List.map_append]
        rfl
      · have hD5 := S5 _ _ w1
        have dD : d ≠ D := fun y => by rw [y, w1] at nd; cases nd
        intro e he
        rcases List.mem_append.mp he with he | he
        · obtain ⟨a1, a2, a3⟩ := we e he
          exact ⟨EntOk.lst (a1.same S5) hD5, a2, a3⟩
        · obtain rfl := List.mem_singleton.mp he
          have dm : DM True m _ d kvs z.R.f := ⟨s5 _ _ (s4 _ _ (upd_same (H := H') (a := d) (o := .dK kvs))), (h3.same (W.trans S5)).2⟩
          have ok : EntOk K m _ (⟨t, z.x, z.R, r, d⟩ : Ent) := ⟨upd_same (a := t) (o := .tup [.str z.x, .ref r]), kvs, n, s5 _ _ (upd_same (a := r) (o := .tup [.ref d, .str z.R.s, .ref n])), dm, h4.new (W.trans S5), h5⟩
          exact ⟨EntOk.lst ok hD5, W.free nd, dD⟩
      · rw [List.map_append]
        refine List.nodup_append.mpr ⟨wd, by simp, fun x hx y hy => ?_⟩
        obtain ⟨g, hg, rfl⟩ := List.mem_map.mp hx
        obtain rfl : y = d := by simpa using hy
        intro y
        obtain ⟨⟨_, kg, ng, _, r2, _⟩, _⟩ := we g hg
        have q1 := r2.1
        rw [y, nd] at q1
        cases q1
      · intro b o e
        rw [upd_ne (ne_of_none e nD)]
        exact S5 _ _ (w2 _ _ e)
    · rintro H' ⟨es, w1, wn, we, wd, w2⟩
      rw [List.length_map, List.take_length] at wn
      exact q H' D es w2 ⟨w1, fun e he => ⟨(we e he).1, (we e he).2.1⟩, wd, nD⟩ wn
end
end SS
namespace SS
open PySem PySem.Spec PyProof.Rows L2 NumText LamX KyS
section
variable {P : Program} {w : World} {K : PySem.W.Frag} {mg : Str → Option Value} {base : Heap}
theorem DM.toF {z : Prop} {m : Nat} {H : Hp} {a : Addr} {kvs : List (Key × V)} {f : Key → Int × Int} (h : DM z m H a kvs f) : DM False m H a kvs f :=
  ⟨h.1, h.2.1, h.2.2.1, fun p hp => ⟨(h.2.2.2.1 p hp).1, (h.2.2.2.1 p hp).2.1, fun z => z.elim⟩, h.2.2.2.2⟩
/-! ### _law_row_plus -/
def Rw.plus (R R2 : Rw) (c : Int × Int) : Rw := ⟨fun k => fplus (R.f k) (ftimes (R2.f k) c), R.s, fplus R.n (ftimes R2.n c)⟩
def spRowPlus (K : PySem.W.Frag) : Sp := fun vs H Q _ => ∃ (r a r2 a2 n : Addr) (R R2 : Rw) (c : Int × Int) (m : Nat), vs = [.ref r, .ref r2, .ref n] ∧ RowE K m H r a R ∧ RowE K m H r2 a2 R2 ∧ FrT K H n c.1 c.2 ∧ m ≤ 50 ∧ R.Okb 1400 ∧ R2.Okb 1400 ∧ SS.Okb 107 c ∧
  ∀ H' r' a', Same H H' → H r' = none → H a' = none → RowE K (m + m) H' r' a' (R.plus R2 c) → Q (.ref r') H'
theorem scRowPlus : FnScope ["_law_row", "_law_other", "_law_number_here"] ["_law_row", "_law_other", "_law_number_here"] (defScope sRowPlus) := ⟨rfl, rfl, rfl, by decide +kernel, rfl, by decide +kernel, by decide +kernel⟩
theorem ok_rowplus {f : Addr} {fd : FuncData} (F : Fun K "_law_row_plus" "_law_row_plus" sRowPlus f fd) (ad : Cl P w K mg base CX0 4 "_law_add" (spAdd K) []) (tm : Cl P w K mg base CX0 3 "_law_times" (spTimes K) []) (pl : Cl P w K mg base CX0 3 "_law_plus" (spPlus K) []) :
    FnOk P w K mg base CX0 5 f fd ["_law_row", "_law_other", "_law_number_here"] (spRowPlus K) := by
  refine F.ok scRowPlus (fun vs H Q E h => ?_) (fun cdv A outer s H vs Q E hr h => ?_)
  · obtain ⟨_, _, _, _, _, _, _, _, _, rfl, _⟩ := h
    rfl
  · obtain ⟨r, a, r2, a2, cn, R, R2, c, m, rfl, ⟨ks, n, e1, e2, e3, e4⟩, ⟨ks2, n2, g1, g2, g3, g4⟩, h2, hm, okR, okR2, okc, q⟩ := h
    refine ⟨_, pss_one (ps_ret (pe_tup (pa_cons (pc0 ad hr (by decide) (pa_cons (pe_ix ix_tup (pv 0) pe_int (fun _ _ => rfl)) (pa_cons (pe_ix ix_tup (pv 1) pe_int (fun _ _ => rfl)) (pa_cons (pv 2) pa_nil))))
      (pa_cons (pe_ix ix_tup (pv 0) pe_int (fun _ _ => rfl)) (pa_cons (pc0 pl hr (by decide) (pa_cons (pe_ix ix_tup (pv 0) pe_int (fun _ _ => rfl)) (pa_cons (pc0 tm hr (by decide) (pa_cons (pe_ix ix_tup (pv 1) pe_int (fun _ _ => rfl)) (pa_cons (pv 2) pa_nil))) pa_nil))) pa_nil))))), ?_⟩
    refine ⟨_, rfl, r, _, 0, _, rfl, rfl, SqT.of e1, atI_nat (j := 0) rfl, _, rfl, r2, _, 0, _, rfl, rfl, SqT.of g1, atI_nat (j := 0) rfl, _, rfl, a, a2, cn, ks, ks2, R.f, R2.f, c, m, m, rfl, e2, g2.toF, h2, okR.1, okR2.1, okc, by omega, by omega, fun H1 c1 ks1 s1 nc1 d1 => ?_⟩
    refine ⟨_, rfl, r, _, 1, _, rfl, rfl, SqT.of (s1 _ _ e1), atI_nat (j := 1) rfl, ?_⟩
    refine ⟨_, rfl, r, _, 2, _, rfl, rfl, SqT.of (s1 _ _ e1), atI_nat (j := 2) rfl, ?_⟩
    refine ⟨_, rfl, r2, _, 2, _, rfl, rfl, SqT.of (s1 _ _ g1), atI_nat (j := 2) rfl, _, rfl, R2.n.1, R2.n.2, c.1, c.2, two_of (g3.new s1) (h2.new s1) okR2.2 okc (by decide) (by decide), fun p np => ?_⟩
    have s3 := same_new (o := .tup [.int (fr1 (R2.n.1 * c.1) (R2.n.2 * c.2)), .int (fr2 (R2.n.1 * c.1) (R2.n.2 * c.2))]) np
    have fp : FrT K _ p (ftimes R2.n c).1 (ftimes R2.n c).2 := FrT.of (upd_same (H := H1) (a := p) (o := .tup [.int (fr1 (R2.n.1 * c.1) (R2.n.2 * c.2)), .int (fr2 (R2.n.1 * c.1) (R2.n.2 * c.2))]))
    refine ⟨R.n.1, R.n.2, (ftimes R2.n c).1, (ftimes R2.n c).2, two_of (e3.new (s1.trans s3)) fp okR.2 (okb_times okR2.2 okc) (by decide) (by decide), fun p2 np2 => ?_⟩
    refine ⟨(by show 3 ≤ sizeLine; decide), fun t nt => ?_⟩
    have s4 := same_new (o := .tup [.int (fplus R.n (ftimes R2.n c)).1, .int (fplus R.n (ftimes R2.n c)).2]) np2
    have s5 := same_new (o := .tup [.ref c1, .str R.s, .ref p2]) nt
    exact q _ t c1 (((s1.trans s3).trans s4).trans s5) (s1.free (s3.free (s4.free nt))) nc1 ⟨ks1, p2, upd_same, (((d1.same s3).same s4).same s5).mono (Nat.le_refl _), (FrT.of upd_same).new s5, e4⟩
end
end SS
namespace LvR
open PySem PySem.Spec PyProof.Rows L2
section
variable {X : Cx} {e : Expr} {te : TE} {p apos cpos pos : Pos}
def tListVals (te : TE) : TE := fun σ H Q => te σ H fun x H1 => ∃ (d : Addr) (kvs : List (Key × V)), x = .ref d ∧ H1 d = some (.dK kvs) ∧ ∀ p, H1 p = none → Q (.ref p) (upd H1 p (.lst (kvs.map (·.2))))
theorem vals_snd : ∀ {kvs : List (Key × V)} {vs : List (Key × Value)}, KV kvs vs → Vals (kvs.map (·.2)) (vs.map (·.2))
  | _, _, .nil => .nil
  | _, _, .cons r t => .cons r.2 (vals_snd t)
/-- list(e.values()) -/
theorem pe_listValues (hc : X.calm = true) (he : PE X e te) (hg : Gl X "list") (hm : X.mg "list" = none) (hv : bootBuiltins "list" = some (.type "list")) (hbase : attributeBase e "values" X.env (eval e X.env) = eval e X.env := by rfl) (hline : (apos.endLine == cpos.line) = true := by rfl)
    (hs : starEach [.Call (.Attribute e "values" apos) [] [] cpos] X.env = (false, eval (.Call (.Attribute e "values" apos) [] [] cpos) X.env) :: starEach [] X.env := by rfl) :
    PE X (.Call (.Name "list" p) [.Call (.Attribute e "values" apos) [] [] cpos] [] pos) (tListVals te) := by
  refine ⟨fun pins s σ H Q I hq => ?_⟩
  refine wpAny_Call_Name_kw (ld_blt I hg hm hv ?_)
  refine PyProof.Rows.callWith_type1 ?_ hs rfl
  rw [hs]
  show wpAny _ _ (spliced ((false, eval (.Call (.Attribute e "values" apos) [] [] cpos) X.env) :: backTo pos (starEach [] X.env))) _ _ s
  refine Calls.spliced_cons ?_
  refine wpAny_Call_method (T := "dict") (id := "dict.values") hbase rfl hline F.plainAttrs_dict F.slot_dict_values F.type_dict_values (thn (he.run pins s σ H _ I hq) fun u s1 ⟨x, H1, I1, rx, d, kvs, ex, hd, q⟩ => ?_)
  subst ex
  obtain rfl : u = Value.ref d := rx
  obtain ⟨hz, hs0, vs, kv, hdo⟩ := I1.hok d _ hd
  obtain ⟨ep, hat⟩ := hdo.dictAt
  have lk : kvs.length = vs.length := Paired.length kv
  have I2 : Inv X pins σ H1 { s1 with heap := s1.heap.push { cls := .type "dict_values", data := .fields #[.ref d] } } := I1.kept (t' := s1.toks) fun b ob q => Heap.get?_push_of_some _ q
  refine ⟨hdo.typeIs, hdo.mapOf.noDict, ?_⟩
  show wpAny _ _ (callWith cpos (.builtin "dict.values") [.ref d] [] []) _ X.xe s1
  refine method_meetsIn F.slot_dict_values F.entry_dict_values rfl (PySem.evalArgs_none ⟨rfl, hdo.typeIs, F.args_dict_values_1 _, _, meets_dict_values (mixKind X.prog X.w) d hs0, ⟨vs, hdo⟩, ?_⟩)
  refine Calls.spliced_nil ?_
  refine PySem.W.kdl_call (PySem.W.kdl_values (knd := mixKind X.prog X.w) (kvs := vs) (ep := ep) (r := s1.heap.objs.size) (d := d)) (I1.ok.hd hc) ⟨⟨_, Heap.get?_push_size _ rfl, rfl, rfl⟩, hat.push _⟩ (by omega) fun h' tk acc c hk hS hacc => ?_
  have ea : acc.toList = vs.map (·.2) := PySem.W.kdl_vals_eq acc.toList (by simpa using hacc.1) fun j v hj => hacc.2 j v (by simpa using hj)
  have I3 := I2.laid (h' := h') (t' := tk) (o := .lst (kvs.map (·.2))) hk (Nat.le_refl _) ⟨by rw [List.length_map]; omega, vs.map (·.2), c, vals_snd kv, by rw [← ea, Array.toArray_toList]; exact hS⟩
  exact ⟨.ref _, _, I3, rfl, q _ (I2.hok.fresh (Nat.le_refl _))⟩
end
end LvR
namespace SS
open PySem PySem.Spec PyProof.Rows L2 NumText LamX KyS
section
variable {P : Program} {w : World} {K : PySem.W.Frag} {mg : Str → Option Value} {base : Heap}
/-! ### _law_within -/
def smT (x : Int × Int) : Bool := decide ((if x.1 < 0 then -x.1 else x.1) < 1000) && decide (x.2 < 100)
def spWithin (K : PySem.W.Frag) : Sp := fun vs H Q _ => ∃ (r a : Addr) (R : Rw) (m : Nat), vs = [.ref r] ∧ RowE K m H r a R ∧ m ≤ 400 ∧ ∀ H' b, Same H H' → (b = true → (∀ k, smT (R.f k) = true) ∧ smT R.n = true) → Q (.bl b) H'
theorem scWithin : FnScope ["_law_row", "_law_number_here"] ["_law_row"] (defScope sWithin) := ⟨rfl, rfl, rfl, by decide +kernel, rfl, by decide +kernel, by decide +kernel⟩
theorem ok_within {f : Addr} {fd : FuncData} {k : Nat} (F : Fun K "_law_within" "_law_within" sWithin f fd) (ma : mg "all" = none) (mab : mg "abs" = none) (mli : mg "list" = none) : FnOk P w K mg base CX0 (k + 1) f fd ["_law_row"] (spWithin K) := by
  refine F.ok scWithin (fun vs H Q E h => ?_) (fun cdv A outer s H vs Q E hr h => ?_)
  · obtain ⟨_, _, _, _, rfl, _⟩ := h
    rfl
  · obtain ⟨r, a, R, m, rfl, ⟨ks, n, h1, h2, h3, h4⟩, hm, q⟩ := h
    refine ⟨_, pss_one (ps_ret (pe_callB (cr_all rfl) (by rfl) ma boot_all (pa_cons
      (pe_lc (own := [("_law_number_here", 1)]) (g := gName 1) (tt := tYes) rfl scWithin.nd (pi_list (pe_op op_cat (LvR.pe_listValues rfl (pe_ix ix_tup (pv 0) pe_int (fun _ _ => rfl)) (by rfl) mli (by decide +kernel)) (pe_lst (pa_cons (pe_ix ix_tup (pv 0) pe_int (fun _ _ => rfl)) pa_nil)))) (blkOk_by (by rfl))
        (fun _ _ _ _ _ => pg_name (i := 1) scWithin.nd rfl (Or.inl rfl)) (fun _ _ _ _ _ => pts_nil)
        (fun _ _ _ _ _ => pe_and (pe_cmpR op_lt (pe_callB call_abs (by rfl) mab boot_abs (pa_cons (pe_ix (ix_tupK (K := K) rfl) (pv 1) pe_int (fun _ _ => rfl)) pa_nil)) pe_int (nomark _)) (pe_one (pe_cmpR op_lt (pe_ix (ix_tupK (K := K) rfl) (pv 1) pe_int (fun _ _ => rfl)) pe_int (nomark _))))) pa_nil))), ?_⟩
    have kl : ks.length ≤ m := h2.2.2.1
    refine ⟨_, rfl, r, _, 0, _, rfl, rfl, SqT.of h1, atI_nat (j := 0) rfl, a, ks, rfl, h2.1, fun p1 np1 => ?_⟩
    have s1 := same_new (o := .lst (ks.map (·.2))) np1
    refine ⟨_, rfl, r, _, 2, _, rfl, rfl, SqT.of (s1 _ _ h1), atI_nat (j := 2) rfl, (by show 1 ≤ sizeLine; decide), fun p2 np2 => ?_⟩
    have s2 := same_new (o := .lst [.ref n]) np2
    refine ⟨p1, p2, _, _, rfl, rfl, s2 _ _ upd_same, upd_same, ?_, fun L nL => ?_⟩
    · rw [List.length_map]
      exact Nat.le_of_lt (small1000 (by show ks.length + 1 ≤ 1000; omega))
    have s3 := same_new (o := .lst (ks.map (·.2) ++ [V.ref n])) nL
    have S3 := (s1.trans s2).trans s3
    refine ⟨L, rfl, ⟨_, SqL.of upd_same⟩, fun D nD => ?_⟩
    have cs : ∀ (i : Nat) (x : V), (ks.map (·.2) ++ [V.ref n])[i]? = some x → ∃ (c : Addr) (y : Int × Int), x = .ref c ∧ (ks.map (fun p => R.f p.1) ++ [R.n])[i]? = some y ∧ FrT K H c y.1 y.2 := fun i x e => by
      by_cases c : i < ks.length
      · rw [List.getElem?_append_left (by rw [List.length_map]; exact c), List.getElem?_map] at e
        rw [List.getElem?_append_left (by rw [List.length_map]; exact c), List.getElem?_map]
        have e0 := List.getElem?_eq_getElem c
        rw [e0] at e ⊢
        obtain ⟨_, ⟨c', e2, e3⟩, _⟩ := h2.2.2.2.1 ks[i] (List.getElem_mem c)
        exact ⟨c', _, (Option.some.inj e).symm.trans e2, rfl, FrT.of e3⟩
      · have il := (List.getElem?_eq_some_iff.mp e).1
        rw [List.length_append, List.length_map] at il
        have hi : i = ks.length := by
          have : i < ks.length + 1 := il
          omega
        subst hi
        rw [List.getElem?_append_right (by rw [List.length_map]; exact Nat.le_refl _), List.length_map, Nat.sub_self] at e
        rw [List.getElem?_append_right (by rw [List.length_map]; exact Nat.le_refl _), List.length_map, Nat.sub_self]
        exact ⟨n, R.n, (Option.some.inj e).symm, rfl, h3⟩
    refine lc_list (K := K) (a := L) (xs := ks.map (·.2) ++ [V.ref n]) (fun i H' => H' D = some (.lst ((((ks.map fun p => R.f p.1) ++ [R.n]).take i).map fun y => V.bl (smT y))) ∧ ∀ b o, b ≠ D → (upd (upd (upd H p1 (.lst (ks.map (·.2)))) p2 (.lst [.ref n])) L (.lst (ks.map (·.2) ++ [V.ref n]))) b = some o → H' b = some o)
      ⟨upd_same, fun b o n e => by rw [upd_ne n]; exact e⟩ (fun i H' _ ⟨_, w2⟩ => SqL.of (w2 _ _ (ne_of_none upd_same nD) upd_same)) ?_ ?_
    · rintro i v H' hv ⟨w1, w2⟩
      obtain ⟨c, y, rfl, hy, fr⟩ := cs i v hv
      have fr' : SqT K H' c [.int y.1, .int y.2] := by
        have S4 : ∀ b o, H b = some o → H' b = some o := fun b o e => w2 _ _ (ne_of_none (S3 _ _ e) nD) (S3 _ _ e)
        exact Same.seqT S4 fr.1
      have il : i < 401 + 1 := by
        have := (List.getElem?_eq_some_iff.mp hv).1
        rw [List.length_append, List.length_map] at this
        have : i < ks.length + 1 := this
        omega
      have nxt : ∀ bb, bb = smT y → ∃ acc, H' D = some (.lst acc) ∧ acc.length < sizeLine ∧ upd H' D (.lst (acc ++ [V.bl bb])) D = some (.lst ((((ks.map fun p => R.f p.1) ++ [R.n]).take (i + 1)).map fun y => V.bl (smT y))) ∧
          ∀ b o, b ≠ D → (upd (upd (upd H p1 (.lst (ks.map (·.2)))) p2 (.lst [.ref n])) L (.lst (ks.map (·.2) ++ [V.ref n]))) b = some o → upd H' D (.lst (acc ++ [V.bl bb])) b = some o := fun bb e => by
        refine ⟨_, w1, ?_, ?_, fun b o n e => by rw [upd_ne n]; exact w2 b o n e⟩
        · rw [List.length_map, List.length_take]
          exact small1000 (by omega)
        · rw [upd_same, List.take_add_one, hy, e, List.map_append]
          rfl
      refine ⟨rfl, _, rfl, c, _, 0, _, rfl, rfl, fr', atI_nat (j := 0) rfl, y.1, rfl, _, _, rfl, rfl, decide ((if y.1 < 0 then -y.1 else y.1) < 1000), rfl, ?_⟩
      by_cases z : (if y.1 < 0 then -y.1 else y.1) < 1000
      · rw [decide_eq_true z]
        refine iteT ⟨_, rfl, c, _, 1, _, rfl, rfl, fr', atI_nat (j := 1) rfl, _, _, rfl, rfl, nxt _ ?_⟩
        unfold smT
        rw [decide_eq_true z, Bool.true_and]
      · rw [decide_eq_false z]
        refine iteF (nxt _ ?_)
        unfold smT
        rw [decide_eq_false z, Bool.false_and]
    · rintro H' ⟨w1, w2⟩
      have el : (ks.map (·.2) ++ [V.ref n]).length = ((ks.map fun p => R.f p.1) ++ [R.n]).length := by
        rw [List.length_append, List.length_append, List.length_map, List.length_map]
        rfl
      rw [el, List.take_length] at w1
      have w1' : H' D = some (.lst ((((ks.map fun p => R.f p.1) ++ [R.n]).map smT).map V.bl)) := by
        rw [w1, List.map_map]
        rfl
      refine ⟨D, _, rfl, SqL.of w1', ?_⟩
      refine q H' _ (fun b o e => w2 _ _ (ne_of_none (S3 _ _ e) nD) (S3 _ _ e)) fun hb => ?_
      have hall : ∀ y ∈ (ks.map fun p => R.f p.1) ++ [R.n], smT y = true := fun y hy => List.all_eq_true.mp hb (smT y) (List.mem_map.mpr ⟨y, hy, rfl⟩)
      refine ⟨fun k => ?_, hall _ (List.mem_append_right _ (List.mem_singleton.mpr rfl))⟩
      by_cases c : k ∈ ks.map (·.1)
      · obtain ⟨p, hp, rfl⟩ := List.mem_map.mp c
        exact hall _ (List.mem_append_left _ (List.mem_map.mpr ⟨p, hp, rfl⟩))
      · rw [h2.out c]
        decide
end
end SS
namespace SS
open PySem PySem.Spec PyProof.Rows L2 NumText LamX KyS
section
variable {P : Program} {w : World} {K : PySem.W.Frag} {mg : Str → Option Value} {base : Heap}
/-- all is kept but the state, or lists -/
theorem EntOk.st {m : Nat} {H H' : Hp} {e : Ent} {st c : Addr} (h : EntOk K m H e) (b : But st H H') (sa : StA st c H) : EntOk K m H' e := by
  obtain ⟨i, n, f, xs, g1, _⟩ := sa
  have tp : ∀ x ys, H x = some (.tup ys) → H' x = some (.tup ys) := fun x ys q => b _ _ (ne_of q g1 (fun z => by cases z)) q
  obtain ⟨h1, kvs, n, h2, h3, h4, h5⟩ := h
  refine ⟨tp _ _ h1, kvs, n, tp _ _ h2, ?_, ?_, h5⟩
  · obtain ⟨d1, d2, d3, d4, d5⟩ := h3
    refine ⟨b _ _ (ne_of d1 g1 (fun z => by cases z)) d1, d2, d3, fun p hp => ?_, d5⟩
    obtain ⟨e1, ⟨r', e2, e3⟩, e4⟩ := d4 p hp
    exact ⟨e1, ⟨r', e2, tp _ _ e3⟩, e4⟩
  · obtain ⟨f1, f2⟩ := h4
    rcases f1 with (f1 | ⟨u, f1⟩) | ⟨u, its, m, k1, k2, k3⟩
    · exact ⟨.inl (.inl (tp _ _ f1)), .base (.tup (tp _ _ f1))⟩
    · have q := b _ _ (ne_of f1 g1 (fun z => by cases z)) f1
      exact ⟨.inl (.inr ⟨u, q⟩), .fTuple q⟩
    · exact ⟨.inr ⟨u, its, m, k1, k2, k3⟩, .kTuple k1 k2⟩
theorem But.free {st c b : Addr} {H H' : Hp} (x : But st H H') (sa : StA st c H') (h : H' b = none) : H b = none := by
  cases e : H b with
  | none => rfl
  | some o =>
    by_cases z : b = st
    · obtain ⟨i, n, f, xs, g1, _⟩ := sa
      rw [z, g1] at h
      cases h
    · rw [x _ _ z e] at h
      cases h
/-! ### _law_handed -/
def spHanded (K : PySem.W.Frag) : Sp := fun vs H Q _ => ∃ (st c a : Addr) (zs : List Ent) (m : Nat), vs = [.ref st, .ref a] ∧ StA st c H ∧ SqL K H a (zs.map fun z => V.ref z.t) ∧ (∀ z ∈ zs, EntOk K m H z) ∧ zs.length ≤ 400 ∧
  ∀ (H' : Hp) (l : Addr) (es : List Ent), But st H H' → StA st c H' → (H' l = some (.lst (es.map fun e : Ent => V.ref e.t)) ∨ H' l = some (.tup (es.map fun e : Ent => V.ref e.t))) → (∀ e ∈ es, EntOk K m H' e ∧ H e.a = none) → (es.map (·.a)).Nodup → (es.map nr).Perm (zs.map nr) → H l = none → Q (.ref l) H'
theorem scHanded15 : FnScope ["_law_state", "_law_rows", "_law_given"] ["_law_state", "_law_rows"] (defScope sHanded) := ⟨rfl, rfl, rfl, by decide +kernel, rfl, by decide +kernel, by decide +kernel⟩
theorem ok_handed15 {f : Addr} {fd : FuncData} (F : Fun K "_law_handed" "_law_handed" sHanded f fd) (mt : mg "tuple" = none) (cp : Cl P w K mg base CX0 1 "_law_copied" (spCopied K) []) (tk : Cl P w K mg base CX0 3 "_law_take" spTake []) : FnOk P w K mg base CX0 4 f fd ["_law_state", "_law_rows"] (spHanded K) := by
  refine F.ok scHanded15 (fun vs H Q E h => ?_) (fun cdv A outer s H vs Q E hr h => ?_)
  · obtain ⟨_, _, _, _, _, rfl, _⟩ := h
    rfl
  · obtain ⟨st, c, a, zs, m, rfl, sa, hS, hz, hl, q⟩ := h
    refine ⟨_, pss_cons (ps_set (i := 2) scHanded15.nd rfl (.inl rfl) (pc0 cp hr (by decide) (pa_cons (pv 1) pa_nil)))
      (pss_cons (ps_if (pt_cmpR op_eq (pc0 tk hr (by decide) (pa_cons (pv 0) (pa_cons pe_int pa_nil))) pe_int (nomark _)) (pss_one (ps_set (i := 2) scHanded15.nd rfl (.inl rfl) (pe_revL (pv 2)))) pss_nil)
      (pss_cons (ps_if (pt_cmpR op_eq (pc0 tk hr (by decide) (pa_cons (pv 0) (pa_cons pe_int pa_nil))) pe_int (nomark _)) (pss_one (ps_set (i := 2) scHanded15.nd rfl (.inl rfl) (pe_callTy call_tuple_of (by rfl) mt (by decide +kernel) (pa_cons (pv 2) pa_nil)))) pss_nil)
      (pss_one (ps_ret (pv 2))))), ?_⟩
    refine ⟨_, rfl, a, zs, m, rfl, hS, hz, hl, fun H1 l es s1 N1 e1 => ?_⟩
    refine ⟨_, rfl, st, c, 2, rfl, by decide, lt8 (by decide), sa.same s1, fun H2 d b2 sa2 _ _ => ?_⟩
    have lst : l ≠ st := fun z => by
      have := N1.nl
      obtain ⟨i, n, f, xs, g1, _⟩ := sa
      rw [z, g1] at this
      cases this
    have B2 : But st H H2 := (Same.but s1).trans b2
    have l2 := b2 _ _ lst N1.lst
    have en2 : ∀ e ∈ es, EntOk K m H2 e ∧ H e.a = none := fun e he => ⟨(N1.e e he).1.st b2 (sa.same s1), (N1.e e he).2⟩
    -- the second draw, from any list of the kind
    have fin : ∀ (H3 : Hp) (l3 : Addr) (es3 : List Ent), But st H H3 → StA st c H3 → H3 l3 = some (.lst (es3.map fun e => V.ref e.t)) → (∀ e ∈ es3, EntOk K m H3 e ∧ H e.a = none) → (es3.map (·.a)).Nodup → (es3.map nr).Perm (zs.map nr) → H l3 = none →
        ∀ (H4 : Hp), But st H3 H4 → StA st c H4 → (Q (.ref l3) H4 ∧ ∀ t, H4 t = none → Q (.ref t) (upd H4 t (.tup (es3.map fun e => V.ref e.t)))) := fun H3 l3 es3 b3 sa3 h3 en3 nd3 pm3 nl3 H4 b4 sa4 => by
      have n3 : l3 ≠ st := fun z => by
        obtain ⟨i, n, f, xs, g1, _⟩ := sa
        rw [z, g1] at nl3
        cases nl3
      have en4 : ∀ e ∈ es3, EntOk K m H4 e ∧ H e.a = none := fun e he => ⟨(en3 e he).1.st b4 sa3, (en3 e he).2⟩
      refine ⟨q H4 l3 es3 (b3.trans b4) sa4 (.inl (b4 _ _ n3 h3)) en4 nd3 pm3 nl3, fun t nt => ?_⟩
      have s5 := same_new (o := .tup (es3.map fun e => V.ref e.t)) nt
      exact q _ t es3 ((b3.trans b4).trans (Same.but s5)) (sa4.same s5) (.inr upd_same) (fun e he => ⟨(en4 e he).1.same s5, (en4 e he).2⟩) nd3 pm3 ((b3.trans b4).free sa4 nt)
    refine ⟨rfl, _, rfl, ite2 (fun _ => ?_) (fun _ => ?_)⟩
    · refine ⟨_, rfl, l, _, rfl, SqL.of l2, fun p np => ?_⟩
      have s3 := same_new (o := .lst (es.map fun e => V.ref e.t).reverse) np
      have hp : upd H2 p (.lst (es.map fun e => V.ref e.t).reverse) p = some (.lst (es.reverse.map fun e => V.ref e.t)) := by rw [upd_same, List.map_reverse]
      have F := fin _ p es.reverse (B2.trans (Same.but s3)) (sa2.same s3) hp (fun e he => ⟨(en2 e (List.mem_reverse.mp he)).1.same s3, (en2 e (List.mem_reverse.mp he)).2⟩) (by rw [List.map_reverse]; exact (List.reverse_perm _).nodup_iff.mpr N1.nd) (by rw [List.map_reverse, e1]; exact List.reverse_perm _) (B2.free sa2 np)
      refine ⟨_, rfl, st, c, 2, rfl, by decide, lt8 (by decide), sa2.same s3, fun H4 d4 b4 sa4 _ _ => ?_⟩
      obtain ⟨F1, F2⟩ := F H4 b4 sa4
      have pst : p ≠ st := fun z => by
        obtain ⟨i, n, f, xs, g1, _⟩ := sa2
        rw [z, g1] at np
        cases np
      refine ⟨rfl, _, rfl, ite2 (fun _ => ?_) (fun _ => ⟨_, rfl, F1⟩)⟩
      exact ⟨_, rfl, p, _, rfl, .inl ⟨SqL.of (b4 _ _ pst hp), fun t nt => ⟨_, rfl, F2 t nt⟩⟩⟩
    · have F := fin H2 l es B2 sa2 l2 en2 N1.nd (by rw [e1]) N1.nl
      refine ⟨_, rfl, st, c, 2, rfl, by decide, lt8 (by decide), sa2, fun H4 d4 b4 sa4 _ _ => ?_⟩
      obtain ⟨F1, F2⟩ := F H4 b4 sa4
      refine ⟨rfl, _, rfl, ite2 (fun _ => ?_) (fun _ => ⟨_, rfl, F1⟩)⟩
      exact ⟨_, rfl, l, _, rfl, .inl ⟨SqL.of (b4 _ _ lst l2), fun t nt => ⟨_, rfl, F2 t nt⟩⟩⟩
end
end SS
namespace SS
open PySem PySem.Spec PyProof.Rows L2 NumText LamX KyS
/-! ### the mathematics of steps -/
theorem ft_one_less {x c : Int × Int} {A B : Nat} (hx : Okb A x) (hc : Okb B c) : fplus x (ftimes x (fplus c (-1, 1))) = ftimes x c := by
  have h1 : Okb 1 (-1, 1) := ⟨by decide, by decide, by decide, by decide⟩
  have hm := okb_plus hc h1
  have ht := okb_times hx hm
  refine toQ_inj (okb_plus hx ht).lo (okb_times hx hc).lo ?_
  rw [toQ_plus hx.1 ht.1, toQ_times hx.1 hm.1, toQ_times hx.1 hc.1, toQ_plus hc.1 h1.1]
  have e : toQ (-1, 1) = -1 := by
    show Rat.divInt (-1) 1 = -1
    decide +kernel
  rw [e]
  grind
theorem plus_tm {R R2 : Rw} {x : Str} {c : Int × Int} (h : R.Okb 1400) (hc : SS.Okb 105 c) : R.plus R (fplus c (-1, 1)) = R.step R2 (.tm x c) := by
  unfold Rw.plus Rw.step
  have e : (fun k => fplus (R.f k) (ftimes (R.f k) (fplus c (-1, 1)))) = fun k => ftimes (R.f k) c := funext fun k => ft_one_less (h.1 k) hc
  rw [e, ft_one_less h.2 hc]
theorem look_perm {L L' : List Nm} (p : L.Perm L') (nd : (L.map (·.1)).Nodup) {y : Str} (h : y ∈ L.map (·.1)) : look L y = look L' y := by
  have m1 := look_mem h
  have m2 := p.mem_iff.mp m1
  have h' : y ∈ L'.map (·.1) := (p.map _).mem_iff.mp h
  have m3 := look_mem h'
  have nd' : (L'.map (·.1)).Nodup := (p.map _).nodup_iff.mp nd
  obtain ⟨i, hi⟩ := List.mem_iff_getElem?.mp m2
  obtain ⟨j, hj⟩ := List.mem_iff_getElem?.mp m3
  have q1 : (L'.map (·.1))[i]? = some y := by rw [List.getElem?_map, hi]; rfl
  have q2 : (L'.map (·.1))[j]? = some y := by rw [List.getElem?_map, hj]; rfl
  have z := (List.getElem?_inj (List.getElem?_eq_some_iff.mp q1).1 nd').mp (q1.trans q2.symm)
  rw [z, hj] at hi
  exact (congrArg Prod.snd (Option.some.inj hi)).symm
/-- a step does not look at the order -/
theorem stepM_perm {L L' : List Nm} (p : L.Perm L') (nd : (L.map (·.1)).Nodup) {t : Stp} (h : t.nm2 ∈ L.map (·.1)) : (stepM L t).Perm (stepM L' t) := by
  unfold stepM
  rw [look_perm p nd h]
  exact p.map _
theorem steps_perm : ∀ (ts : List Stp) {L L' : List Nm}, L.Perm L' → (L.map (·.1)).Nodup → (∀ t ∈ ts, t.nm2 ∈ L.map (·.1)) → (ts.foldl stepM L).Perm (ts.foldl stepM L')
  | [], _, _, p, _, _ => p
  | t :: ts, L, L', p, nd, h => by
    rw [List.foldl_cons, List.foldl_cons]
    refine steps_perm ts (stepM_perm p nd (h t List.mem_cons_self)) (by rw [stepM_names]; exact nd) fun t' ht' => ?_
    rw [stepM_names]
    exact h t' (List.mem_cons_of_mem _ ht')
/-- two lists of pairs whose names rise are one -/
theorem leS_uniq {L L' : List Nm} (p : L.Perm L') (nd : (L.map (·.1)).Nodup) (s : (L.map (·.1)).Pairwise leS) (s' : (L'.map (·.1)).Pairwise leS) : L = L' := by
  refine List.Perm.eq_of_pairwise (le := fun a b : Nm => leS a.1 b.1) (fun a b ha hb h1 h2 => ?_) (List.pairwise_map.mp s) (List.pairwise_map.mp s') p
  have e : a.1 = b.1 := leS_anti h1 h2
  have hb' := p.mem_iff.mpr hb
  obtain ⟨i, hi⟩ := List.mem_iff_getElem?.mp ha
  obtain ⟨j, hj⟩ := List.mem_iff_getElem?.mp hb'
  have q1 : (L.map (·.1))[i]? = some a.1 := by rw [List.getElem?_map, hi]; rfl
  have q2 : (L.map (·.1))[j]? = some a.1 := by rw [List.getElem?_map, hj, e]; rfl
  have z := (List.getElem?_inj (List.getElem?_eq_some_iff.mp q1).1 nd).mp (q1.trans q2.symm)
  rw [z, hj] at hi
  exact (Option.some.inj hi).symm
/-! ### how far the fractions grow: each a whole number over one bottom -/
def Ov (D M : Nat) (x : Int × Int) : Prop := ∃ z : Int, toQ x * ((D : Int) : Rat) = (z : Rat) ∧ z.natAbs ≤ M
theorem toQ_mul {x : Int × Int} (h : 0 < x.2) : toQ x * (x.2 : Rat) = (x.1 : Rat) := by
  have h0 : (x.2 : Rat) ≠ 0 := by
    intro z
    have : x.2 = 0 := by exact_mod_cast z
    omega
  show Rat.divInt x.1 x.2 * (x.2 : Rat) = _
  rw [Rat.divInt_eq_div, Rat.div_mul_cancel h0]
theorem ov_ok {D M n : Nat} {x : Int × Int} (l : Lo x) (h : Ov D M x) (d0 : 0 < D) (hD : D < 2 ^ n) (hM : M < 2 ^ n) : Okb n x := by
  obtain ⟨z, e, hz⟩ := h
  obtain ⟨x0, g⟩ := l
  have e2 : x.1 * (D : Int) = z * x.2 := by
    have t1 := toQ_mul x0
    have : (x.1 : Rat) * ((D : Int) : Rat) = (z : Rat) * (x.2 : Rat) := by
      rw [← t1, ← e]
      grind
    exact_mod_cast this
  obtain ⟨q, hq⟩ := dvd_cop (a := x.2) (b := x.1) (c := (D : Int)) ⟨z, by rw [e2, Int.mul_comm]⟩ (by rw [Int.gcd_comm]; exact g)
  have q0 : 0 < q := by
    have : 0 < x.2 * q := by rw [← hq]; exact_mod_cast d0
    exact Int.pos_of_mul_pos_left (by rw [Int.mul_comm]; exact this) x0
  have e3 : x.1 * q = z := by
    rw [hq] at e2
    have : (x.1 * q) * x.2 = z * x.2 := by rw [← e2]; grind
    exact Int.eq_of_mul_eq_mul_right (by omega) this
  have n2 : x.2.natAbs ≤ D := by
    have : x.2.natAbs * q.natAbs = D := by rw [← Int.natAbs_mul, ← hq]; rfl
    rw [← this]
    exact Nat.le_mul_of_pos_right _ (by omega)
  have n1 : x.1.natAbs ≤ M := by
    refine Nat.le_trans ?_ hz
    rw [← e3, Int.natAbs_mul]
    exact Nat.le_mul_of_pos_right _ (by omega)
  exact ⟨x0, Nat.lt_of_le_of_lt n1 hM, Nat.lt_of_le_of_lt n2 hD, g⟩
theorem ov_ad {D M : Nat} {x y c : Int × Int} (lx : Lo x) (ly : Lo y) (lc : Lo c) (hx : Ov D M x) (hy : Ov D M y) : Ov (D * c.2.natAbs) (M * (c.2.natAbs + c.1.natAbs)) (fplus x (ftimes y c)) := by
  obtain ⟨z, e, hz⟩ := hx
  obtain ⟨u, e', hu⟩ := hy
  have tc := toQ_mul lc.1
  refine ⟨z * c.2 + u * c.1, ?_, ?_⟩
  · rw [toQ_plus lx.1 (lo_times ly.1 lc.1).1, toQ_times ly.1 lc.1]
    have ec : (((D * c.2.natAbs : Nat) : Int) : Rat) = ((D : Int) : Rat) * (c.2 : Rat) := by
      have : ((D * c.2.natAbs : Nat) : Int) = (D : Int) * c.2 := by
        have := lc.1
        rw [Int.natCast_mul, Int.natAbs_of_nonneg (by omega)]
      rw [this]
      exact_mod_cast rfl
    rw [ec]
    have : ((z * c.2 + u * c.1 : Int) : Rat) = (z : Rat) * (c.2 : Rat) + (u : Rat) * (c.1 : Rat) := by exact_mod_cast rfl
    rw [this, ← e, ← e', ← tc]
    grind
  · refine Nat.le_trans (Int.natAbs_add_le _ _) ?_
    rw [Int.natAbs_mul, Int.natAbs_mul, Nat.mul_add]
    exact Nat.add_le_add (Nat.mul_le_mul_right _ hz) (Nat.mul_le_mul_right _ hu)
theorem ov_tm {D M : Nat} {x c : Int × Int} (lx : Lo x) (lc : Lo c) (hx : Ov D M x) : Ov (D * c.2.natAbs) (M * (c.2.natAbs + c.1.natAbs)) (ftimes x c) := by
  obtain ⟨z, e, hz⟩ := hx
  have tc := toQ_mul lc.1
  refine ⟨z * c.1, ?_, ?_⟩
  · rw [toQ_times lx.1 lc.1]
    have ec : (((D * c.2.natAbs : Nat) : Int) : Rat) = ((D : Int) : Rat) * (c.2 : Rat) := by
      have : ((D * c.2.natAbs : Nat) : Int) = (D : Int) * c.2 := by
        have := lc.1
        rw [Int.natCast_mul, Int.natAbs_of_nonneg (by omega)]
      rw [this]
      exact_mod_cast rfl
    rw [ec]
    have : ((z * c.1 : Int) : Rat) = (z : Rat) * (c.1 : Rat) := by exact_mod_cast rfl
    rw [this, ← e, ← tc]
    grind
  · rw [Int.natAbs_mul, Nat.mul_add]
    exact Nat.le_trans (Nat.mul_le_mul_right _ hz) (Nat.le_add_left _ _)
theorem ov_more {D M D' M' : Nat} {x : Int × Int} (h : Ov D M x) (k : Nat) (e : D' = D * k) (hM : M * k ≤ M') : Ov D' M' x := by
  obtain ⟨z, e1, hz⟩ := h
  refine ⟨z * (k : Int), ?_, ?_⟩
  · have : ((D' : Int) : Rat) = ((D : Int) : Rat) * ((k : Int) : Rat) := by
      rw [e]
      exact_mod_cast rfl
    rw [this]
    have : ((z * (k : Int) : Int) : Rat) = (z : Rat) * ((k : Int) : Rat) := by exact_mod_cast rfl
    rw [this, ← e1]
    grind
  · rw [Int.natAbs_mul]
    exact Nat.le_trans (Nat.mul_le_mul_right _ hz) hM
end SS
namespace SS
open PySem PySem.Spec PyProof.Rows L2 NumText LamX KyS
def OvR (D M : Nat) (R : Rw) : Prop := (∀ k, Lo (R.f k) ∧ Ov D M (R.f k)) ∧ Lo R.n ∧ Ov D M R.n
theorem OvR.okb {D M : Nat} {R : Rw} (h : OvR D M R) (d0 : 0 < D) (hD : D < 2 ^ 1400) (hM : M < 2 ^ 1400) : R.Okb 1400 :=
  ⟨fun k => ov_ok (h.1 k).1 (h.1 k).2 d0 hD hM, ov_ok h.2.1 h.2.2 d0 hD hM⟩
def dT (t : Stp) : Nat := t.num.2.natAbs
def mT (t : Stp) : Nat := t.num.2.natAbs + t.num.1.natAbs
def prodD (ts : List Stp) : Nat := ts.foldr (fun t n => dT t * n) 1
def prodM (ts : List Stp) : Nat := ts.foldr (fun t n => mT t * n) 1
theorem OvR.step {D M : Nat} {R R2 : Rw} {t : Stp} (h : OvR D M R) (h2 : OvR D M R2) (lc : Lo t.num) : OvR (D * dT t) (M * mT t) (R.step R2 t) := by
  cases t with
  | tm x c => exact ⟨fun k => ⟨lo_times (h.1 k).1.1 lc.1, ov_tm (h.1 k).1 lc (h.1 k).2⟩, lo_times h.2.1.1 lc.1, ov_tm h.2.1 lc h.2.2⟩
  | ad x y c => exact ⟨fun k => ⟨lo_plus (h.1 k).1.1 (lo_times (h2.1 k).1.1 lc.1).1, ov_ad (h.1 k).1 (h2.1 k).1 lc (h.1 k).2 (h2.1 k).2⟩, lo_plus h.2.1.1 (lo_times h2.2.1.1 lc.1).1, ov_ad h.2.1 h2.2.1 lc h.2.2 h2.2.2⟩
theorem OvR.more {D M : Nat} {R : Rw} {t : Stp} (h : OvR D M R) : OvR (D * dT t) (M * mT t) R := by
  have le : M * dT t ≤ M * mT t := Nat.mul_le_mul_left _ (Nat.le_add_right _ _)
  exact ⟨fun k => ⟨(h.1 k).1, ov_more (h.1 k).2 _ rfl le⟩, h.2.1, ov_more h.2.2 _ rfl le⟩
theorem prod_pos : ∀ {ts : List Stp}, (∀ t ∈ ts, Lo t.num) → 0 < prodD ts ∧ 0 < prodM ts
  | [], _ => ⟨Nat.one_pos, Nat.one_pos⟩
  | t :: ts, h => by
    obtain ⟨a, b⟩ := prod_pos (ts := ts) fun t' ht => h t' (List.mem_cons_of_mem _ ht)
    have l := (h t List.mem_cons_self).1
    exact ⟨Nat.mul_pos (by unfold dT; omega) a, Nat.mul_pos (by unfold mT; omega) b⟩
/-- all is well on the way where the fractions stay small enough -/
theorem way_of : ∀ {ts : List Stp} {L : List Nm} {D M : Nat} {U : List Str}, 0 < D → (∀ q ∈ L, q.2.In U ∧ OvR D M q.2) → (∀ t ∈ ts, t.Ok (L.map (·.1))) → D * prodD ts < 2 ^ 1400 → M * prodM ts < 2 ^ 1400 →
    ∀ i, ∀ q ∈ (ts.take i).foldl stepM L, q.2.In U ∧ q.2.Okb 1400 := by
  intro ts
  induction ts with
  | nil =>
    intro L D M U d0 h _ hD hM i q hq
    rw [List.take_nil] at hq
    have e1 : D * prodD [] = D := Nat.mul_one D
    have e2 : M * prodM [] = M := Nat.mul_one M
    rw [e1] at hD
    rw [e2] at hM
    exact ⟨(h q hq).1, (h q hq).2.okb d0 hD hM⟩
  | cons t ts ih =>
    intro L D M U d0 h ok hD hM i q hq
    have okt := ok t List.mem_cons_self
    have lo : ∀ t' ∈ t :: ts, Lo t'.num := fun t' ht => (ok t' ht).nm.2.2.lo
    obtain ⟨p1, p2⟩ := prod_pos (ts := ts) fun t' ht => lo t' (List.mem_cons_of_mem _ ht)
    have lt := lo t List.mem_cons_self
    have dp : 0 < dT t := by have := lt.1; unfold dT; omega
    have mp : 0 < mT t := by have := lt.1; unfold mT; omega
    have hD' : D * dT t * prodD ts < 2 ^ 1400 := by rw [Nat.mul_assoc]; exact hD
    have hM' : M * mT t * prodM ts < 2 ^ 1400 := by rw [Nat.mul_assoc]; exact hM
    have hD0 : D < 2 ^ 1400 := Nat.lt_of_le_of_lt (Nat.le_trans (Nat.le_mul_of_pos_right _ dp) (Nat.le_mul_of_pos_right _ p1)) hD'
    have hM0 : M < 2 ^ 1400 := Nat.lt_of_le_of_lt (Nat.le_trans (Nat.le_mul_of_pos_right _ mp) (Nat.le_mul_of_pos_right _ p2)) hM'
    have okL : ∀ q ∈ L, q.2.In U ∧ q.2.Okb 1400 := fun q hq => ⟨(h q hq).1, (h q hq).2.okb d0 hD0 hM0⟩
    cases i with
    | zero => exact okL q hq
    | succ i =>
      rw [List.take_succ_cons, List.foldl_cons] at hq
      refine ih (L := stepM L t) (D := D * dT t) (M := M * mT t) (Nat.mul_pos d0 dp) (fun q hq => ?_) (fun t' ht => by rw [stepM_names]; exact ok t' (List.mem_cons_of_mem _ ht)) hD' hM' i q hq
      obtain ⟨g, hg, rfl⟩ := List.mem_map.mp hq
      have m2 := look_mem (L := L) okt.nm.2.1
      by_cases c : g.1 = t.nm
      · rw [if_pos c]
        exact ⟨step_in (h g hg).1 (h _ m2).1 (okL g hg).2 (okL _ m2).2 okt.nm.2.2, (h g hg).2.step (h _ m2).2 lt⟩
      · rw [if_neg c]
        exact ⟨(h g hg).1, (h g hg).2.more⟩
/-- a number that all numbers below a hundred divide -/
def dHund : Nat := (List.range 99).foldl (fun a k => Nat.lcm a (k + 1)) 1
theorem dHund_dvd : ∀ b : Nat, 0 < b → b < 100 → b ∣ dHund := by
  have : ∀ b : Fin 100, 0 < b.val → b.val ∣ dHund := by decide +kernel
  exact fun b h1 h2 => this ⟨b, h2⟩ h1
theorem dHund_pos : 0 < dHund := by decide +kernel
theorem dHund_lt : dHund < 2 ^ 140 := by decide +kernel
theorem sm_ov {x : Int × Int} (l : Lo x) (h : smT x = true) : Ov dHund (999 * dHund) x := by
  unfold smT at h
  rw [Bool.and_eq_true] at h
  have a1 := of_decide_eq_true h.1
  have a2 := of_decide_eq_true h.2
  have x0 := l.1
  obtain ⟨q, hq⟩ := dHund_dvd x.2.natAbs (by omega) (by omega)
  have e : (dHund : Int) = x.2 * (q : Int) := by
    rw [hq, Int.natCast_mul, Int.natAbs_of_nonneg (by omega)]
  refine ⟨x.1 * (q : Int), ?_, ?_⟩
  · rw [e]
    have t1 := toQ_mul x0
    have : ((x.2 * (q : Int) : Int) : Rat) = (x.2 : Rat) * ((q : Int) : Rat) := by exact_mod_cast rfl
    rw [this]
    have : ((x.1 * (q : Int) : Int) : Rat) = (x.1 : Rat) * ((q : Int) : Rat) := by exact_mod_cast rfl
    rw [this, ← t1]
    grind
  · rw [Int.natAbs_mul]
    have qd : q ≤ dHund := by
      rw [hq]
      exact Nat.le_mul_of_pos_left _ (by omega)
    have xl : x.1.natAbs ≤ 999 := by
      split at a1 <;> omega
    exact Nat.mul_le_mul xl qd
theorem sm_ovR {R : Rw} {A : Nat} (ok : R.Okb A) (h : (∀ k, smT (R.f k) = true) ∧ smT R.n = true) : OvR dHund (999 * dHund) R :=
  ⟨fun k => ⟨(ok.1 k).lo, sm_ov (ok.1 k).lo (h.1 k)⟩, ok.2.lo, sm_ov ok.2.lo h.2⟩
end SS
namespace SS
open PySem PySem.Spec PyProof.Rows L2
/-! ### texts that rise -/
theorem nlt_trans : ∀ (a b c : List Nat), ltCps b a = false → ltCps c b = false → ltCps c a = false
  | [], _, [], _, _ => rfl
  | [], [], _ :: _, _, _ => rfl
  | [], _ :: _, _ :: _, _, _ => rfl
  | a :: as, [], c, h, _ => by simp [ltCps] at h
  | a :: as, b :: bs, [], _, h => by simp [ltCps] at h
  | a :: as, b :: bs, c :: cs, h1, h2 => by
    have ih := nlt_trans as bs cs
    simp only [ltCps, Bool.or_eq_false_iff, decide_eq_false_iff_not, Bool.and_eq_false_imp, beq_iff_eq] at h1 h2 ⊢
    refine ⟨by omega, fun e => ?_⟩
    have e1 : b = a := by omega
    have e2 : c = b := by omega
    exact ih (h1.2 e1) (h2.2 e2)
theorem nlt_antisymm : ∀ (a b : List Nat), ltCps b a = false → ltCps a b = false → a = b
  | [], [], _, _ => rfl
  | [], b :: bs, _, h => by simp [ltCps] at h
  | a :: as, [], h, _ => by simp [ltCps] at h
  | a :: as, b :: bs, h1, h2 => by
    have ih := nlt_antisymm as bs
    simp only [ltCps, Bool.or_eq_false_iff, decide_eq_false_iff_not, Bool.and_eq_false_imp, beq_iff_eq] at h1 h2
    have e : a = b := by omega
    rw [e, ih (h1.2 e.symm) (h2.2 e)]
def leT (a b : Str) : Prop := ltCps b.cps.toList a.cps.toList = false
theorem leT_antisymm {a b : Str} (h1 : leT a b) (h2 : leT b a) : a = b := by
  have e := nlt_antisymm _ _ h1 h2
  cases a
  cases b
  congr 1
  exact Array.toList_inj.mp e
theorem rising_pw : ∀ (l : List Str) (p : Str), risingS p l = true → (p :: l).Pairwise leT
  | [], p, _ => List.pairwise_singleton leT p
  | x :: r, p, h => by
    have h' : (!ltCps x.cps.toList p.cps.toList) = true ∧ risingS x r = true := Bool.and_eq_true_iff.mp h
    have i := rising_pw r x h'.2
    have px : leT p x := by
      have z := h'.1
      unfold leT
      cases c : ltCps x.cps.toList p.cps.toList with
      | false => rfl
      | true =>
        rw [c] at z
        cases z
    refine List.pairwise_cons.mpr ⟨fun y hy => ?_, i⟩
    rcases List.mem_cons.mp hy with e | e
    · rw [e]
      exact px
    · exact nlt_trans _ _ _ px ((List.pairwise_cons.mp i).1 y e)
theorem sorted_pw {l : List Str} (h : sortedS l = true) : l.Pairwise leT := by
  cases l with
  | nil => exact List.Pairwise.nil
  | cons x r => exact rising_pw r x h
end SS
namespace SS
open PySem PySem.Spec PyProof.Rows L2 NumText LamX KyS
section
variable {P : Program} {w : World} {K : PySem.W.Frag} {mg : Str → Option Value} {base : Heap}
/-- a dict from names to rows, in the law -/
structure CurL (K : PySem.W.Frag) (U : List Str) (H' : Hp) (D : Addr) (es : List Ent) : Prop where
  d : H' D = some (.dK (es.map fun e => (.inr e.x, V.ref e.r)))
  r : ∀ e ∈ es, RowE K U.length H' e.r e.a e.R ∧ e.a ≠ D
  nd : (es.map (·.x)).Nodup
  ln : es.length ≤ 60
theorem CurL.step {U : List Str} {H1 H2 : Hp} {D : Addr} {es : List Ent} {t : Stp} {e e2 : Ent} {r' a' : Addr} (c : CurL K U H1 D es) (he : e ∈ es) (he2 : e2 ∈ es) (hx : e.x = t.nm) (hx2 : e2.x = t.nm2) (s : Same H1 H2) (ha : H1 a' = none)
    (row : RowE K (U.length + U.length) H2 r' a' (e.R.step e2.R t)) (iu : (e.R.step e2.R t).In U) :
    CurL K U (upd H2 D (.dK (putK (es.map fun e => (.inr e.x, V.ref e.r)) (.inr t.nm) (.ref r')))) D (repl es t.nm (e.R.step e2.R t) r' a') ∧ (repl es t.nm (e.R.step e2.R t) r' a').map nr = stepM (es.map nr) t := by
  have hD := s _ _ c.d
  have aD : a' ≠ D := fun z => by rw [z, c.d] at ha; cases ha
  have mx : t.nm ∈ es.map (·.x) := List.mem_map.mpr ⟨e, he, hx⟩
  have l2 : look (es.map nr) t.nm2 = e2.R := by rw [← hx2]; exact nr_look c.nd he2
  have ex : (repl es t.nm (e.R.step e2.R t) r' a').map (·.x) = es.map (·.x) := by
    unfold repl
    rw [List.map_map]
    refine List.map_congr_left fun g _ => ?_
    show (if g.x = t.nm then (⟨g.t, g.x, _, r', a'⟩ : Ent) else g).x = g.x
    split <;> rfl
  refine ⟨⟨by rw [upd_same, putK_ents mx], fun g hg => ?_, by rw [ex]; exact c.nd, by unfold repl; rw [List.length_map]; exact c.ln⟩, ?_⟩
  · obtain ⟨q, hq, eq⟩ := List.mem_map.mp hg
    by_cases z : q.x = t.nm
    · rw [if_pos z] at eq
      rw [← eq]
      exact ⟨RowE.but (row.tight iu) hD (fun b o n q => by rw [upd_ne n]; exact q) aD, aD⟩
    · rw [if_neg z] at eq
      rw [← eq]
      obtain ⟨r1, r3⟩ := c.r q hq
      exact ⟨RowE.but (RowE.extN r1 (ExtN.same s)) hD (fun b o n q => by rw [upd_ne n]; exact q) r3, r3⟩
  · have z : (repl es t.nm (e.R.step e2.R t) r' a').map nr = (es.map nr).map fun q => if q.1 = t.nm then (q.1, e.R.step e2.R t) else q := repl_nr
    rw [z]
    unfold stepM
    rw [List.map_map, List.map_map]
    refine List.map_congr_left fun g hg => ?_
    show (if g.x = t.nm then (g.x, e.R.step e2.R t) else nr g) = if g.x = t.nm then (g.x, g.R.step (look (es.map nr) t.nm2) t) else nr g
    by_cases y : g.x = t.nm
    · rw [if_pos y, if_pos y, l2]
      have e3 : g.R = e.R := by rw [← nr_look c.nd hg, ← nr_look c.nd he, y, hx]
      rw [e3]
    · rw [if_neg y, if_neg y]
/-! ### _law_done -/
def spDone15 (K : PySem.W.Frag) : Sp := fun vs H Q _ => ∃ (a b : Addr) (zs : List Ent) (us : List V) (ts : List Stp) (U : List Str), vs = [.ref a, .ref b] ∧ SqL K H a (zs.map fun z => V.ref z.t) ∧ (∀ z ∈ zs, EntOk K U.length H z) ∧ (zs.map (·.x)).Nodup ∧ zs.length ≤ 60 ∧ U.length ≤ 20 ∧
  SqL K H b us ∧ Paired (StpAt K H) us ts ∧ Way U (zs.map nr) ts ∧
  ∀ (H' : Hp) (l : Addr) (es : List Ent) (L0 : List Nm), Same H H' → L0.Perm ((zs.map nr).filter isN) → (L0.map (·.1)).Pairwise leS → es.map nr = ts.foldl stepM L0 → H' l = some (.lst (es.map fun e => V.ref e.t)) → (∀ e ∈ es, EntOk K U.length H' e) → H l = none → Q (.ref l) H'
theorem scDone15 : FnScope ["_law_rows", "_law_steps_here", "_law_told", "_law_name", "_law_row", "_law_step", "_law_number_here"] ["_law_rows", "_law_steps_here"] (defScope sDoneL) := ⟨rfl, rfl, rfl, by decide +kernel, rfl, by decide +kernel, by decide +kernel⟩
theorem ok_done15 {f : Addr} {fd : FuncData} (F : Fun K "_law_done" "_law_done" sDoneL f fd) (md : mg "dict" = none) (ms : mg "sorted" = none) (lpl : Cl P w K mg base CX0 3 "_law_plus" (spPlus K) []) (rp : Cl P w K mg base CX0 5 "_law_row_plus" (spRowPlus K) []) :
    FnOk P w K mg base CX0 6 f fd ["_law_rows", "_law_steps_here"] (spDone15 K) := by
  refine F.ok scDone15 (fun vs H Q E h => ?_) (fun cdv A outer s H vs Q E hr h => ?_)
  · obtain ⟨_, _, _, _, _, _, rfl, _⟩ := h
    rfl
  · obtain ⟨a, b, zs, us, ts, U, rfl, hS, hz, nd, hl, hU, hb, hst, way, q⟩ := h
    have hu := hu_of hr
    refine ⟨_, pss_cons (ps_set (i := 2) scDone15.nd rfl (.inr rfl) (pe_callTy (call_dictP rfl) (by rfl) md (by decide +kernel) (pa_cons (pe_lc (own := [("_law_name", 3), ("_law_row", 4)]) (g := gTup K 2 (gCons (gName 3) (gCons (gName 4) gNil))) rfl scDone15.nd (pi_list (pv 0)) (blkOk_by (by rfl))
        (fun _ _ _ _ _ => pg_tup rfl (pgs_cons (pg_name (i := 3) scDone15.nd rfl (.inl rfl)) (pgs_cons (pg_name (i := 4) scDone15.nd rfl (.inl rfl)) pgs_nil))) (fun _ _ _ _ _ => pts_one (pt_cmpR op_eq (pe_ix (ix_tupK (K := K) rfl) (pv 4) pe_int (fun _ _ => rfl)) pe_str (nomark _)))
        (fun _ _ _ _ _ => pe_tup (pa_cons (pv 3) (pa_cons (pv 4) pa_nil)))) pa_nil)))
      (pss_cons (ps_for PassesOwn.never rfl (pi_list (pv 1)) (pg_name (i := 5) scDone15.nd rfl (.inl rfl))
        (pss_cons (ps_set (i := 4) scDone15.nd rfl (.inl rfl) (pe_dget hu (pv 2) (pe_ix ix_tup (pv 5) pe_int (fun _ _ => rfl)) (fun _ _ => rfl)))
        (pss_one (ps_if (pt_cmpR op_eq (pe_ix ix_tup (pv 5) pe_int (fun _ _ => rfl)) pe_str (nomark _))
          (pss_cons (ps_set (i := 6) scDone15.nd rfl (.inl rfl) (pc0 lpl hr (by decide) (pa_cons (pe_ix ix_tup (pv 5) pe_int (fun _ _ => rfl)) (pa_cons (pe_tup (pa_cons (pe_un un_neg pe_int) (pa_cons pe_int pa_nil))) pa_nil))))
          (pss_one (ps_dput hu (pv 2) (pe_ix ix_tup (pv 5) pe_int (fun _ _ => rfl)) (pc0 rp hr (by decide) (pa_cons (pv 4) (pa_cons (pv 4) (pa_cons (pv 6) pa_nil)))) rfl)))
          (pss_one (ps_dput hu (pv 2) (pe_ix ix_tup (pv 5) pe_int (fun _ _ => rfl)) (pc0 rp hr (by decide) (pa_cons (pv 4) (pa_cons (pe_dget hu (pv 2) (pe_ix ix_tup (pv 5) pe_int (fun _ _ => rfl)) (fun _ _ => rfl)) (pa_cons (pe_ix ix_tup (pv 5) pe_int (fun _ _ => rfl)) pa_nil)))) rfl))))))
      (pss_one (ps_ret (pe_lc (own := [("_law_name", 3)]) (g := gName 3) rfl scDone15.nd (pi_list (pe_callB (call_sortedD rfl) (by rfl) ms (by decide +kernel) (pa_cons (pv 2) pa_nil))) (blkOk_by (by rfl))
        (fun _ _ _ _ _ => pg_name (i := 3) scDone15.nd rfl (.inl rfl)) (fun _ _ _ _ _ => pts_nil)
        (fun _ _ _ _ _ => pe_tup (pa_cons (pv 3) (pa_cons (pe_dget hu (pv 2) (pv 3) (fun _ _ => rfl)) pa_nil))))))), ?_⟩
    -- the rows "is", by name
    refine ⟨_, rfl, a, rfl, ⟨_, hS⟩, fun D0 nD0 => ?_⟩
    refine lc_list (K := K) (a := a) (xs := zs.map fun z => V.ref z.t) (fun i H' => ∃ gs : List Ent, H' D0 = some (.lst ((gs.map (·.t)).map V.ref)) ∧ gs.map nr = ((zs.take i).filter isR).map nr ∧ (∀ g ∈ gs, H' g.t = some (.tup [.str g.x, .ref g.r]) ∧ RowE K U.length H g.r g.a g.R) ∧ ∀ b o, H b = some o → H' b = some o)
      ⟨[], upd_same, rfl, fun g hg => (by cases hg), fun b o e => by rw [upd_ne (ne_of_none e nD0)]; exact e⟩ (fun i H' _ ⟨_, _, _, _, w2⟩ => Same.seq w2 hS) ?_ ?_
    · rintro i v H' hv ⟨gs, w1, wn, wg, w2⟩
      obtain ⟨z, hzi, rfl⟩ : ∃ z, zs[i]? = some z ∧ v = .ref z.t := by
        rw [List.getElem?_map] at hv
        cases e : zs[i]? with
        | none => rw [e] at hv; cases hv
        | some z =>
          rw [e] at hv
          exact ⟨z, rfl, (Option.some.inj hv).symm⟩
      have gl : gs.length ≤ 60 := by
        have q1 := congrArg List.length wn
        have q2 := List.length_filter_le isR (zs.take i)
        rw [List.length_map, List.length_map] at q1
        rw [List.length_take] at q2
        omega
      have hzz := hz z (List.mem_of_getElem? hzi)
      obtain ⟨h1, kvs, n, h2, h3, h4, h5⟩ := id hzz
      have tk : zs.take (i + 1) = zs.take i ++ [z] := by
        rw [List.take_add_one, hzi]
        rfl
      refine ⟨z.t, _, rfl, SqT.of (w2 _ _ h1), rfl, _, _, rfl, _, _, rfl, rfl, rfl, ?_⟩
      refine ⟨_, rfl, z.r, _, 1, _, rfl, rfl, SqT.of (w2 _ _ h2), atI_nat (j := 1) rfl, rfl, ?_⟩
      by_cases c : z.R.s = "is"
      · have di : decide (V.str z.R.s = V.str (Str.ofString "is")) = true := decide_eq_true (by rw [c])
        refine ⟨true, congrArg V.bl di, iteT ⟨_, rfl, _, rfl, small2, fun t nt => ⟨(gs.map (·.t)).map V.ref, ?_, ?_, gs ++ [⟨t, z.x, z.R, z.r, z.a⟩], ?_, ?_, ?_, ?_⟩⟩⟩
        · exact same_new nt _ _ w1
        · rw [List.length_map, List.length_map]
          exact small1000 (by omega)
        · rw [upd_same, List.map_append, List.map_append]
          rfl
        · have gt : isR z = true := decide_eq_true c
          rw [tk, List.filter_append, List.filter_cons_of_pos gt, List.map_append, List.map_append, wn]
          rfl
        · have s1 := same_new (o := .tup [.str z.x, .ref z.r]) nt
          have tD : ∀ x ys, (upd H' t (.tup [.str z.x, .ref z.r])) x = some (.tup ys) → x ≠ D0 := fun x ys e y => by
            rw [y, s1 _ _ w1] at e
            cases e
          intro g hg
          rcases List.mem_append.mp hg with hg | hg
          · obtain ⟨a1, a2⟩ := wg g hg
            have q1 := s1 _ _ a1
            exact ⟨by rw [upd_ne (tD _ _ q1)]; exact q1, a2⟩
          · obtain rfl := List.mem_singleton.mp hg
            have q1 := upd_same (H := H') (a := t) (o := .tup [.str z.x, .ref z.r])
            exact ⟨by rw [upd_ne (tD _ _ q1)]; exact q1, hzz.2⟩
        · intro b o e
          rw [upd_ne (ne_of_none e nD0)]
          exact same_new nt _ _ (w2 _ _ e)
      · have di : decide (V.str z.R.s = V.str (Str.ofString "is")) = false := decide_eq_false fun y => c (V.str.inj y)
        have gt : ¬ isR z = true := fun y => c (of_decide_eq_true y)
        refine ⟨false, congrArg V.bl di, iteF ⟨gs, w1, ?_, wg, w2⟩⟩
        rw [tk, List.filter_append, List.filter_cons_of_neg gt, List.filter_nil, List.append_nil]
        exact wn
    rintro H1 ⟨gs, w1, wn, wg, w2⟩
    rw [List.length_map, List.take_length] at wn
    have ndg : (gs.map (·.x)).Nodup := by
      have q1 : gs.map (·.x) = (gs.map nr).map (·.1) := by
        rw [List.map_map]
        rfl
      rw [q1, wn, List.map_map]
      exact nd.sublist ((List.filter_sublist).map _)
    have gl : gs.length ≤ 60 := by
      have q1 := congrArg List.length wn
      have q2 := List.length_filter_le isR zs
      rw [List.length_map, List.length_map] at q1
      omega
    have prd : ∀ l : List Ent, (∀ g ∈ l, H1 g.t = some (.tup [.str g.x, .ref g.r])) → Paired (fun (p : Addr) (kv : Key × V) => SqT K H1 p [kV kv.1, kv.2]) (l.map (·.t)) (l.map fun e => ((Sum.inr e.x : Key), V.ref e.r)) := fun l => by
      induction l with
      | nil => intro _; exact .nil
      | cons g l ih => intro h; exact .cons (SqT.of (h g List.mem_cons_self)) (ih fun g' hg => h g' (List.mem_cons_of_mem _ hg))
    refine ⟨D0, gs.map Ent.t, gs.map (fun e : Ent => ((Sum.inr e.x : Key), V.ref e.r)), rfl, SqL.of w1, prd gs fun g hg => (wg g hg).1, fun D nD => ?_⟩
    have mg' : mergeK [] (gs.map fun e : Ent => ((Sum.inr e.x : Key), V.ref e.r)) = gs.map fun e : Ent => ((Sum.inr e.x : Key), V.ref e.r) := by
      have nk : ((([] : List (Key × V)) ++ gs.map fun e : Ent => ((Sum.inr e.x : Key), V.ref e.r)).map (·.1)).Nodup := by
        rw [List.nil_append, List.map_map]
        have e : ((fun p : Key × V => p.1) ∘ fun e : Ent => ((Sum.inr e.x : Key), V.ref e.r)) = Sum.inr ∘ Ent.x := rfl
        rw [e, ← List.map_map]
        exact List.Pairwise.map (R := (· ≠ ·)) Sum.inr (fun a b n z => n (Sum.inr.inj z)) ndg
      exact merge_nd _ [] nk
    rw [mg']
    have s1 : Same H H1 := fun b o e => w2 b o e
    have sD := same_new (o := .dK (gs.map fun e : Ent => ((Sum.inr e.x : Key), V.ref e.r))) nD
    have cur0 : CurL K U (upd H1 D (.dK (gs.map fun e : Ent => ((Sum.inr e.x : Key), V.ref e.r)))) D gs := by
      refine ⟨upd_same, fun g hg => ?_, ndg, gl⟩
      have r1 := (wg g hg).2.extN (ExtN.same (s1.trans sD))
      obtain ⟨kg, ng, a1, a2, _⟩ := (wg g hg).2
      exact ⟨r1, fun z => by
        have := w2 _ _ a2.1
        rw [z, nD] at this
        cases this⟩
    have fN : (zs.filter isR).map nr = (zs.map nr).filter isN := by
      rw [List.filter_map]
      rfl
    -- the rows sorted
    have pL0 : ((gs.map nr).mergeSort fun p q : Nm => decide (p.1.cps.toList ≤ q.1.cps.toList)).Perm (gs.map nr) := List.mergeSort_perm _ _
    have sL0 : (((gs.map nr).mergeSort fun p q : Nm => decide (p.1.cps.toList ≤ q.1.cps.toList)).map (·.1)).Pairwise leS := by
      rw [List.pairwise_map]
      refine (List.pairwise_mergeSort (le := fun p q : Nm => decide (p.1.cps.toList ≤ q.1.cps.toList)) (fun a b c h1 h2 => ?_) (fun a b => ?_) (gs.map nr)).imp fun h => KyS.leS_of h
      · exact decide_eq_true (List.le_trans (of_decide_eq_true h1) (of_decide_eq_true h2))
      · rcases List.le_total a.1.cps.toList b.1.cps.toList with q | q
        · simp [q]
        · simp [q]
    generalize ((gs.map nr).mergeSort fun p q : Nm => decide (p.1.cps.toList ≤ q.1.cps.toList)) = L0 at pL0 sL0
    obtain ⟨okT, okW⟩ := way L0 (by rw [← fN, ← wn]; exact pL0) sL0
    have nL0 : (L0.map (·.1)).Perm (gs.map (·.x)) := by
      have z := pL0.map (·.1)
      rw [List.map_map] at z
      exact z
    have ndL : (L0.map (·.1)).Nodup := nL0.nodup_iff.mpr ndg
    refine ⟨_, rfl, b, rfl, ⟨_, (hb : SqL K H b us) |> fun z => Same.seq (s1.trans sD) z⟩, for_list (K := K) (a := b) (xs := us) (fun i σ H' => ∃ (y3 y4 y5 y6 : Option V) (es : List Ent), σ = [some (.ref a), some (.ref b), some (.ref D), y3, y4, y5, y6] ∧ (∀ x o, x ≠ D → H1 x = some o → H' x = some o) ∧ CurL K U H' D es ∧ (es.map nr).Perm ((ts.take i).foldl stepM L0))
      ⟨none, none, none, none, gs, rfl, fun x o n e => sD _ _ e, cur0, pL0.symm⟩ (fun i σ H' _ hW => ?_) ?_ ?_⟩
    · obtain ⟨_, _, _, _, _, _, k1, _⟩ := hW
      exact Same.seq (fun x o e => k1 _ _ (ne_of_none (w2 _ _ e) nD) (w2 _ _ e)) hb
    · rintro i v σ H' hv ⟨y3, y4, y5, y6, es, rfl, k1, cur, hp⟩
      have SH : Same H H' := fun x o e => k1 _ _ (ne_of_none (w2 _ _ e) nD) (w2 _ _ e)
      obtain ⟨t, hti, hst'⟩ := (paired_get hst).2 i v hv
      have st' := hst'.extN (ExtN.same SH)
      have fn : ∀ (l : List Stp) (L : List Nm), (l.foldl stepM L).map (·.1) = L.map (·.1) := fun l => by
        induction l with
        | nil => intro L; rfl
        | cons t l ih =>
          intro L
          rw [List.foldl_cons, ih, stepM_names]
      have hnx : (es.map nr).map (·.1) = es.map (·.x) := by
        rw [List.map_map]
        rfl
      have nE : (es.map (·.x)).Perm (L0.map (·.1)) := by
        have z := hp.map (·.1)
        rw [fn, hnx] at z
        exact z
      have okt := okT t (List.mem_of_getElem? hti)
      obtain ⟨n1, n2, n3⟩ := okt.nm
      have n1' := nE.mem_iff.mpr n1
      have n2' := nE.mem_iff.mpr n2
      obtain ⟨e, he, hx⟩ := List.mem_map.mp n1'
      obtain ⟨g, hgm, hx2⟩ := List.mem_map.mp n2'
      have v1 := val_ent cur.nd he
      rw [hx] at v1
      have v2 := val_ent cur.nd hgm
      rw [hx2] at v2
      have okE : ∀ e ∈ es, e.R.In U ∧ e.R.Okb 1400 := fun e he => okW i (nr e) (hp.mem_iff.mp (List.mem_map.mpr ⟨e, he, rfl⟩))
      have tk : (ts.take (i + 1)).foldl stepM L0 = stepM ((ts.take i).foldl stepM L0) t := by
        rw [List.take_add_one, hti, List.foldl_append]
        rfl
      have pN : (stepM (es.map nr) t).Perm ((ts.take (i + 1)).foldl stepM L0) := by
        rw [tk]
        exact stepM_perm hp (by rw [hnx]; exact cur.nd) (by rw [hnx]; exact n2')
      have l2 : look (es.map nr) t.nm2 = g.R := by
        rw [← hx2]
        exact nr_look cur.nd hgm
      have okS : (e.R.step g.R t).In U ∧ (e.R.step g.R t).Okb 1400 := by
        refine okW (i + 1) (e.x, e.R.step g.R t) (pN.mem_iff.mp ?_)
        refine List.mem_map.mpr ⟨nr e, List.mem_map.mpr ⟨e, he, rfl⟩, ?_⟩
        show (if e.x = t.nm then (e.x, e.R.step (look (es.map nr) t.nm2) t) else nr e) = _
        rw [if_pos hx, l2]
      obtain ⟨r1, _⟩ := cur.r e he
      obtain ⟨r2, _⟩ := cur.r g hgm
      -- the row behind, put
      have fin : ∀ (H2 : Hp) (r' a' : Addr) (y4' y6' : Option V), Same H' H2 → H' a' = none → RowE K (U.length + U.length) H2 r' a' (e.R.step g.R t) →
          ∃ (z3 z4 z5 z6 : Option V) (fs : List Ent), [some (V.ref a), some (V.ref b), some (V.ref D), y3, y4', some v, y6'] = [some (.ref a), some (.ref b), some (.ref D), z3, z4, z5, z6] ∧ (∀ x o, x ≠ D → H1 x = some o → upd H2 D (.dK (putK (es.map fun e => (.inr e.x, V.ref e.r)) (.inr t.nm) (.ref r'))) x = some o) ∧
            CurL K U (upd H2 D (.dK (putK (es.map fun e => (.inr e.x, V.ref e.r)) (.inr t.nm) (.ref r')))) D fs ∧ (fs.map nr).Perm ((ts.take (i + 1)).foldl stepM L0) := fun H2 r' a' y4' y6' s2 na row => by
        have step := cur.step he hgm hx hx2 s2 na row okS.1
        exact ⟨y3, _, _, _, _, rfl, fun x o n q => by rw [upd_ne n]; exact s2 _ _ (k1 _ _ n q), step.1, by rw [step.2]; exact pN⟩
      cases t with
      | tm x c =>
        obtain ⟨ss, cn, rfl, h1, h2⟩ := st'
        have okc : SS.Okb 105 c := n3
        have o1 : SS.Okb 1 (-1, 1) := ⟨by decide, by decide, by decide, by decide⟩
        refine ⟨_, rfl, _, ⟨rfl, ss, _, 1, _, rfl, rfl, h1, atI_nat (j := 1) rfl, D, _, rfl, .inl ⟨_, .inr x, .inl cur.d, rfl, v1.symm⟩, ?_⟩⟩
        refine ⟨_, rfl, ss, _, 0, _, rfl, rfl, h1, atI_nat (j := 0) rfl, rfl, true, rfl, iteT ?_⟩
        refine ⟨_, rfl, ss, _, 2, _, rfl, rfl, h1, atI_nat (j := 2) rfl, 1, rfl, (by show 2 ≤ sizeLine; decide), fun p np => ?_⟩
        have sp := same_new (o := .tup [.int (-1), .int 1]) np
        refine ⟨c.1, c.2, -1, 1, two_of (A := c) (B := (-1, 1)) (h2.new sp) (FrT.of upd_same) okc o1 (by decide) (by decide), fun p2 np2 => ?_⟩
        have sp2 := same_new (o := .tup [.int (fplus c (-1, 1)).1, .int (fplus c (-1, 1)).2]) np2
        have S12 := sp.trans sp2
        have f2 : FrT K (upd (upd H' p (.tup [.int (-1), .int 1])) p2 (.tup [.int (fplus c (-1, 1)).1, .int (fplus c (-1, 1)).2])) p2 (fplus c (-1, 1)).1 (fplus c (-1, 1)).2 := FrT.of upd_same
        refine ⟨_, rfl, _, rfl, _, rfl, e.r, e.a, e.r, e.a, p2, e.R, e.R, fplus c (-1, 1), U.length, rfl, r1.extN (ExtN.same S12), r1.extN (ExtN.same S12), f2, by omega, (okE e he).2, (okE e he).2, okb_plus okc o1, fun H2 r' a' s3 nr' na' row => ?_⟩
        rw [plus_tm (R2 := g.R) (x := x) (okE e he).2 okc] at row
        have S3 := S12.trans s3
        obtain ⟨z3, z4, z5, z6, fs, ez, q1, q2, q3⟩ := fin H2 r' a' (some (.ref e.r)) (some (.ref p2)) S3 (S12.free na') row
        exact ⟨_, rfl, _, rfl, ss, _, 1, _, rfl, rfl, KyS.SqT.extN h1 (ExtN.same S3), atI_nat (j := 1) rfl, D, _, rfl, DPut.k (k := .inr x) (S3 _ _ cur.d) (small1000 (by rw [List.length_map]; have := cur.ln; omega)), z3, z4, z5, z6, fs, ez, q1, q2, q3⟩
      | ad x y c =>
        obtain ⟨ss, cn, rfl, h1, h2⟩ := st'
        have okc : SS.Okb 105 c := n3
        refine ⟨_, rfl, _, ⟨rfl, ss, _, 1, _, rfl, rfl, h1, atI_nat (j := 1) rfl, D, _, rfl, .inl ⟨_, .inr x, .inl cur.d, rfl, v1.symm⟩, ?_⟩⟩
        refine ⟨_, rfl, ss, _, 0, _, rfl, rfl, h1, atI_nat (j := 0) rfl, rfl, false, rfl, iteF ?_⟩
        refine ⟨_, rfl, _, rfl, _, rfl, ss, _, 2, _, rfl, rfl, h1, atI_nat (j := 2) rfl, D, _, rfl, .inl ⟨_, .inr y, .inl cur.d, rfl, v2.symm⟩, _, rfl, ss, _, 3, _, rfl, rfl, h1, atI_nat (j := 3) rfl, e.r, e.a, g.r, g.a, cn, e.R, g.R, c, U.length, rfl, r1, r2, h2, by omega, (okE e he).2, (okE g hgm).2, okc.mono (by decide), fun H2 r' a' s3 nr' na' row => ?_⟩
        obtain ⟨z3, z4, z5, z6, fs, ez, q1, q2, q3⟩ := fin H2 r' a' (some (.ref e.r)) y6 s3 na' row
        exact ⟨_, rfl, _, rfl, ss, _, 1, _, rfl, rfl, KyS.SqT.extN h1 (ExtN.same s3), atI_nat (j := 1) rfl, D, _, rfl, DPut.k (k := .inr x) (s3 _ _ cur.d) (small1000 (by rw [List.length_map]; have := cur.ln; omega)), z3, z4, z5, z6, fs, ez, q1, q2, q3⟩
    · rintro σ H' ⟨y3, y4, y5, y6, es, rfl, k1, cur, hp⟩
      have SH : Same H H' := fun x o e => k1 _ _ (ne_of_none (w2 _ _ e) nD) (w2 _ _ e)
      rw [(paired_get hst).1, List.take_length] at hp
      have kn : (es.map fun e : Ent => ((Sum.inr e.x : Key), V.ref e.r)).map (·.1) = (es.map (·.x)).map Sum.inr := by
        rw [List.map_map, List.map_map]
        rfl
      refine ⟨_, rfl, D, _, es.map (·.x), rfl, .inl cur.d, kn, by rw [List.length_map]; have := cur.ln; omega, fun ys p perm srt np => ?_⟩
      have s3 := same_new (o := .lst (ys.map V.str)) np
      have sL : ys.Pairwise leS := sorted_pw srt
      refine ⟨p, rfl, ⟨_, SqL.of upd_same⟩, fun L nL => ?_⟩
      have pL : p ≠ L := ne_of_none upd_same nL
      have DL : D ≠ L := ne_of_none (s3 _ _ cur.d) nL
      have yl : ys.length ≤ 60 := by
        have z := perm.length_eq
        rw [List.length_map] at z
        have := cur.ln
        omega
      refine lc_list (K := K) (a := p) (xs := ys.map V.str) (fun j H5 => ∃ fs : List Ent, H5 L = some (.lst (fs.map fun f => V.ref f.t)) ∧ fs.map nr = (ys.take j).map (fun y => (y, look (es.map nr) y)) ∧ (∀ f ∈ fs, EntOk K U.length H5 f) ∧ ∀ x o, x ≠ L → (upd H' p (.lst (ys.map V.str))) x = some o → H5 x = some o)
        ⟨[], upd_same, rfl, fun f hf => (by cases hf), fun x o n e => by rw [upd_ne n]; exact e⟩ (fun j H5 _ ⟨_, _, _, _, k5⟩ => SqL.of (k5 _ _ pL upd_same)) ?_ ?_
      · rintro j yv H5 hy ⟨fs, f1, f2, f3, k5⟩
        obtain ⟨y, hyj, rfl⟩ : ∃ y, ys[j]? = some y ∧ yv = .str y := by
          rw [List.getElem?_map] at hy
          cases e : ys[j]? with
          | none => rw [e] at hy; cases hy
          | some y =>
            rw [e] at hy
            exact ⟨y, rfl, (Option.some.inj hy).symm⟩
        obtain ⟨e, he, hx⟩ := List.mem_map.mp (perm.mem_iff.mp (List.mem_of_getElem? hyj))
        have v1 := val_ent cur.nd he
        rw [hx] at v1
        have d5 := k5 _ _ DL (s3 _ _ cur.d)
        have fl : fs.length ≤ 60 := by
          have q1 := congrArg List.length f2
          rw [List.length_map, List.length_map, List.length_take] at q1
          omega
        have s5 : ∀ x o, H' x = some o → H5 x = some o := fun x o q => k5 _ _ (ne_of_none (s3 _ _ q) nL) (s3 _ _ q)
        refine ⟨rfl, _, rfl, _, rfl, _, rfl, D, _, rfl, .inl ⟨_, .inr y, .inl d5, rfl, v1.symm⟩, small2, fun t nt => ⟨fs.map fun f => V.ref f.t, ?_, ?_, fs ++ [⟨t, y, e.R, e.r, e.a⟩], ?_, ?_, ?_, ?_⟩⟩
        · exact same_new nt _ _ f1
        · rw [List.length_map]
          exact small1000 (by omega)
        · rw [upd_same, List.map_append]
          rfl
        · have tk : ys.take (j + 1) = ys.take j ++ [y] := by
            rw [List.take_add_one, hyj]
            rfl
          have le : look (es.map nr) y = e.R := by
            rw [← hx]
            exact nr_look cur.nd he
          rw [tk, List.map_append, List.map_append, f2]
          show _ ++ [(y, e.R)] = _ ++ [(y, look (es.map nr) y)]
          rw [le]
        · have s6 := same_new (o := .tup [.str y, .ref e.r]) nt
          have hL6 := s6 _ _ f1
          intro f hf
          rcases List.mem_append.mp hf with hf | hf
          · exact EntOk.lst ((f3 f hf).same s6) hL6
          · obtain rfl := List.mem_singleton.mp hf
            exact EntOk.lst (e := ⟨t, y, e.R, e.r, e.a⟩) ⟨upd_same, (cur.r e he).1.extN (ExtN.same fun x o q => s6 _ _ (s5 _ _ q))⟩ hL6
        · intro x o n q
          rw [upd_ne n]
          exact same_new nt _ _ (k5 x o n q)
      · rintro H5 ⟨fs, f1, f2, f3, k5⟩
        rw [List.length_map, List.take_length] at f2
        have S5 : Same H H5 := fun x o q => k5 _ _ (ne_of_none (s3 _ _ (SH _ _ q)) nL) (s3 _ _ (SH _ _ q))
        have eE : es.map nr = (es.map (·.x)).map fun y => (y, look (es.map nr) y) := by
          rw [List.map_map]
          refine List.map_congr_left fun e he => ?_
          show (e.x, e.R) = (e.x, look (es.map nr) e.x)
          rw [nr_look cur.nd he]
        have pf : (fs.map nr).Perm (ts.foldl stepM L0) := by
          have z := perm.map fun y => (y, look (es.map nr) y)
          rw [← eE, ← f2] at z
          exact z.trans hp
        have fn : ∀ (l : List Stp) (L : List Nm), (l.foldl stepM L).map (·.1) = L.map (·.1) := fun l => by
          induction l with
          | nil => intro L; rfl
          | cons t l ih =>
            intro L
            rw [List.foldl_cons, ih, stepM_names]
        have fx : (fs.map nr).map (·.1) = ys := by
          rw [f2, List.map_map]
          exact List.map_id ys
        have eq : fs.map nr = ts.foldl stepM L0 := leS_uniq pf (by rw [fx]; exact perm.nodup_iff.mpr cur.nd) (by rw [fx]; exact sL) (by rw [fn]; exact sL0)
        exact q H5 L fs L0 S5 (by rw [← fN, ← wn]; exact pL0) sL0 eq f1 f3 (SH.free (s3.free nL))
end
end SS
namespace SS
open PySem PySem.Spec PyProof.Rows L2 NumText LamX KyS
theorem prod_le {B : Nat} : ∀ {ts : List Stp}, (∀ t ∈ ts, dT t ≤ 2 ^ B ∧ mT t ≤ 2 ^ B) → prodD ts ≤ 2 ^ (B * ts.length) ∧ prodM ts ≤ 2 ^ (B * ts.length)
  | [], _ => ⟨Nat.le_refl _, Nat.le_refl _⟩
  | t :: ts, h => by
    obtain ⟨a, b⟩ := prod_le (ts := ts) fun t' ht => h t' (List.mem_cons_of_mem _ ht)
    obtain ⟨c, d⟩ := h t List.mem_cons_self
    have e : 2 ^ (B * (t :: ts).length) = 2 ^ B * 2 ^ (B * ts.length) := by rw [List.length_cons, Nat.mul_add, Nat.mul_one, Nat.add_comm, Nat.pow_add]
    rw [e]
    exact ⟨Nat.mul_le_mul c a, Nat.mul_le_mul d b⟩
end SS
namespace SS
open PySem PySem.Spec PyProof.Rows L2 NumText LamX KyS
section
variable {P : Program} {w : World} {K : PySem.W.Frag} {mg : Str → Option Value} {base : Heap}
/-! ### _law_steps -/
theorem SqT.kp {K : PySem.W.Frag} {H H' : Hp} {a : Addr} {xs : List V} (h : SqT K H a xs) (k : ∀ b o, (∀ ys, o ≠ .lst ys) → H b = some o → H' b = some o) : SqT K H' a xs := by
  rcases h with (h | ⟨o, h⟩) | ⟨o, its, m, k1, k2, k3⟩
  · exact .inl (.inl (k _ _ (fun ys => by simp) h))
  · exact .inl (.inr ⟨o, k _ _ (fun ys => by simp) h⟩)
  · exact .inr ⟨o, its, m, k1, k2, k3⟩
theorem FrT.kp {K : PySem.W.Frag} {H H' : Hp} {p : Addr} {n d : Int} (h : FrT K H p n d) (k : ∀ b o, (∀ ys, o ≠ .lst ys) → H b = some o → H' b = some o) : FrT K H' p n d := by
  obtain ⟨h1, h2⟩ := h
  rcases h1 with (h1 | ⟨o, h1⟩) | ⟨o, its, m, k1, k2, k3⟩
  · have q := k _ _ (fun ys => by simp) h1
    exact ⟨.inl (.inl q), .base (.tup q)⟩
  · have q := k _ _ (fun ys => by simp) h1
    exact ⟨.inl (.inr ⟨o, q⟩), .fTuple q⟩
  · exact ⟨.inr ⟨o, its, m, k1, k2, k3⟩, .kTuple k1 k2⟩
theorem StpAt.kp {K : PySem.W.Frag} {H H' : Hp} {v : V} {t : Stp} (h : StpAt K H v t) (k : ∀ b o, (∀ ys, o ≠ .lst ys) → H b = some o → H' b = some o) : StpAt K H' v t := by
  cases t with
  | tm x c =>
    obtain ⟨s, n, e1, h1, h2⟩ := h
    exact ⟨s, n, e1, SqT.kp h1 k, FrT.kp h2 k⟩
  | ad x y c =>
    obtain ⟨s, n, e1, h1, h2⟩ := h
    exact ⟨s, n, e1, SqT.kp h1 k, FrT.kp h2 k⟩
theorem But.kp {st c : Addr} {H H' : Hp} (b : But st H H') (sa : StA st c H) : ∀ x o, (∀ ys, o ≠ .lst ys) → H x = some o → H' x = some o := fun x o n e => b _ _ (fun z => by
  obtain ⟨i, m, f, xs, g1, _⟩ := sa
  rw [z, g1] at e
  exact n _ (Option.some.inj e).symm) e
theorem paired_snoc {α β : Type} {R : α → β → Prop} : ∀ {xs : List α} {ys : List β} {x : α} {y : β}, Paired R xs ys → R x y → Paired R (xs ++ [x]) (ys ++ [y])
  | _, _, _, _, .nil, r => .cons r .nil
  | _, _, _, _, .cons a p, r => .cons a (paired_snoc p r)
theorem paired_mono {α β : Type} {R S : α → β → Prop} (h : ∀ x y, R x y → S x y) : ∀ {xs : List α} {ys : List β}, Paired R xs ys → Paired S xs ys
  | _, _, .nil => .nil
  | _, _, .cons a p => .cons (h _ _ a) (paired_mono h p)

def spSteps15 (K : PySem.W.Frag) : Sp := fun vs H Q _ => ∃ (st c u : Addr) (xs : List Str) (many : Int), vs = [.ref st, .ref u, .int many] ∧ StA st c H ∧ H u = some (.lst (xs.map V.str)) ∧ 0 < xs.length ∧ xs.length ≤ 60 ∧ 0 ≤ many ∧ (many < 13 ∨ many = 40 ∨ many = 200) ∧
  ∀ (H' : Hp) (l : Addr) (us : List V) (ts : List Stp), But st H H' → StA st c H' → H l = none → H' l = some (.lst us) → us.length ≤ 200 → Paired (StpAt K H') us ts → (∀ t ∈ ts, t.Ok xs) → prodD ts ≤ 2 ^ 1250 → prodM ts ≤ 2 ^ 1250 → Q (.ref l) H'
theorem scSteps15 : FnScope ["_law_state", "_law_names_here", "_law_many", "_law_steps_here", "_law_far", "_law_k", "_law_name", "_law_other", "_law_number_here"] ["_law_state", "_law_names_here", "_law_many"] (defScope sSteps) := ⟨rfl, rfl, rfl, by decide +kernel, rfl, by decide +kernel, by decide +kernel⟩
theorem ok_steps15 {f : Addr} {fd : FuncData} (F : Fun K "_law_steps" "_law_steps" sSteps f fd) (mr : mg "range" = none) (ml : mg "len" = none) (mx : mg "max" = none) (mn : mg "min" = none) (tk : Cl P w K mg base CX0 3 "_law_take" spTake []) (fc : Cl P w K mg base CX0 2 "_law_frac" spFrac []) :
    FnOk P w K mg base CX0 4 f fd ["_law_state", "_law_names_here", "_law_many"] (spSteps15 K) := by
  refine F.ok scSteps15 (fun vs H Q E h => ?_) (fun cdv A outer s H vs Q E hr h => ?_)
  · obtain ⟨_, _, _, _, _, rfl, _⟩ := h
    rfl
  · obtain ⟨st, c, u, xs, many, rfl, sa, hu0, x0, xl, m0, hm, q⟩ := h
    refine ⟨_, pss_cons (ps_set (i := 3) scSteps15.nd rfl (.inl rfl) (pe_lst pa_nil))
      (pss_cons (ps_set (i := 4) scSteps15.nd rfl (.inl rfl) (pe_tup (pa_cons pe_int (pa_cons pe_int pa_nil))))
      (pss_cons (ps_if (PW.pt (pw_and (pt_cmpR op_lt (pv 2) pe_int (nomark _)) (pw_and1 (pt_cmpR op_eq (pc0 tk hr (by decide) (pa_cons (pv 0) (pa_cons pe_int pa_nil))) pe_int (nomark _)))))
        (pss_one (ps_set (i := 4) scSteps15.nd rfl (.inl rfl) (pc0 fc hr (by decide) (pa_cons (pe_op op_sub (pe_op op_add (pc0 tk hr (by decide) (pa_cons (pv 0) (pa_cons (pe_op op_sub (pe_op op_pow pe_int pe_int) pe_int) pa_nil))) pe_int) (pe_op op_mul pe_int (pe_op op_pow pe_int pe_int)))
          (pa_cons (pe_op op_add pe_int (pc0 tk hr (by decide) (pa_cons (pv 0) (pa_cons (pe_op op_sub (pe_op op_pow pe_int pe_int) pe_int) pa_nil)))) pa_nil))))) pss_nil)
      (pss_cons (ps_for PassesOwn.never rfl (pi_range1 rfl mr (pa_cons (pv 2) pa_nil)) (pg_name (i := 5) scSteps15.nd rfl (.inl rfl))
        (pss_cons (ps_set (i := 6) scSteps15.nd rfl (.inl rfl) (pe_ix ix_list (pv 1) (pc0 tk hr (by decide) (pa_cons (pv 0) (pa_cons (pe_callB call_len_seq (by rfl) ml PySem.boot_len (pa_cons (pv 1) pa_nil)) pa_nil))) (fun _ _ => rfl)))
        (pss_cons (ps_set (i := 7) scSteps15.nd rfl (.inl rfl) (pe_ix ix_list (pv 1) (pc0 tk hr (by decide) (pa_cons (pv 0) (pa_cons (pe_callB call_len_seq (by rfl) ml PySem.boot_len (pa_cons (pv 1) pa_nil)) pa_nil))) (fun _ _ => rfl)))
        (pss_cons (ps_set (i := 8) scSteps15.nd rfl (.inl rfl) (pe_ix ix_tup (pe_tup (pa_cons (pe_tup (pa_cons pe_int (pa_cons pe_int pa_nil))) (pa_cons (pe_tup (pa_cons pe_int (pa_cons pe_int pa_nil))) (pa_cons (pe_tup (pa_cons (pe_un un_neg pe_int) (pa_cons pe_int pa_nil)))
          (pa_cons (pe_tup (pa_cons pe_int (pa_cons pe_int pa_nil))) (pa_cons (pe_tup (pa_cons (pe_un un_neg pe_int) (pa_cons pe_int pa_nil))) (pa_cons (pe_tup (pa_cons pe_int (pa_cons pe_int pa_nil))) (pa_cons (pe_tup (pa_cons (pe_un un_neg pe_int) (pa_cons pe_int pa_nil))) (pa_cons (pv 4) pa_nil)))))))))
          (pc0 tk hr (by decide) (pa_cons (pv 0) (pa_cons pe_int pa_nil))) (fun _ _ => rfl)))
        (pss_cons (ps_if (pt_cmpR op_gt (pv 2) pe_int (nomark _)) (pss_one (ps_set (i := 8) scSteps15.nd rfl (.inl rfl) (pe_tup (pa_cons (pe_callB (call_max2 rfl) (by rfl) mx (by decide +kernel) (pa_cons (pe_un un_neg pe_int) (pa_cons (pe_callB (call_min2 rfl) (by rfl) mn (by decide +kernel) (pa_cons pe_int (pa_cons (pe_ix ix_tup (pv 8) pe_int (fun _ _ => rfl)) pa_nil))) pa_nil))) (pa_cons pe_int pa_nil))))) pss_nil)
        (pss_one (ps_if (pt_cmpR op_ne (pv 6) (pv 7) (nomark _))
          (pss_one (ps_expr (pe_bm PySem.F.plainAttrs_list PySem.F.slot_list_append PySem.F.type_list_append mt_append (pv 3) (pa_cons (pe_tup (pa_cons pe_str (pa_cons (pv 6) (pa_cons (pv 7) (pa_cons (pv 8) pa_nil))))) pa_nil))))
          (pss_one (ps_if (pt_cmpR op_ne (pe_ix ix_tup (pv 8) pe_int (fun _ _ => rfl)) pe_int (nomark _))
            (pss_one (ps_expr (pe_bm PySem.F.plainAttrs_list PySem.F.slot_list_append PySem.F.type_list_append mt_append (pv 3) (pa_cons (pe_tup (pa_cons pe_str (pa_cons (pv 6) (pa_cons (pv 8) pa_nil)))) pa_nil)))) pss_nil)))))))))
      (pss_one (ps_ret (pv 3)))))), ?_⟩
    refine ⟨by show 0 ≤ sizeLine; exact Nat.zero_le _, fun L nL => ?_⟩
    have s0 := same_new (o := .lst []) nL
    refine ⟨(by show 2 ≤ sizeLine; decide), fun pf npf => ?_⟩
    have s1 := same_new (o := .tup [.int 1, .int 1]) npf
    have S1 := s0.trans s1
    have sa1 := sa.same S1
    have Lst : L ≠ st := fun z => by
      obtain ⟨i, n, f, xs, g1, _⟩ := sa
      rw [z, g1] at nL
      cases nL
    have hL1 := s1 _ _ (upd_same (H := H) (a := L) (o := .lst []))
    have hp1 := upd_same (H := upd H L (.lst [])) (a := pf) (o := .tup [.int 1, .int 1])
    generalize upd (upd H L (.lst [])) pf (.tup [.int 1, .int 1]) = H1 at S1 sa1 hL1 hp1
    have o11 : SS.Okb 100 (1, 1) := ⟨by decide, by decide, by decide, by decide⟩
    refine' mid (C := _) (Inv := fun σ H' => ∃ (p : Addr) (far : Int × Int), σ = [some (.ref st), some (.ref u), some (.int many), some (.ref L), some (.ref p), none, none, none, none] ∧ But st H H' ∧ StA st c H' ∧ H' L = some (.lst []) ∧ H' p = some (.tup [.int far.1, .int far.2]) ∧ SS.Okb 100 far ∧ (13 ≤ many → far = (1, 1))) (fun key => ?main) ?rest
    case main =>
      refine ⟨_, rfl, many, 13, rfl, rfl, _, rfl, ite2 (fun e => ?ya) (fun e => ?yb)⟩
      case yb =>
        refine iteF ?_
        unfold tNext
        exact key _ _ ⟨pf, (1, 1), rfl, Same.but S1, sa1, hL1, hp1, o11, fun _ => rfl⟩
      case ya =>
        have m13 : many < 13 := of_decide_eq_true e
        refine ⟨_, rfl, st, c, 8, rfl, by decide, lt8 (by decide), sa1, fun H2 d b2 s2 _ _ => ⟨rfl, _, rfl, ite2 (fun _ => ?yaa) (fun _ => ?yab)⟩⟩
        case yab => exact key _ _ ⟨pf, (1, 1), rfl, (Same.but S1).trans b2, s2, b2 _ _ Lst hL1, b2.tup sa1 hp1, o11, fun _ => rfl⟩
        case yaa =>
          refine ⟨_, rfl, 10, 30, rfl, rfl, ⟨by decide, by decide, by decide⟩, _, 1, rfl, rfl, st, c, _, rfl, by decide, lt8 (by decide), s2, fun H3 d3 b3 s3 l3 u3 => ?_⟩
          refine ⟨d3, 1, rfl, rfl, 10, 29, rfl, rfl, ⟨by decide, by decide, by decide⟩, 2, _, rfl, rfl, .inl ⟨by decide, by decide⟩, _, _, rfl, rfl, ?_⟩
          refine ⟨_, rfl, 10, 30, rfl, rfl, ⟨by decide, by decide, by decide⟩, _, 1, rfl, rfl, st, c, _, rfl, by decide, lt8 (by decide), s3, fun H4 d4 b4 s4 l4 u4 => ?_⟩
          have u3' : d3 < 10 ^ 30 := Int.lt_of_lt_of_le u3 (by decide)
          have u4' : d4 < 10 ^ 30 := Int.lt_of_lt_of_le u4 (by decide)
          have b0 : (1 : Int) + d4 ≠ 0 := by omega
          have bl : (1 + d4).natAbs < 2 ^ 100 := by omega
          refine ⟨1, d4, rfl, rfl, d3 + 1 - 2 * 10 ^ 29, 1 + d4, rfl, b0, lt8 bl, fun p np => ?_⟩
          have tl : (d3 + 1 - 2 * 10 ^ 29).natAbs < 2 ^ 100 := by omega
          have sp := same_new (o := .tup [.int (fr1 (d3 + 1 - 2 * 10 ^ 29) (1 + d4)), .int (fr2 (d3 + 1 - 2 * 10 ^ 29) (1 + d4))]) np
          have B4 := (((Same.but S1).trans b2).trans b3).trans b4
          have hL4 := b4 _ _ Lst (b3 _ _ Lst (b2 _ _ Lst hL1))
          have lo := lo_fr (t := d3 + 1 - 2 * 10 ^ 29) b0
          exact key _ _ ⟨p, (fr1 (d3 + 1 - 2 * 10 ^ 29) (1 + d4), fr2 (d3 + 1 - 2 * 10 ^ 29) (1 + d4)), rfl, B4.trans (Same.but sp), s4.same sp, sp _ _ hL4, upd_same,
            ⟨lo.1, Nat.lt_of_le_of_lt (fr1_le b0) tl, Nat.lt_of_le_of_lt (fr2_le b0) bl, lo.2⟩, fun h => by omega⟩
    case rest =>
      rintro σ H1 ⟨p, far, rfl, B1, sa1, hL1, hp1, okf, hfar⟩
      have nu := strs_ne sa hu0
      have Lc := sa.fresh2 nL
      have Lu : L ≠ u := fun z => by rw [z, hu0] at nL; cases nL
      obtain ⟨bd, hbd, hb1, hb2, hb3⟩ : ∃ bd : Nat, bd * many.toNat ≤ 1250 ∧ (many < 13 → bd = 101) ∧ (many = 40 → bd = 3) ∧ (many = 200 → bd = 1) := by
        rcases hm with h | h | h
        · exact ⟨101, by omega, fun _ => rfl, fun _ => by omega, fun _ => by omega⟩
        · exact ⟨3, by subst h; decide, fun _ => by omega, fun _ => rfl, fun _ => by omega⟩
        · exact ⟨1, by subst h; decide, fun _ => by omega, fun _ => by omega, fun _ => rfl⟩
      have el : ((xs.map V.str).length : Int) = (xs.length : Int) := by rw [List.length_map]
      have lp : 0 < (xs.length : Int) := by omega
      have m2 : many ≤ 200 := by omega
      refine ⟨_, rfl, many, rfl, by omega, by omega, for_range (n := many.toNat) (fun i σ H' => ∃ (y5 y6 y7 y8 : Option V) (us : List V) (ts : List Stp), σ = [some (.ref st), some (.ref u), some (.int many), some (.ref L), some (.ref p), y5, y6, y7, y8] ∧ But st H H' ∧ StA st c H' ∧ H' L = some (.lst us) ∧ H' p = some (.tup [.int far.1, .int far.2]) ∧ us.length ≤ i ∧ Paired (StpAt K H') us ts ∧ ∀ t ∈ ts, t.Ok xs ∧ dT t ≤ 2 ^ bd ∧ mT t ≤ 2 ^ bd)
        ⟨none, none, none, none, [], [], rfl, B1, sa1, hL1, hp1, Nat.le_refl _, .nil, fun t ht => by cases ht⟩ ?turn ?after⟩
      case after =>
        rintro σ H2 ⟨y5, y6, y7, y8, us, ts, rfl, B2, sa2, hL2, hp2, hlen, pd, ht⟩
        have lts : us.length = ts.length := Paired.length pd
        obtain ⟨p1, p2⟩ := prod_le (B := bd) (ts := ts) fun t h => (ht t h).2
        have le : 2 ^ (bd * ts.length) ≤ 2 ^ 1250 := Nat.pow_le_pow_right (by decide) (Nat.le_trans (Nat.mul_le_mul_left _ (by omega)) hbd)
        exact ⟨_, rfl, q H2 L us ts B2 sa2 nL hL2 (by omega) pd (fun t h => (ht t h).1) (Nat.le_trans p1 le) (Nat.le_trans p2 le)⟩
      case turn =>
        rintro i σ H2 hi ⟨y5, y6, y7, y8, us, ts, rfl, B2, sa2, hL2, hp2, hlen, pd, ht⟩
        have hu2 := B2 _ _ nu hu0
        refine ⟨_, rfl, _, rfl, _, rfl, u, _, rfl, .inl (SqL.of hu2), st, c, (xs.length : Int), congrArg (fun z => [V.ref st, V.int z]) el, lp, lt8 (by omega), sa2, fun H3 d3 b3 s3 l3 u3 => ?_⟩
        obtain ⟨x, hxi, hat⟩ := at_str (xs := xs) l3 u3
        refine ⟨u, _, d3, _, rfl, rfl, SqL.of (b3 _ _ nu hu2), hat, ?_⟩
        have hu3 := b3 _ _ nu hu2
        refine ⟨_, rfl, _, rfl, _, rfl, u, _, rfl, .inl (SqL.of hu3), st, c, (xs.length : Int), congrArg (fun z => [V.ref st, V.int z]) el, lp, lt8 (by omega), s3, fun H4 d4 b4 s4 l4 u4 => ?_⟩
        obtain ⟨y, hyi, hat4⟩ := at_str (xs := xs) l4 u4
        refine ⟨u, _, d4, _, rfl, rfl, SqL.of (b4 _ _ nu hu3), hat4, ?_⟩
        have b24 := b3.trans b4
        have hp4 := b24.tup sa2 hp2
        have pd4 := paired_mono (fun v t h => StpAt.kp h (b24.kp sa2)) pd
        have hL4 := b24 _ _ Lst hL2
        have B4 := B2.trans b24
        clear b24 b3 b4 sa2 s3 hu2 hu3 hp2 hL2 B2 pd
        have sa4 := s4
        clear s4 hat hat4 l3 u3 l4 u4 sa1 hL1 hp1 B1
        -- the numbers
        refine ⟨small2, fun n0 f0 => ?_⟩
        have e0 := same_new (o := .tup [.int 0, .int 1]) f0
        have a0 := upd_same (H := H4) (a := n0) (o := .tup [.int 0, .int 1])
        generalize upd H4 n0 (.tup [.int 0, .int 1]) = G0 at e0 a0 ⊢
        refine ⟨small2, fun n1 f1 => ?_⟩
        have e1 := same_new (o := .tup [.int 1, .int 1]) f1
        have a1 := upd_same (H := G0) (a := n1) (o := .tup [.int 1, .int 1])
        generalize upd G0 n1 (.tup [.int 1, .int 1]) = G1 at e1 a1 ⊢
        refine ⟨1, rfl, small2, fun n2 f2 => ?_⟩
        have e2 := same_new (o := .tup [.int (-1), .int 1]) f2
        have a2 := upd_same (H := G1) (a := n2) (o := .tup [.int (-1), .int 1])
        generalize upd G1 n2 (.tup [.int (-1), .int 1]) = G2 at e2 a2 ⊢
        refine ⟨small2, fun n3 f3 => ?_⟩
        have e3 := same_new (o := .tup [.int 2, .int 1]) f3
        have a3 := upd_same (H := G2) (a := n3) (o := .tup [.int 2, .int 1])
        generalize upd G2 n3 (.tup [.int 2, .int 1]) = G3 at e3 a3 ⊢
        refine ⟨1, rfl, small2, fun n4 f4 => ?_⟩
        have e4 := same_new (o := .tup [.int (-1), .int 2]) f4
        have a4 := upd_same (H := G3) (a := n4) (o := .tup [.int (-1), .int 2])
        generalize upd G3 n4 (.tup [.int (-1), .int 2]) = G4 at e4 a4 ⊢
        refine ⟨small2, fun n5 f5 => ?_⟩
        have e5 := same_new (o := .tup [.int 2, .int 3]) f5
        have a5 := upd_same (H := G4) (a := n5) (o := .tup [.int 2, .int 3])
        generalize upd G4 n5 (.tup [.int 2, .int 3]) = G5 at e5 a5 ⊢
        refine ⟨3, rfl, small2, fun n6 f6 => ?_⟩
        have e6 := same_new (o := .tup [.int (-3), .int 1]) f6
        have a6 := upd_same (H := G5) (a := n6) (o := .tup [.int (-3), .int 1])
        generalize upd G5 n6 (.tup [.int (-3), .int 1]) = G6 at e6 a6 ⊢
        refine ⟨_, rfl, (by show 8 ≤ sizeLine; decide), fun T fT => ?_⟩
        have eT := same_new (o := .tup [.ref n0, .ref n1, .ref n2, .ref n3, .ref n4, .ref n5, .ref n6, .ref p]) fT
        have aT := upd_same (H := G6) (a := T) (o := .tup [.ref n0, .ref n1, .ref n2, .ref n3, .ref n4, .ref n5, .ref n6, .ref p])
        generalize upd G6 T (.tup [.ref n0, .ref n1, .ref n2, .ref n3, .ref n4, .ref n5, .ref n6, .ref p]) = GT at eT aT ⊢
        have t6 := eT
        have t5 := e6.trans t6
        have t4 := e5.trans t5
        have t3 := e4.trans t4
        have t2 := e3.trans t3
        have t1 := e2.trans t2
        have t0 := e1.trans t1
        have tA := e0.trans t0
        have saT := sa4.same tA
        refine ⟨_, rfl, st, c, 8, rfl, by decide, lt8 (by decide), saT, fun H5 d5 b5 s5 l5 u5 => ?_⟩
        obtain ⟨r, cc, hat, hr5, okc, smc⟩ : ∃ (r : Addr) (cc : Int × Int), atI [V.ref n0, .ref n1, .ref n2, .ref n3, .ref n4, .ref n5, .ref n6, .ref p] d5 = some (.ref r) ∧ H5 r = some (.tup [.int cc.1, .int cc.2]) ∧ SS.Okb 100 cc ∧ (13 ≤ many → cc.2.natAbs + cc.1.natAbs ≤ 8) := by
          have cs : d5 = 0 ∨ d5 = 1 ∨ d5 = 2 ∨ d5 = 3 ∨ d5 = 4 ∨ d5 = 5 ∨ d5 = 6 ∨ d5 = 7 := by omega
          rcases cs with rfl | rfl | rfl | rfl | rfl | rfl | rfl | rfl
          · exact ⟨n0, (0, 1), atI_nat (j := 0) rfl, b5.tup saT (t0 _ _ a0), ⟨by decide, by decide, by decide, by decide⟩, fun _ => by decide⟩
          · exact ⟨n1, (1, 1), atI_nat (j := 1) rfl, b5.tup saT (t1 _ _ a1), ⟨by decide, by decide, by decide, by decide⟩, fun _ => by decide⟩
          · exact ⟨n2, (-1, 1), atI_nat (j := 2) rfl, b5.tup saT (t2 _ _ a2), ⟨by decide, by decide, by decide, by decide⟩, fun _ => by decide⟩
          · exact ⟨n3, (2, 1), atI_nat (j := 3) rfl, b5.tup saT (t3 _ _ a3), ⟨by decide, by decide, by decide, by decide⟩, fun _ => by decide⟩
          · exact ⟨n4, (-1, 2), atI_nat (j := 4) rfl, b5.tup saT (t4 _ _ a4), ⟨by decide, by decide, by decide, by decide⟩, fun _ => by decide⟩
          · exact ⟨n5, (2, 3), atI_nat (j := 5) rfl, b5.tup saT (t5 _ _ a5), ⟨by decide, by decide, by decide, by decide⟩, fun _ => by decide⟩
          · exact ⟨n6, (-3, 1), atI_nat (j := 6) rfl, b5.tup saT (t6 _ _ a6), ⟨by decide, by decide, by decide, by decide⟩, fun _ => by decide⟩
          · exact ⟨p, far, atI_nat (j := 7) rfl, b5.tup saT (tA _ _ hp4), okf, fun h => by rw [hfar h]; decide⟩
        refine ⟨T, _, d5, _, rfl, rfl, SqT.of (b5.tup saT aT), hat, ?_⟩
        have B5 := (B4.trans (Same.but tA)).trans b5
        have hL5 := b5 _ _ Lst (tA _ _ hL4)
        have hp5 := b5.tup saT (tA _ _ hp4)
        have pd5 := paired_mono (fun v t h => StpAt.kp h (b5.kp saT)) (paired_mono (fun v t h => StpAt.kp h (fun b o _ e => tA _ _ e)) pd4)
        clear hat a0 a1 a2 a3 a4 a5 a6 aT f0 f1 f2 f3 f4 f5 f6 fT e0 e1 e2 e3 e4 e5 e6 eT t0 t1 t2 t3 t4 t5 t6 tA hL4 hp4 pd4 B4 sa4 saT b5
        -- the number at hand
        refine' mid (C := _) (Inv := fun σ H' => ∃ (q : Addr) (c' : Int × Int), σ = [some (.ref st), some (.ref u), some (.int many), some (.ref L), some (.ref p), some (.int (0 + (i : Nat))), some (.str x), some (.str y), some (.ref q)] ∧ But st H H' ∧ StA st c H' ∧ H' L = some (.lst us) ∧ H' p = some (.tup [.int far.1, .int far.2]) ∧ Paired (StpAt K H') us ts ∧ FrT K H' q c'.1 c'.2 ∧ SS.Okb 105 c' ∧ c'.2.natAbs + c'.1.natAbs ≤ 2 ^ bd) (fun key => ?m2) ?r2
        case m2 =>
          refine ⟨_, rfl, many, 100, rfl, rfl, _, rfl, ite2 (fun e => ?ya) (fun e => ?yb)⟩
          case yb =>
            have e' : ¬ many > 100 := fun z => e (decide_eq_true z)
            dsimp only
            refine key _ _ ?_
            refine ⟨r, cc, rfl, B5, s5, hL5, hp5, pd5, FrT.of hr5, okc.mono (by decide), ?_⟩
            rcases hm with h | h | h
            · rw [hb1 h]
              have z1 : cc.1.natAbs < 2 ^ 100 := okc.2.1
              have z2 : cc.2.natAbs < 2 ^ 100 := okc.2.2.1
              have : (2 : Nat) ^ 101 = 2 ^ 100 + 2 ^ 100 := by decide
              omega
            · rw [hb2 h]
              exact smc (by omega)
            · omega
          case ya =>
            have e' : many > 100 := of_decide_eq_true e
            have m200 : many = 200 := by omega
            refine ⟨1, rfl, _, rfl, r, _, 0, _, rfl, rfl, SqT.of hr5, atI_nat (j := 0) rfl, 1, cc.1, rfl, -1, _, rfl, small2, fun n nn => ?_⟩
            have lo : ∃ w : Int, w = (if (if cc.1 < 1 then cc.1 else 1) > -1 then (if cc.1 < 1 then cc.1 else 1) else -1) ∧ -1 ≤ w ∧ w ≤ 1 := by
              refine ⟨_, rfl, ?_, ?_⟩ <;> split <;> (try split) <;> omega
            obtain ⟨w, ew, w1, w2⟩ := lo
            rw [← ew]
            have en := same_new (o := .tup [.int w, .int 1]) nn
            refine key _ _ ?_
            refine ⟨n, (w, 1), rfl, B5.trans (Same.but en), s5.same en, en _ _ hL5, en _ _ hp5, paired_mono (fun v t h => StpAt.kp h (fun b o _ e => en _ _ e)) pd5, FrT.of upd_same, ⟨(by show (0 : Int) < 1; decide), ?_, (by show (1 : Int).natAbs < 2 ^ 105; decide), Int.gcd_one_right _⟩, ?_⟩
            · show w.natAbs < 2 ^ 105
              have : (2 : Nat) ≤ 2 ^ 105 := by decide
              omega
            · rw [hb3 m200]
              show (1 : Int).natAbs + w.natAbs ≤ 2 ^ 1
              have : (1 : Int).natAbs = 1 := rfl
              omega
        case r2 =>
          clear hr5 okc smc hL5 hp5 pd5 s5 B5
          rintro σ H6 ⟨q', c', rfl, B6, s6, hL6, hp6, pd6, fq, okc, smc⟩
          have fin : ∀ (H7 : Hp) (s : Addr) (t : Stp), Same H6 H7 → StpAt K H7 (.ref s) t → t.Ok xs → t.num = c' →
              ∃ (y5 y6 y7 y8 : Option V) (us' : List V) (ts' : List Stp), [some (V.ref st), some (.ref u), some (.int many), some (.ref L), some (.ref p), some (.int (0 + (i : Nat))), some (.str x), some (.str y), some (.ref q')] = [some (.ref st), some (.ref u), some (.int many), some (.ref L), some (.ref p), y5, y6, y7, y8] ∧
                But st H (upd H7 L (.lst (us ++ [.ref s]))) ∧ StA st c (upd H7 L (.lst (us ++ [.ref s]))) ∧ (upd H7 L (.lst (us ++ [.ref s]))) L = some (.lst us') ∧ (upd H7 L (.lst (us ++ [.ref s]))) p = some (.tup [.int far.1, .int far.2]) ∧ us'.length ≤ i + 1 ∧ Paired (StpAt K (upd H7 L (.lst (us ++ [.ref s])))) us' ts' ∧ ∀ t ∈ ts', t.Ok xs ∧ dT t ≤ 2 ^ bd ∧ mT t ≤ 2 ^ bd := fun H7 s t S7 hs ok en => by
            have hL7 := S7 _ _ hL6
            have kp : ∀ b o, (∀ ys, o ≠ .lst ys) → H7 b = some o → (upd H7 L (.lst (us ++ [.ref s]))) b = some o := fun b o n e => by
              rw [upd_ne fun z => ?_]
              · exact e
              · rw [z, hL7] at e
                exact n _ (Option.some.inj e).symm
            refine ⟨_, _, _, _, us ++ [.ref s], ts ++ [t], rfl, ?_, (s6.same S7).other Lst Lc, upd_same, kp _ _ (fun ys => by simp) (S7 _ _ hp6), ?_, ?_, ?_⟩
            · intro b o nb e
              rw [upd_ne fun z => ?_]
              · exact S7 _ _ (B6 b o nb e)
              · rw [z, nL] at e
                cases e
            · rw [List.length_append]
              exact Nat.add_le_add_right hlen 1
            · exact paired_mono (fun v t h => StpAt.kp h kp) (paired_snoc (paired_mono (fun v t h => StpAt.kp h (fun b o _ e => S7 _ _ e)) pd6) hs)
            · intro t' ht'
              rcases List.mem_append.mp ht' with z | z
              · exact ht t' z
              · obtain rfl := List.mem_singleton.mp z
                refine ⟨ok, ?_, ?_⟩
                · unfold dT
                  rw [en]
                  omega
                · unfold mT
                  rw [en]
                  exact smc
          refine ⟨_, rfl, _, rfl, rfl, _, rfl, ite2 (fun e => ?ya) (fun e => ?yb)⟩
          case ya =>
            have xy : x ≠ y := fun z => by
              rw [z] at e
              simp at e
            refine ⟨.ref L, rfl, .inl ⟨rfl, _, SqL.of hL6⟩, _, rfl, _, rfl, _, rfl, (by show 4 ≤ sizeLine; decide), fun s fs => ?_⟩
            have es := same_new (o := .tup [.str (Str.ofString "add"), .str x, .str y, .ref q']) fs
            exact ⟨L, _, _, rfl, rfl, es _ _ hL6, small1000 (by omega), fin _ s (.ad x y c') es ⟨s, q', rfl, SqT.of upd_same, fq.new es⟩ ⟨hxi, hyi, xy, okc⟩ rfl⟩
          case yb =>
            refine ⟨_, rfl, q', _, 0, _, rfl, rfl, fq.1, atI_nat (j := 0) rfl, rfl, _, rfl, ite2 (fun e2 => ?yba) (fun e2 => ?ybb)⟩
            case ybb => exact ⟨_, _, _, _, us, ts, rfl, B6, s6, hL6, hp6, Nat.le_succ_of_le hlen, pd6, ht⟩
            case yba =>
              have c0 : c'.1 ≠ 0 := fun z => by
                rw [z] at e2
                simp at e2
              refine ⟨.ref L, rfl, .inl ⟨rfl, _, SqL.of hL6⟩, _, rfl, _, rfl, (by show 3 ≤ sizeLine; decide), fun s fs => ?_⟩
              have es := same_new (o := .tup [.str (Str.ofString "times"), .str x, .ref q']) fs
              exact ⟨L, _, _, rfl, rfl, es _ _ hL6, small1000 (by omega), fin _ s (.tm x c') es ⟨s, q', rfl, SqT.of upd_same, fq.new es⟩ ⟨hxi, c0, okc⟩ rfl⟩
end
end SS
namespace SS
open PySem PySem.Spec PyProof.Rows L2 NumText LamX KyS
section
variable {P : Program} {w : World} {K : PySem.W.Frag} {mg : Str → Option Value} {base : Heap}
/-- all but lists is kept -/
def NoL (H H' : Hp) : Prop := ∀ b o, (∀ ys, o ≠ .lst ys) → H b = some o → H' b = some o
theorem NoL.same {H H' : Hp} (s : Same H H') : NoL H H' := fun b o _ e => s b o e
theorem NoL.trans {H H1 H2 : Hp} (x : NoL H H1) (y : NoL H1 H2) : NoL H H2 := fun b o n e => y b o n (x b o n e)
theorem DM.kp {z : Prop} {m : Nat} {H H' : Hp} {a : Addr} {kvs : List (Key × V)} {f : Key → Int × Int} (h : DM z m H a kvs f) (k : NoL H H') : DM z m H' a kvs f := by
  obtain ⟨d1, d2, d3, d4, d5⟩ := h
  refine ⟨k _ _ (fun ys => by simp) d1, d2, d3, fun p hp => ?_, d5⟩
  obtain ⟨e1, ⟨r', e2, e3⟩, e4⟩ := d4 p hp
  exact ⟨e1, ⟨r', e2, k _ _ (fun ys => by simp) e3⟩, e4⟩
theorem RowE.kp {m : Nat} {H H' : Hp} {r a : Addr} {R : Rw} (h : RowE K m H r a R) (k : NoL H H') : RowE K m H' r a R := by
  obtain ⟨kvs, n, h1, h2, h3, h4⟩ := h
  exact ⟨kvs, n, k _ _ (fun ys => by simp) h1, h2.kp k, h3.kp k, h4⟩
theorem EntOk.kp {m : Nat} {H H' : Hp} {e : Ent} (h : EntOk K m H e) (k : NoL H H') : EntOk K m H' e := ⟨k _ _ (fun ys => by simp) h.1, h.2.kp k⟩
theorem But.nol {st c : Addr} {H H' : Hp} (b : But st H H') (sa : StA st c H) : NoL H H' := But.kp b sa
theorem nol_lst {H : Hp} {L : Addr} {xs : List V} {o : HO} (h : H L = some (.lst xs)) : NoL H (upd H L o) := fun b x n e => by
  rw [upd_ne fun z => ?_]
  · exact e
  · rw [z, h] at e
    exact n _ (Option.some.inj e).symm
/-- the heap on the way of _law_equals -/
structure Eqs (K : PySem.W.Frag) (st c ul nl rl pa : Addr) (xs ns : List Str) (zs : List Ent) (pk : List (Key × V)) (pg : Key → Int × Int) (H H' : Hp) : Prop where
  b : But st H H'
  s : StA st c H'
  u : H' ul = some (.lst (xs.map V.str))
  n : H' nl = some (.lst (ns.map V.str))
  r : H' rl = some (.lst (zs.map fun z => V.ref z.t))
  p : DM False 10 H' pa pk pg
  z : ∀ z ∈ zs, EntOk K xs.length H' z ∧ z.R.In xs ∧ z.R.Okb 20 ∧ (∀ k, smT (z.R.f k) = true) ∧ smT z.R.n = true
section
variable {st c ul nl rl pa : Addr} {xs ns : List Str} {zs : List Ent} {pk : List (Key × V)} {pg : Key → Int × Int} {H H1 H2 : Hp}
theorem Eqs.but (h : Eqs K st c ul nl rl pa xs ns zs pk pg H H1) (b : But st H1 H2) (s : StA st c H2) (nu : ul ≠ st) (nn : nl ≠ st) (nr : rl ≠ st) : Eqs K st c ul nl rl pa xs ns zs pk pg H H2 :=
  ⟨h.b.trans b, s, b _ _ nu h.u, b _ _ nn h.n, b _ _ nr h.r, h.p.but b h.s, fun z hz => ⟨(h.z z hz).1.kp (b.nol h.s), (h.z z hz).2⟩⟩
theorem Eqs.same (h : Eqs K st c ul nl rl pa xs ns zs pk pg H H1) (s : Same H1 H2) : Eqs K st c ul nl rl pa xs ns zs pk pg H H2 :=
  ⟨h.b.trans (Same.but s), h.s.same s, s _ _ h.u, s _ _ h.n, s _ _ h.r, h.p.same s, fun z hz => ⟨(h.z z hz).1.kp (NoL.same s), (h.z z hz).2⟩⟩
theorem Eqs.put (h : Eqs K st c ul nl rl pa xs ns zs pk pg H H1) (e : Ent) (n1 : H rl = none) (n2 : rl ≠ st) (n3 : rl ≠ c) (n4 : rl ≠ ul) (n5 : rl ≠ nl) (he : EntOk K xs.length H1 e ∧ e.R.In xs ∧ e.R.Okb 20 ∧ (∀ k, smT (e.R.f k) = true) ∧ smT e.R.n = true) :
    Eqs K st c ul nl rl pa xs ns (zs ++ [e]) pk pg H (upd H1 rl (.lst ((zs.map fun z => V.ref z.t) ++ [.ref e.t]))) := by
  have k := nol_lst (o := .lst ((zs.map fun z => V.ref z.t) ++ [.ref e.t])) h.r
  refine ⟨fun b o n q => ?_, h.s.other n2 n3, by rw [upd_ne n4.symm]; exact h.u, by rw [upd_ne n5.symm]; exact h.n, by rw [upd_same, List.map_append]; rfl, h.p.kp k, fun z hz => ?_⟩
  · rw [upd_ne fun z => ?_]
    · exact h.b b o n q
    · rw [z, n1] at q
      cases q
  · rcases List.mem_append.mp hz with y | y
    · exact ⟨(h.z z y).1.kp k, (h.z z y).2⟩
    · obtain rfl := List.mem_singleton.mp y
      exact ⟨he.1.kp k, he.2⟩
end
theorem In.of {xs : List Str} {m : Nat} {H : Hp} {a : Addr} {kvs : List (Key × V)} {z : Prop} {f : Key → Int × Int} (h : DM z m H a kvs f) (k : KIn xs kvs) (s : Str) (n : Int × Int) : Rw.In xs ⟨f, s, n⟩ := fun key hk => by
  refine Classical.byContradiction fun no => hk ?_
  have : ¬ key ∈ kvs.map (·.1) := fun z => by
    obtain ⟨p, hp, rfl⟩ := List.mem_map.mp z
    obtain ⟨x, hx, e⟩ := k p hp
    exact no (List.mem_map.mpr ⟨x, hx, e.symm⟩)
  show (f key).1 = 0
  rw [h.out this]
theorem plus_in {U : List Str} {A B C : Nat} {R R2 : Rw} {c : Int × Int} (h : R.In U) (h2 : R2.In U) (o : ∀ k, SS.Okb A (R.f k)) (o2 : ∀ k, SS.Okb B (R2.f k)) (oc : SS.Okb C c) : (R.plus R2 c).In U := fun k hk => by
  refine Classical.byContradiction fun n => hk ?_
  have z1 : R.f k = (0, 1) := okb_top0 (o k) (Classical.byContradiction fun y => n (h k y))
  have z2 : R2.f k = (0, 1) := okb_top0 (o2 k) (Classical.byContradiction fun y => n (h2 k y))
  show (fplus (R.f k) (ftimes (R2.f k) c)).1 = 0
  rw [z1, z2, zero_ftimes oc]
  decide
theorem sm_okb {A : Nat} {x : Int × Int} (o : SS.Okb A x) (h : smT x = true) : SS.Okb 20 x := by
  unfold smT at h
  rw [Bool.and_eq_true] at h
  have a1 := of_decide_eq_true h.1
  have a2 := of_decide_eq_true h.2
  have x0 := o.1
  refine ⟨x0, ?_, ?_, o.2.2.2⟩
  · have : (2 : Nat) ^ 20 = 1048576 := by decide
    split at a1 <;> omega
  · have : (2 : Nat) ^ 20 = 1048576 := by decide
    omega
theorem Rw.Okb.mono {A B : Nat} {R : Rw} (h : R.Okb A) (l : A ≤ B) : R.Okb B := ⟨fun k => (h.1 k).mono l, h.2.mono l⟩
theorem at_mapV {α : Type} {f : α → V} {xs : List α} {d : Int} (h0 : 0 ≤ d) (h : d < xs.length) : ∃ x, x ∈ xs ∧ atI (xs.map f) d = some (f x) := by
  have hn : d.toNat < xs.length := by omega
  refine ⟨xs[d.toNat], List.getElem_mem hn, at_of (j := d.toNat) (by omega) ?_⟩
  rw [List.getElem?_map, List.getElem?_eq_getElem hn]
  rfl
/-! ### _law_equals -/
def spEquals (K : PySem.W.Frag) : Sp := fun vs H Q _ => ∃ (st c : Addr) (most : Int), vs = [.ref st, .int most] ∧ 0 ≤ most ∧ most ≤ 9 ∧ StA st c H ∧
  ∀ (H' : Hp) (t ul rl : Addr) (xs : List Str) (zs : List Ent), But st H H' → StA st c H' → H' t = some (.tup [.ref ul, .ref rl]) → H' ul = some (.lst (xs.map V.str)) → H' rl = some (.lst (zs.map fun z => V.ref z.t)) → ul ≠ rl → H rl = none →
    xs.length ≤ 4 → (∀ x ∈ xs, NmOk x) → (zs.map (·.x)).Nodup → (∀ z ∈ zs, NmOk z.x) → (zs.length : Int) ≤ most → (∀ z ∈ zs, EntOk K xs.length H' z ∧ z.R.In xs ∧ z.R.Okb 20 ∧ OvR dHund (999 * dHund) z.R) → Q (.ref t) H'
theorem scEquals : FnScope ["_law_state", "_law_most", "_law_unknowns", "_law_names_here", "_law_amiss", "_law_point", "_law_rows", "_law_name", "_law_way", "_law_row", "_law_one", "_law_other", "_law_known", "_law_word"] ["_law_state", "_law_most"] (defScope sEquals) := ⟨rfl, rfl, rfl, by decide +kernel, rfl, by decide +kernel, by decide +kernel⟩
set_option maxHeartbeats 4000000 in
theorem ok_equals {f : Addr} {fd : FuncData} (F : Fun K "_law_equals" "_law_equals" sEquals f fd) (ml : mg "len" = none) (md : mg "dict" = none) (tk : Cl P w K mg base CX0 3 "_law_take" spTake []) (nm : Cl P w K mg base CX0 5 "_law_names" spNames []) (po : Cl P w K mg base CX0 4 "_law_some_point" spSpoint [])
    (sr : Cl P w K mg base CX0 6 "_law_some_row" (spSRow K) []) (ss : Cl P w K mg base CX0 5 "_law_some_sum" spSsum []) (lw : Cl P w K mg base CX0 4 "_law_worth" (spWorth K) []) (rp : Cl P w K mg base CX0 5 "_law_row_plus" (spRowPlus K) []) (lpl : Cl P w K mg base CX0 3 "_law_plus" (spPlus K) [])
    (wi : Cl P w K mg base CX0 1 "_law_within" (spWithin K) []) : FnOk P w K mg base CX0 7 f fd ["_law_state", "_law_most"] (spEquals K) := by
  refine F.ok scEquals (fun vs H Q E h => ?_) (fun cdv A outer s H vs Q E hr h => ?_)
  · obtain ⟨_, _, _, rfl, _⟩ := h
    rfl
  · obtain ⟨st, c, most, rfl, m0, m9, sa, q⟩ := h
    have hu := hu_of hr
    refine ⟨_, pss_cons (ps_set (i := 2) scEquals.nd rfl (.inl rfl) (pc0 nm hr (by decide) (pa_cons (pv 0) (pa_cons (pe_op op_add pe_int (pc0 tk hr (by decide) (pa_cons (pv 0) (pa_cons pe_int pa_nil)))) pa_nil))))
      (pss_cons (ps_set (i := 3) scEquals.nd rfl (.inl rfl) (pc0 nm hr (by decide) (pa_cons (pv 0) (pa_cons (pc0 tk hr (by decide) (pa_cons (pv 0) (pa_cons (pe_op op_add (pv 1) pe_int) pa_nil))) pa_nil))))
      (pss_cons (ps_set (i := 4) scEquals.nd rfl (.inl rfl) (pc0 tk hr (by decide) (pa_cons (pv 0) (pa_cons pe_int pa_nil))))
      (pss_cons (ps_set (i := 5) scEquals.nd rfl (.inl rfl) (pc0 po hr (by decide) (pa_cons (pv 0) (pa_cons (pv 2) pa_nil))))
      (pss_cons (ps_set (i := 6) scEquals.nd rfl (.inl rfl) (pe_lst pa_nil))
      (pss_cons (ps_for PassesOwn.never rfl (pi_list (pv 3)) (pg_name (i := 7) scEquals.nd rfl (.inl rfl))
        (pss_cons (ps_set (i := 8) scEquals.nd rfl (.inl rfl) (pc0 tk hr (by decide) (pa_cons (pv 0) (pa_cons pe_int pa_nil))))
        (pss_cons (ps_set (i := 9) scEquals.nd rfl (.inl rfl) (pc0 sr hr (by decide) (pa_cons (pv 0) (pa_cons (pv 2) (pa_cons (pv 5) pa_nil)))))
        (pss_cons (ps_set (i := 10) scEquals.nd rfl (.inl rfl) (pc0 ss hr (by decide) (pa_cons (pv 0) (pa_cons (pv 2) pa_nil))))
        (pss_cons (ps_setLc (i := 12) (own := [("_law_word", 13), ("_law_other", 11)]) (g := gTup K 2 (gCons (gName 13) (gCons (gName 11) gNil))) rfl scEquals.nd rfl rfl (sw_true rfl rfl rfl (by rfl)) (pi_list (pv 6)) (blkOk_by (by rfl))
          (fun _ _ _ _ _ => pg_tup rfl (pgs_cons (pg_name (i := 13) scEquals.nd rfl (.inl rfl)) (pgs_cons (pg_name (i := 11) scEquals.nd rfl (.inl rfl)) pgs_nil))) (fun _ _ _ _ _ => pts_one (pt_cmpR op_eq (pe_ix (ix_tupK (K := K) rfl) (pv 11) pe_int (fun _ _ => rfl)) pe_str (nomark _)))
          (fun _ _ _ _ _ => pv 11))
        (pss_cons (ps_if (pt_cmpR op_gt (pv 8) pe_int (nomark _)) (pss_one (ps_set (i := 9) scEquals.nd rfl (.inl rfl) (pe_tup (pa_cons (pv 10) (pa_cons pe_str (pa_cons (pc0 lw hr (by decide) (pa_cons (pv 10) (pa_cons (pv 5) pa_nil))) pa_nil)))))) pss_nil)
        (pss_cons (ps_if (PW.pt (pw_and (pt_cmpR op_gt (pv 8) pe_int (nomark _)) (pw_and1 (pt_cmpR op_gt (pe_callB call_len_seq (by rfl) ml PySem.boot_len (pa_cons (pv 12) pa_nil)) pe_int (nomark _)))))
          (pss_cons (ps_set (i := 11) scEquals.nd rfl (.inl rfl) (pe_ix ix_list (pv 12) (pc0 tk hr (by decide) (pa_cons (pv 0) (pa_cons (pe_callB call_len_seq (by rfl) ml PySem.boot_len (pa_cons (pv 12) pa_nil)) pa_nil))) (fun _ _ => rfl)))
          (pss_one (ps_set (i := 9) scEquals.nd rfl (.inl rfl) (pc0 rp hr (by decide) (pa_cons (pe_ix ix_list (pv 12) (pc0 tk hr (by decide) (pa_cons (pv 0) (pa_cons (pe_callB call_len_seq (by rfl) ml PySem.boot_len (pa_cons (pv 12) pa_nil)) pa_nil))) (fun _ _ => rfl)) (pa_cons (pv 11) (pa_cons (pe_tup (pa_cons (pe_op op_sub (pc0 tk hr (by decide) (pa_cons (pv 0) (pa_cons pe_int pa_nil))) pe_int) (pa_cons pe_int pa_nil))) pa_nil)))))) ) pss_nil)
        (pss_cons (ps_if (PW.pt (pw_and (pt_cmpR op_eq (pv 4) pe_int (nomark _)) (pw_and1 (pt_cmpR op_eq (pc0 tk hr (by decide) (pa_cons (pv 0) (pa_cons pe_int pa_nil))) pe_int (nomark _)))))
          (pss_one (ps_set (i := 9) scEquals.nd rfl (.inl rfl) (pe_tup (pa_cons (pe_ix ix_tup (pv 9) pe_int (fun _ _ => rfl)) (pa_cons (pe_ix ix_tup (pv 9) pe_int (fun _ _ => rfl)) (pa_cons (pc0 lpl hr (by decide) (pa_cons (pe_ix ix_tup (pv 9) pe_int (fun _ _ => rfl)) (pa_cons (pe_tup (pa_cons (pe_op op_add pe_int (pc0 tk hr (by decide) (pa_cons (pv 0) (pa_cons pe_int pa_nil)))) (pa_cons pe_int pa_nil))) pa_nil))) pa_nil)))))) pss_nil)
        (pss_cons (ps_if (pt_not (pt_val (pc0 wi hr (by decide) (pa_cons (pv 9) pa_nil)))) (pss_one (ps_set (i := 9) scEquals.nd rfl (.inl rfl) (pe_tup (pa_cons pe_dnewK (pa_cons pe_str (pa_cons (pe_tup (pa_cons pe_int (pa_cons pe_int pa_nil))) pa_nil)))))) pss_nil)
        (pss_one (ps_expr (pe_bm PySem.F.plainAttrs_list PySem.F.slot_list_append PySem.F.type_list_append mt_append (pv 6) (pa_cons (pe_tup (pa_cons (pv 7) (pa_cons (pe_tup (pa_cons (pe_callTy call_dictD (by rfl) md (by decide +kernel) (pa_cons (pe_ix ix_tup (pv 9) pe_int (fun _ _ => rfl)) pa_nil))
          (pa_cons (pe_ix ix_tup (pv 9) pe_int (fun _ _ => rfl)) (pa_cons (pe_ix ix_tup (pv 9) pe_int (fun _ _ => rfl)) pa_nil)))) pa_nil))) pa_nil)))))))))))))
      (pss_one (ps_ret (pe_tup (pa_cons (pv 2) (pa_cons (pv 6) pa_nil)))))))))), ?_⟩
    refine ⟨_, rfl, _, rfl, st, c, 4, rfl, by decide, lt8 (by decide), sa, fun H1 d1 b1 s1 l1 u1 => ⟨1, d1, rfl, rfl, st, c, 1 + d1, rfl, by omega, by omega, s1, fun H2 ul xs b2 s2 nu2 hu2 xl xok xnd => ?_⟩⟩
    have B2 := b1.trans b2
    have nuH := b1.free s1 nu2
    have uS := s1.fresh nu2
    refine ⟨_, rfl, _, rfl, _, rfl, most, 1, rfl, rfl, st, c, most + 1, rfl, by omega, lt8 (by omega), s2, fun H3 d3 b3 s3 l3 u3 => ⟨st, c, d3, rfl, l3, by omega, s3, fun H4 nl ns b4 s4 nn4 hn4 nlen nok nnd => ?_⟩⟩
    have nS := s3.fresh nn4
    have B4 := (B2.trans b3).trans b4
    have hu4 := b4 _ _ uS (b3 _ _ uS hu2)
    refine ⟨_, rfl, st, c, 3, rfl, by decide, lt8 (by decide), s4, fun H5 am b5 s5 l5 u5 => ?_⟩
    refine ⟨_, rfl, _, rfl, st, c, ul, xs, rfl, s5, b5 _ _ uS hu4, by omega, xok, fun H6 pa pk pg b6 s6 np6 dp okp => ?_⟩
    refine ⟨Nat.zero_le _, fun rl nrl => ?_⟩
    have sR := same_new (o := .lst []) nrl
    have rS := s6.fresh nrl
    have rC := s6.fresh2 nrl
    have B6 := (B4.trans b5).trans b6
    have hu6 := b6 _ _ uS (b5 _ _ uS hu4)
    have hn6 := b6 _ _ nS (b5 _ _ nS hn4)
    have rlH := B6.free s6 nrl
    have rU : rl ≠ ul := (ne_of_none hu6 nrl).symm
    have rN : rl ≠ nl := (ne_of_none hn6 nrl).symm
    have E0 : Eqs K st c ul nl rl pa xs ns [] pk pg H (upd H6 rl (.lst [])) := ⟨B6.trans (Same.but sR), s6.same sR, sR _ _ hu6, sR _ _ hn6, upd_same, dp.same sR, fun z hz => by cases hz⟩
    have nE : ns.length ≤ 9 := by omega
    have xE : xs.length ≤ 4 := by omega
    generalize upd H6 rl (.lst []) = G0 at E0 ⊢
    clear sR hu6 hn6 B6 nrl dp np6 s6 b6 b5 s5 hu4 B4 nn4 hn4 s4 b4 s3 b3 nu2 hu2 s2 b2 B2 s1 b1
    refine ⟨_, rfl, nl, rfl, ⟨_, SqL.of E0.n⟩, for_list (K := K) (a := nl) (xs := ns.map V.str) (fun i σ H' => ∃ (y7 y8 y9 y10 y11 y12 y13 : Option V) (zs : List Ent), σ = [some (.ref st), some (.int most), some (.ref ul), some (.ref nl), some (.int am), some (.ref pa), some (.ref rl), y7, y8, y9, y10, y11, y12, y13] ∧ Eqs K st c ul nl rl pa xs ns zs pk pg H H' ∧ zs.map (·.x) = ns.take i)
      ⟨none, none, none, none, none, none, none, [], rfl, E0, rfl⟩ (fun i σ H' _ ⟨_, _, _, _, _, _, _, _, _, w1, _⟩ => SqL.of w1.n) ?turn ?after⟩
    case after =>
      rintro σ H1 ⟨y7, y8, y9, y10, y11, y12, y13, zs, rfl, E1, hx⟩
      rw [List.length_map, List.take_length] at hx
      have zl : zs.length = ns.length := by
        have := congrArg List.length hx
        rwa [List.length_map] at this
      refine ⟨_, rfl, _, rfl, small2, fun t nt => ?_⟩
      have e := same_new (o := .tup [.ref ul, .ref rl]) nt
      refine q _ t ul rl xs zs (E1.same e).b (E1.same e).s upd_same (E1.same e).u (E1.same e).r rU.symm rlH xE xok (by rw [hx]; exact nnd) (fun z hz => nok _ ?_) (by omega) fun z hz => ?_
      · rw [← hx]
        exact List.mem_map.mpr ⟨z, hz, rfl⟩
      · obtain ⟨h1, h2, h3, h4, h5⟩ := (E1.same e).z z hz
        exact ⟨h1, h2, h3, sm_ovR h3 ⟨h4, h5⟩⟩
    case turn =>
      rintro i yv σ H1 hy ⟨y7, y8, y9, y10, y11, y12, y13, zs, rfl, E1, hx⟩
      obtain ⟨nme, hni, rfl⟩ : ∃ y, ns[i]? = some y ∧ yv = .str y := by
        rw [List.getElem?_map] at hy
        cases e : ns[i]? with
        | none => rw [e] at hy; cases hy
        | some y =>
          rw [e] at hy
          exact ⟨y, rfl, (Option.some.inj hy).symm⟩
      have tk1 : ns.take (i + 1) = ns.take i ++ [nme] := by
        rw [List.take_add_one, hni]
        rfl
      have zl : zs.length ≤ 9 := by
        have q1 := congrArg List.length hx
        rw [List.length_map, List.length_take] at q1
        omega
      refine ⟨_, rfl, st, c, 6, rfl, by decide, lt8 (by decide), E1.s, fun H2 way b2 s2 l2 u2 => ?_⟩
      have E2 := E1.but b2 s2 uS nS rS
      refine ⟨_, rfl, _, rfl, _, rfl, st, c, ul, pa, xs, pk, pg, rfl, E2.s, E2.u, by omega, xok, E2.p, okp, fun H3 r3 a3 p3 k3 f3 srt3 n3 b3 s3 na3 hr3 d3 ok3 hs3 hf3 okn3 kin3 => ?_⟩
      have E3 := E2.but b3 s3 uS nS rS
      have i3 : Rw.In xs ⟨f3, srt3, n3⟩ := In.of d3 kin3 srt3 n3
      have R3 : RowE K xs.length H3 r3 a3 ⟨f3, srt3, n3⟩ := RowE.tight (m := 10) ⟨k3, p3, hr3, d3, hf3, hs3⟩ i3
      refine ⟨_, rfl, _, rfl, st, c, ul, xs, rfl, E3.s, E3.u, by omega, xok, fun H4 a4 k4 b4 s4 na4 df4 nz4 kin4 => ?_⟩
      have E4 := E3.but b4 s4 uS nS rS
      have R4 := R3.kp (b4.nol s3)
      have D4 : DM True 10 H4 a4 k4 (pval H4 k4) := (df4.dm nz4).mono (by omega)
      have ok4 : ∀ k, SS.Okb 20 (pval H4 k4 k) := fun k => df4.okp (k := 19) k
      have na4p : a4 ≠ pa := (ne_of_none E3.p.1 na4).symm
      generalize pval H4 k4 = f4 at D4 ok4
      clear df4 nz4 R3 E3 b4 E2 b3 E1 b2 d3 hr3 hf3 na3 na4
      -- the rows known
      refine ⟨_, rfl, rl, rfl, ⟨_, SqL.of E4.r⟩, fun D nD => ?_⟩
      have DS := s4.fresh nD
      refine lc_list (K := K) (a := rl) (xs := zs.map fun z => V.ref z.t) (fun j H' => ∃ gs : List Ent, H' D = some (.lst (gs.map fun g => V.ref g.r)) ∧ gs.length ≤ j ∧ (∀ g ∈ gs, g ∈ zs) ∧ ∀ b o, b ≠ D → H4 b = some o → H' b = some o)
        ⟨[], upd_same, Nat.le_refl _, fun g hg => (by cases hg), fun b o n e => by rw [upd_ne n]; exact e⟩ (fun j H' _ ⟨_, _, _, _, w2⟩ => SqL.of (w2 _ _ (ne_of_none E4.r nD) E4.r)) ?_ ?_
      · rintro j v H' hv ⟨gs, w1, wl, wg, w2⟩
        obtain ⟨z, hzj, rfl⟩ : ∃ z, zs[j]? = some z ∧ v = .ref z.t := by
          rw [List.getElem?_map] at hv
          cases e : zs[j]? with
          | none => rw [e] at hv; cases hv
          | some z =>
            rw [e] at hv
            exact ⟨z, rfl, (Option.some.inj hv).symm⟩
        obtain ⟨h1, kvs, n, h2, h3, h4, h5⟩ := (E4.z z (List.mem_of_getElem? hzj)).1
        have jl : j < zs.length := (List.getElem?_eq_some_iff.mp hzj).1
        refine ⟨z.t, _, rfl, SqT.of (w2 _ _ (ne_of_none h1 nD) h1), rfl, _, _, rfl, _, _, rfl, rfl, rfl, ?_⟩
        refine ⟨_, rfl, z.r, _, 1, _, rfl, rfl, SqT.of (w2 _ _ (ne_of_none h2 nD) h2), atI_nat (j := 1) rfl, rfl, _, rfl, ite2 (fun e => ?_) (fun e => ⟨gs, w1, Nat.le_succ_of_le wl, wg, w2⟩)⟩
        refine ⟨_, rfl, gs.map fun g => V.ref g.r, w1, by rw [List.length_map]; exact small1000 (by omega), gs ++ [z], by rw [upd_same, List.map_append]; rfl, by rw [List.length_append]; exact Nat.add_le_add_right wl 1, fun g hg => ?_, fun b o n e => by rw [upd_ne n]; exact w2 b o n e⟩
        rcases List.mem_append.mp hg with y | y
        · exact wg g y
        · obtain rfl := List.mem_singleton.mp y
          exact List.mem_of_getElem? hzj
      rintro H5 ⟨gs, hD5, gl, wg, w2⟩
      rw [List.length_map] at gl
      have S5 : Same H4 H5 := fun b o e => w2 _ _ (ne_of_none e nD) e
      have E5 := E4.same S5
      have R5 := R4.kp (NoL.same S5)
      have D5 := D4.same S5
      clear w2 S5 D4 R4 E4 nD s4 hy
      dsimp only [gName]
      have isS : (Str.ofString "is") ∈ sorts := by decide +kernel
      refine' mid (C := _) (Inv := fun σ H' => ∃ (r a : Addr) (R : Rw), σ = [some (.ref st), some (.int most), some (.ref ul), some (.ref nl), some (.int am), some (.ref pa), some (.ref rl), some (.str nme), some (.int way), some (.ref r), some (.ref a4), y11, some (.ref D), y13] ∧ Eqs K st c ul nl rl pa xs ns zs pk pg H H' ∧ RowE K xs.length H' r a R ∧ R.In xs ∧ R.Okb 500 ∧ H' D = some (.lst (gs.map fun g => V.ref g.r))) (fun key => ?mA) ?rA
      case mA =>
        refine ⟨_, rfl, way, 0, rfl, rfl, _, rfl, ite2 (fun e => ?ya) (fun e => ?yb)⟩
        case yb =>
          dsimp only
          refine key _ _ ?_
          exact ⟨r3, a3, ⟨f3, srt3, n3⟩, rfl, E5, R5, i3, ⟨fun k => (ok3 k).mono (by decide), okn3.mono (by decide)⟩, hD5⟩
        case ya =>
          refine ⟨_, rfl, _, rfl, _, rfl, a4, pa, k4, pk, f4, pg, True, False, 10, 10, 20, 20, rfl, D5, E5.p, ok4, okp, by decide, na4p, fun H6 r6 s6 fw okw => ?_⟩
          refine ⟨(by show 3 ≤ sizeLine; decide), fun t nt => ?_⟩
          have e := same_new (o := .tup [.ref a4, .str (Str.ofString "is"), .ref r6]) nt
          have i4 : Rw.In xs ⟨f4, Str.ofString "is", wof f4 pg (k4.map (·.1))⟩ := In.of D5 kin4 _ _
          dsimp only [gName]
          refine key _ _ ?_
          exact ⟨t, a4, ⟨f4, Str.ofString "is", wof f4 pg (k4.map (·.1))⟩, rfl, (E5.same s6).same e, RowE.tight (m := 10) ⟨k4, r6, upd_same, (D5.same s6).same e, fw.new e, isS⟩ i4, i4, ⟨fun k => (ok4 k).mono (by decide), okw.mono (by decide)⟩, e _ _ (s6 _ _ hD5)⟩
      case rA =>
        clear E5 R5 D5 hD5 ok3 okn3 ok4
        rintro σ H6 ⟨r6, a6, R6, rfl, E6, hR6, i6, ok6, hD6⟩
        have el : ((gs.map fun g => V.ref g.r).length : Int) = (gs.length : Int) := by rw [List.length_map]
        refine' mid (C := _) (Inv := fun σ H' => ∃ (y11 : Option V) (r a : Addr) (R : Rw), σ = [some (.ref st), some (.int most), some (.ref ul), some (.ref nl), some (.int am), some (.ref pa), some (.ref rl), some (.str nme), some (.int way), some (.ref r), some (.ref a4), y11, some (.ref D), y13] ∧ Eqs K st c ul nl rl pa xs ns zs pk pg H H' ∧ RowE K xs.length H' r a R ∧ R.In xs ∧ R.Okb 500 ∧ H' D = some (.lst (gs.map fun g => V.ref g.r))) (fun key => ?mB) ?rB
        case mB =>
          refine ⟨_, rfl, way, 3, rfl, rfl, _, rfl, ite2 (fun e => ?ya) (fun e => iteF ?yb)⟩
          case yb =>
            dsimp only
            refine key _ _ ?_
            exact ⟨_, r6, a6, R6, rfl, E6, hR6, i6, ok6, hD6⟩
          case ya =>
            refine ⟨_, rfl, D, _, rfl, .inl (SqL.of hD6), (gs.length : Int), 0, congrArg V.int el, rfl, _, rfl, ite2 (fun e2 => ?yaa) (fun e2 => ?yab)⟩
            case yab =>
              dsimp only
              refine key _ _ ?_
              exact ⟨_, r6, a6, R6, rfl, E6, hR6, i6, ok6, hD6⟩
            have gp : 0 < (gs.length : Int) := of_decide_eq_true e2
            refine ⟨_, rfl, _, rfl, _, rfl, D, _, rfl, .inl (SqL.of hD6), st, c, (gs.length : Int), congrArg (fun z => [V.ref st, V.int z]) el, gp, lt8 (by omega), E6.s, fun H7 d7 b7 s7 l7 u7 => ?_⟩
            have hD7 := b7 _ _ DS hD6
            have E7 := E6.but b7 s7 uS nS rS
            obtain ⟨g7, hg7, hat7⟩ := at_mapV (f := fun g : Ent => V.ref g.r) (xs := gs) l7 u7
            refine ⟨D, _, d7, _, rfl, rfl, SqL.of hD7, hat7, ?_⟩
            refine ⟨_, rfl, _, rfl, _, rfl, D, _, rfl, .inl (SqL.of hD7), st, c, (gs.length : Int), congrArg (fun z => [V.ref st, V.int z]) el, gp, lt8 (by omega), E7.s, fun H8 d8 b8 s8 l8 u8 => ?_⟩
            have hD8 := b8 _ _ DS hD7
            have E8 := E7.but b8 s8 uS nS rS
            obtain ⟨g8, hg8, hat8⟩ := at_mapV (f := fun g : Ent => V.ref g.r) (xs := gs) l8 u8
            refine ⟨D, _, d8, _, rfl, rfl, SqL.of hD8, hat8, ?_⟩
            refine ⟨_, rfl, _, rfl, st, c, 5, rfl, by decide, lt8 (by decide), E8.s, fun H9 d9 b9 s9 l9 u9 => ⟨d9, 2, rfl, rfl, small2, fun n nn => ?_⟩⟩
            have en := same_new (o := .tup [.int (d9 - 2), .int 1]) nn
            have E9 := (E8.but b9 s9 uS nS rS).same en
            have hD9 := en _ _ (b9 _ _ DS hD8)
            obtain ⟨⟨_, q1⟩, q2, q3, _⟩ := E9.z g8 (wg _ hg8)
            obtain ⟨⟨_, p1⟩, p2, p3, _⟩ := E9.z g7 (wg _ hg7)
            have okd : SS.Okb 11 (d9 - 2, 1) := okb_whole (by omega)
            refine ⟨g8.r, g8.a, g7.r, g7.a, n, g8.R, g7.R, (d9 - 2, 1), xs.length, rfl, q1, p1, FrT.of upd_same, by omega, q3.mono (by decide), p3.mono (by decide), okd.mono (by decide), fun H10 r' a' s10 nr' na' row => ?_⟩
            have ip := plus_in q2 p2 q3.1 p3.1 okd
            dsimp only [gName]
            refine key _ _ ?_
            exact ⟨_, r', a', g8.R.plus g7.R (d9 - 2, 1), rfl, E9.same s10, row.tight ip, ip, ⟨fun k => (okb_plus (q3.1 k) (okb_times (p3.1 k) okd)).mono (by decide), (okb_plus q3.2 (okb_times p3.2 okd)).mono (by decide)⟩, s10 _ _ hD9⟩
        case rB =>
          clear E6 hR6 i6 ok6 hD6
          rintro σ H7 ⟨y11, r7, a7, R7, rfl, E7, hR7, i7, ok7, hD7⟩
          refine' mid (C := _) (Inv := fun σ H' => ∃ (r a : Addr) (R : Rw), σ = [some (.ref st), some (.int most), some (.ref ul), some (.ref nl), some (.int am), some (.ref pa), some (.ref rl), some (.str nme), some (.int way), some (.ref r), some (.ref a4), y11, some (.ref D), y13] ∧ Eqs K st c ul nl rl pa xs ns zs pk pg H H' ∧ RowE K xs.length H' r a R ∧ R.In xs ∧ R.Okb 600) (fun key => ?mC) ?rC
          case mC =>
            refine ⟨_, rfl, rfl, _, rfl, ite2 (fun e => ?ca) (fun e => iteF ?cb)⟩
            case cb =>
              dsimp only
              refine key _ _ ?_
              exact ⟨r7, a7, R7, rfl, E7, hR7, i7, ok7.mono (by decide)⟩
            case ca =>
              refine ⟨_, rfl, st, c, 4, rfl, by decide, lt8 (by decide), E7.s, fun H8 d8 b8 s8 l8 u8 => ⟨rfl, _, rfl, ite2 (fun e => ?caa) (fun e => ?cab)⟩⟩
              all_goals have E8 := E7.but b8 s8 uS nS rS
              all_goals have hR8 := hR7.kp (b8.nol E7.s)
              case cab =>
                dsimp only
                refine key _ _ ?_
                exact ⟨r7, a7, R7, rfl, E8, hR8, i7, ok7.mono (by decide)⟩
              case caa =>
                obtain ⟨kvs, n7, h1, h2, h3, h4⟩ := id hR8
                refine ⟨_, rfl, r7, _, 0, _, rfl, rfl, SqT.of h1, atI_nat (j := 0) rfl, _, rfl, r7, _, 1, _, rfl, rfl, SqT.of h1, atI_nat (j := 1) rfl, _, rfl, r7, _, 2, _, rfl, rfl, SqT.of h1, atI_nat (j := 2) rfl, ?_⟩
                refine ⟨_, rfl, st, c, 3, rfl, by decide, lt8 (by decide), E8.s, fun H9 d9 b9 s9 l9 u9 => ⟨1, d9, rfl, rfl, small2, fun n nn => ?_⟩⟩
                have en := same_new (o := .tup [.int (1 + d9), .int 1]) nn
                have E9 := (E8.but b9 s9 uS nS rS).same en
                have k9 : NoL H8 _ := (b9.nol E8.s).trans (NoL.same en)
                have okd : SS.Okb 11 (1 + d9, 1) := okb_whole (by omega)
                refine ⟨R7.n.1, R7.n.2, 1 + d9, 1, two_of (A := R7.n) (B := (1 + d9, 1)) (h3.kp k9) (FrT.of upd_same) ok7.2 okd (by decide) (by decide), fun p2 np2 => ?_⟩
                have e2 := same_new (o := .tup [.int (fplus R7.n (1 + d9, 1)).1, .int (fplus R7.n (1 + d9, 1)).2]) np2
                refine ⟨(by show 3 ≤ sizeLine; decide), fun t nt => ?_⟩
                have e3 := same_new (o := .tup [.ref a7, .str R7.s, .ref p2]) nt
                dsimp only [gName]
                refine key _ _ ?_
                exact ⟨t, a7, ⟨R7.f, R7.s, fplus R7.n (1 + d9, 1)⟩, rfl, (E9.same e2).same e3, ⟨kvs, p2, upd_same, ((h2.kp k9).same e2).same e3, (FrT.of upd_same).new e3, h4⟩, i7, ⟨fun k => (ok7.1 k).mono (by decide), (okb_plus ok7.2 okd).mono (by decide)⟩⟩
          case rC =>
            clear E7 hR7 i7 ok7 hD7
            rintro σ H8 ⟨r8, a8, R8, rfl, E8, hR8, i8, ok8⟩
            refine ⟨_, rfl, r8, a8, R8, xs.length, rfl, hR8, by omega, fun H9 b s9 hb => ⟨b, rfl, ?_⟩⟩
            have E9 := E8.same s9
            have hR9 := hR8.kp (NoL.same s9)
            refine' mid (C := _) (Inv := fun σ H' => ∃ (r a : Addr) (R : Rw), σ = [some (.ref st), some (.int most), some (.ref ul), some (.ref nl), some (.int am), some (.ref pa), some (.ref rl), some (.str nme), some (.int way), some (.ref r), some (.ref a4), y11, some (.ref D), y13] ∧ Eqs K st c ul nl rl pa xs ns zs pk pg H H' ∧ RowE K xs.length H' r a R ∧ R.In xs ∧ R.Okb 20 ∧ (∀ k, smT (R.f k) = true) ∧ smT R.n = true) (fun key => ?mD) ?rD
            case mD =>
              cases b with
              | true =>
                refine iteF ?_
                obtain ⟨t1, t2⟩ := hb rfl
                dsimp only
                refine key _ _ ?_
                exact ⟨r8, a8, R8, rfl, E9, hR9, i8, ⟨fun k => sm_okb (ok8.1 k) (t1 k), sm_okb ok8.2 t2⟩, t1, t2⟩
              | false =>
                refine iteT ?_
                intro d nd
                have e1 := same_new (o := .dK []) nd
                refine ⟨small2, fun n nn => ?_⟩
                have e2 := same_new (o := .tup [.int 0, .int 1]) nn
                refine ⟨(by show 3 ≤ sizeLine; decide), fun t nt => ?_⟩
                have e3 := same_new (o := .tup [.ref d, .str (Str.ofString "is"), .ref n]) nt
                dsimp only [gName]
                refine key _ _ ?_
                have o0 : SS.Okb 20 (0, 1) := ⟨by decide, by decide, by decide, by decide⟩
                exact ⟨t, d, ⟨fun _ => (0, 1), Str.ofString "is", (0, 1)⟩, rfl, ((E9.same e1).same e2).same e3, ⟨[], n, upd_same, ((dm_new (upd_same (H := H9) (a := d) (o := .dK []))).same e2).same e3, (FrT.of upd_same).new e3, isS⟩, fun k hk => absurd rfl hk, ⟨fun _ => o0, o0⟩, fun _ => (by decide : smT (0, 1) = true), (by decide : smT (0, 1) = true)⟩
            case rD =>
              clear E9 hR9 E8 hR8 i8 ok8 hb
              rintro σ H10 ⟨r, a, R, rfl, E10, hR, iR, okR, sm1, sm2⟩
              obtain ⟨kvs, n, h1, h2, h3, h4⟩ := id hR
              refine ⟨.ref rl, rfl, .inl ⟨rfl, _, SqL.of E10.r⟩, _, rfl, _, rfl, r, _, 0, _, rfl, rfl, SqT.of h1, atI_nat (j := 0) rfl, a, kvs, rfl, .inl h2.1, fun d nd => ?_⟩
              have e1 := same_new (o := .dK kvs) nd
              refine ⟨_, rfl, r, _, 1, _, rfl, rfl, SqT.of (e1 _ _ h1), atI_nat (j := 1) rfl, _, rfl, r, _, 2, _, rfl, rfl, SqT.of (e1 _ _ h1), atI_nat (j := 2) rfl, (by show 3 ≤ sizeLine; decide), fun r' nr' => ?_⟩
              have e2 := same_new (o := .tup [.ref d, .str R.s, .ref n]) nr'
              refine ⟨small2, fun t nt => ?_⟩
              have e3 := same_new (o := .tup [.str nme, .ref r']) nt
              have E11 := ((E10.same e1).same e2).same e3
              have dm : DM True xs.length _ d kvs R.f := ⟨e3 _ _ (e2 _ _ (upd_same (H := H10) (a := d) (o := .dK kvs))), (h2.same ((e1.trans e2).trans e3)).2⟩
              have ee : EntOk K xs.length _ (⟨t, nme, R, r', d⟩ : Ent) := ⟨upd_same (a := t) (o := .tup [.str nme, .ref r']), kvs, n, e3 _ _ (upd_same (a := r') (o := .tup [.ref d, .str R.s, .ref n])), dm, h3.new ((e1.trans e2).trans e3), h4⟩
              have E12 := E11.put ⟨t, nme, R, r', d⟩ rlH rS rC rU rN ⟨ee, iR, okR, sm1, sm2⟩
              refine ⟨rl, _, _, rfl, rfl, E11.r, by rw [List.length_map]; exact small1000 (by omega), _, _, _, _, _, _, _, zs ++ [⟨t, nme, R, r', d⟩], rfl, E12, ?_⟩
              rw [List.map_append, hx, tk1]
              rfl
end
end SS
namespace RvT
open PySem PySem.Spec PyProof.Rows L2 HT
section
variable {prog : Program} {w : World} {A : Around} {E : Value → Shared → Prop} {s : Shared}
theorem applied_rev {sl : Addr} {vl vu vs : Value} {n : Nat} {Q : Int × Int × Nat → Shared → Prop} (hs : s.heap.IsSliceOf sl vl vu vs) (pl : IsPart vl none) (pu : IsPart vu none) (ps : IsPart vs (some (-1)))
    (h : Q ((n : Int) - 1, -1, n) s) : wpAny (model prog w) A (Builtin.Slice.sliceApplied (.ref sl) (pure (n : Int))) Q E s := by
  obtain ⟨os, hos, hcs, hds⟩ := id hs
  unfold Builtin.Slice.sliceApplied Builtin.Slice.sliceFields
  refine wpAny_bind (wpAny_bind (wpAny_field hos hds (x := vl) rfl (wpAny_bind (wpAny_field hos hds (x := vu) rfl (wpAny_bind (wpAny_field hos hds (x := vs) rfl (wpAny_pure ?_)))))))
  refine wpAny_bind (slicePart_ ps ?_)
  show wpAny _ _ (if ((-1 : Int) == 0) = true then _ else _) _ _ s
  rw [if_neg (by decide)]
  refine wpAny_bind (slicePart_ pl (wpAny_bind (slicePart_ pu (wpAny_bind (wpAny_pure ?_)))))
  show wpAny _ _ (match Builtin.Slice.sliceAdjust none none (-1) (n : Int) with | (lo, hi) => pure (lo, (-1 : Int), Builtin.Slice.slicePlaces lo hi (-1))) _ _ s
  have e : Builtin.Slice.sliceAdjust none none (-1) (n : Int) = ((n : Int) - 1, -1) := rfl
  rw [e]
  show wpAny _ _ (pure ((n : Int) - 1, (-1 : Int), Builtin.Slice.slicePlaces ((n : Int) - 1) (-1) (-1))) _ _ s
  have e2 : Builtin.Slice.slicePlaces ((n : Int) - 1) (-1) (-1) = n := by
    unfold Builtin.Slice.slicePlaces
    have h1 : ¬ ((-1 : Int) > 0) := by decide
    simp only [h1, if_false]
    by_cases c : (n : Int) - 1 > -1
    · rw [if_pos c]
      show (((n : Int) - 1 - -1 - 1) / 1 + 1).toNat = n
      rw [Int.ediv_one]
      omega
    · rw [if_neg c]
      omega
  rw [e2]
  exact wpAny_pure h
theorem pick_rev (xs : Array Value) : ((List.range xs.size).filterMap fun (m : Nat) => xs[((xs.size : Int) - 1 + (m : Int) * -1).toNat]?).toArray = xs.toList.reverse.toArray := by
  have e : (List.range xs.size).filterMap (fun (m : Nat) => xs[((xs.size : Int) - 1 + (m : Int) * -1).toNat]?) = ((List.range xs.size).map fun k => xs.size - 1 - k).filterMap (xs[·]?) := by
    rw [List.filterMap_map]
    have g : ∀ (l : List Nat), (∀ m ∈ l, m < xs.size) → l.filterMap (fun (m : Nat) => xs[((xs.size : Int) - 1 + (m : Int) * -1).toNat]?) = l.filterMap ((fun x => xs[x]?) ∘ fun k => xs.size - 1 - k) := fun l => by
      induction l with
      | nil => intro _; rfl
      | cons m l ih =>
        intro h
        have hm := h m List.mem_cons_self
        have e1 : ((xs.size : Int) - 1 + (m : Int) * -1).toNat = xs.size - 1 - m := by omega
        rw [List.filterMap_cons, List.filterMap_cons, ih fun k hk => h k (List.mem_cons_of_mem _ hk)]
        have e2 : ((fun x => xs[x]?) ∘ fun k => xs.size - 1 - k) m = xs[xs.size - 1 - m]? := rfl
        rw [e2]
        rw [e1]
    exact g _ fun m hm => List.mem_range.mp hm
  rw [e, PySem.W.krv_range, List.filterMap_reverse, PySem.W.krv_all]
theorem getItem_rev {t sl : Addr} {items : Array Value} {vl vu vs : Value} {Q : Value → Shared → Prop} (ht : IsTup s.heap t items) (hs : s.heap.IsSliceOf sl vl vu vs) (pl : IsPart vl none) (pu : IsPart vu none) (ps : IsPart vs (some (-1)))
    (h : Q (.ref s.heap.objs.size) { s with heap := s.heap.push { cls := .type "tuple", data := .seq items.toList.reverse.toArray } })
    (hsz : items.size ≤ sizeLine) : wpAny (model prog w) A (getItem (.ref t) (.ref sl)) Q E s := by
  have htake : sizeOk (.seq items.toList.reverse.toArray) := by
    show items.toList.reverse.toArray.size ≤ sizeLine
    rw [List.size_toArray, List.length_reverse, Array.length_toList]
    exact hsz
  obtain ⟨os, hos, hcs, hds⟩ := id hs
  have hTs : s.TypeIs (.ref sl) "slice" := ⟨os, hos, hcs⟩
  unfold getItem
  try with_reducible refine wpAny_holding ?_
  first | refine wpAny_bind (wpAny_pure ?_) | skip
  refine wpAny_bind (wpAny_sequenceKey ht.typeIs (by decide) ?_)
  refine wpAny_bind (wpAny_callSpecial?_slot (name := Str.ofString "__getitem__") ht.typeIs PyProof.Rows.slot_tuple_getitem
    (wpAny_call_entry PyProof.Rows.slot_tuple_getitem ht.typeIs entry_tuple_getitem ?_ (args_tuple_getitem _ _)))
  show wpAny _ _ (Builtin.Tuple.tupleItemsOf (.ref t) >>= _) _ _ s
  refine wpAny_bind (tupleItemsOf_ ht ?_)
  refine wpAny_bind (wpAny_typeOf hTs ?_)
  rw [if_pos (by decide)]
  refine wpAny_bind (applied_rev hs pl pu ps ?_)
  have hno : ¬ ((((items.size : Int) - 1) == 0 && (-1 : Int) == 1 && items.size == items.size) = true) := by
    intro q
    rw [Bool.and_eq_true, Bool.and_eq_true] at q
    exact absurd q.1.2 (by decide)
  show wpAny _ _ (if (((items.size : Int) - 1) == 0 && (-1 : Int) == 1 && items.size == items.size) = true then _ else _) _ _ s
  rw [if_neg hno, pick_rev]
  first
    | exact wpAny_bind (m := Builtin.Tuple.tupleExact _) (wpAny_newObj_type (wpAny_pure ⟨_, rfl, wpAny_pure h⟩) htake)
    | exact wpAny_bind (m := Builtin.Tuple.tupleExact _) (wpAny_newObj_type (wpAny_bind (wpAny_pure (wpAny_pure ⟨_, rfl, wpAny_pure h⟩))) htake)
    | exact wpAny_bind (wpAny_bind (m := Builtin.Tuple.tupleExact _) (wpAny_newObj_type (wpAny_pure (wpAny_pure ⟨_, rfl, wpAny_pure h⟩)) htake))
    | exact wpAny_bind (wpAny_bind (m := Builtin.Tuple.tupleExact _) (wpAny_newObj_type (wpAny_pure ⟨_, rfl, wpAny_pure h⟩) htake))
end
section
variable {X : Cx}
/-- t[::-1] of a tuple -/
def tRevT (K : PySem.W.Frag) (te : TE) : TE := fun σ H Q => te σ H fun x H1 => ∃ a xs, x = .ref a ∧ SqT K H1 a xs ∧ ∀ p, H1 p = none → Q (.ref p) (upd H1 p (.tup xs.reverse))
theorem pe_revT {e : Expr} {te : TE} {k : Nat} {p1 p2 p3 pos : Pos} (he : PE X e te) : PE X (.Subscript e (.Slice none none (some (.UnaryOp .USub (.Constant (.int 1) k p1) p2)) p3) pos) (tRevT X.K te) := by
  refine ⟨fun pins s σ H Q I h => ?_⟩
  refine Subscript_ (thn (he.run pins s σ H _ I h) fun v s1 ⟨x, H1, I1, r1, q1⟩ => ?_)
  obtain ⟨a, xs, ex, hx, q⟩ := q1
  subst ex
  cases r1
  have hst : PO X (some (.UnaryOp .USub (.Constant (.int 1) k p1) p2)) (tPart (tUn (rU fun i => .int (-i)) (tC (.int 1)))) := po_some (pe_un un_neg pe_int)
  refine wpAny_Slice (thn (po_none.run pins s1 σ H1 (fun o H2 => o = none ∧ H2 = H1) I1 ⟨rfl, rfl⟩) fun vl s2 ⟨l, H2, I2, pl, el, e2⟩ => ?_)
  subst el e2
  refine thn (po_none.run pins s2 σ H2 (fun o H3 => o = none ∧ H3 = H2) I2 ⟨rfl, rfl⟩) fun vu s3 ⟨u, H3, I3, pu, eu, e3⟩ => ?_
  subst eu e3
  refine thn (hst.run pins s3 σ H3 (fun o H4 => o = some (-1) ∧ H4 = H3) I3 ⟨1, rfl, -1, rfl, rfl, rfl⟩) fun vs s4 ⟨o, H4, I4, ps, eo, e4⟩ => ?_
  subst eo e4
  have I5 : Inv X pins σ H4 { s4 with heap := s4.heap.push { cls := .type "slice", data := .fields #[vl, vu, vs] } } := I4.kept (t' := s4.toks) fun b ob q => Heap.get?_push_of_some _ q
  obtain ⟨its, r, ht, hz⟩ := I5.tuple hx
  show wpAny (model X.prog X.w) X.A (subscriptTail e (.Slice none none (some (.UnaryOp .USub (.Constant (.int 1) k p1) p2)) p3) (.ref a) (.ref s4.heap.objs.size)) (EP X pins σ Q) X.xe { s4 with heap := s4.heap.push { cls := .type "slice", data := .fields #[vl, vu, vs] } }
  refine tail_any (ops := [.ref a, .ref s4.heap.objs.size]) ht.typeIs (PyProof.Rows.slot_tuple_getitem.lookup) ?_ (by with_unfolding_all rfl)
  refine getItem_rev ht (Heap.IsSliceOf.new _ vl vu vs) pl pu ps ?_ (by rw [List.size_toArray, ← r.length]; exact hz)
  refine ⟨.ref _, _, I5.laid (t' := s4.toks) (o := .tup xs.reverse) (fun b ob q => Heap.get?_push_of_some _ q) (Nat.le_refl _) ?_, rfl, q _ (I5.hok.fresh (Nat.le_refl _))⟩
  exact ⟨by rw [List.length_reverse]; exact hz, _, r.reverse, IsTup.new _ _⟩
end
end RvT
namespace SS
open PySem PySem.Spec PyProof.Rows L2
/-! ### a dict is no text -/
section
open SeqAt MeetsSeq MeetsSeq2 MeetsSeq3 SeqRoads2
theorem str_eq_declines_dict (b : Str) (u : Tok) (l : Addr) (c : Value) (es : Array DictEntry) (n : Nat) (dd : Option Addr) (sl : Array (Option Value)) :
    Meets (Builtin.«str.__eq__» ⟨[.str b u, .ref l], []⟩) (fun _ R s => s.heap.get? l = some { cls := c, dict := dd, data := .dict es n, slots := sl } ∧ R (.ok (.ret .notImplemented)) s) :=
  .of_wp fun prog w A R s h => by obtain ⟨hp, g, d, tk, os⟩ := s; obtain ⟨hl, h⟩ := h; wp_walk using wpAny_loadPart' hl, wpAny_load hl; exact ⟨_, rfl, h⟩
theorem dict_eq_declines_str (l : Addr) (es : Array DictEntry) (n : Nat) (dd : Option Addr) (sl : Array (Option Value)) (b : Str) (u : Tok) :
    Meets (Builtin.«dict.__eq__» ⟨[.ref l, .str b u], []⟩) (fun _ R s => s.heap.get? l = some { cls := .type "dict", dict := dd, data := .dict es n, slots := sl } ∧ R (.ok (.ret .notImplemented)) s) :=
  .of_wp fun prog w A R s h => by obtain ⟨hp, g, d, tk, os⟩ := s; obtain ⟨hl, h⟩ := h; have f1 := F.sub_str_dict; wp_walk using wpAny_loadPart' hl; exact ⟨_, rfl, h⟩
variable {A : Around} {s : Shared}
theorem rc_dict_str {l : Addr} {o : Obj} {es : Array DictEntry} {n : Nat} (b : Str) (u : Tok) (ho : s.heap.get? l = some o) (hc : o.cls = .type "dict") (hd : o.data = .dict es n) (hu : A.units < cLine) : RcAt A s (.ref l) (.str b u) false := fun prog w E Q h => by
  obtain ⟨cls, dd, data, sl⟩ := o
  simp only at hc hd
  subst hc hd
  exact rc_eq_decline_or (k := false) ⟨_, ho, rfl⟩ (typeIs_str s b u) (by decide) F.sub_str_dict F.slot_dict_eq F.slot_str_eq_refl
    (fun _ hq => call_meets F.slot_dict_eq ⟨_, ho, rfl⟩ F.entry_dict_eq (F.args_dict_eq_2 _ _) (dict_eq_declines_str l es n dd sl b u) ⟨ho, hq⟩)
    (fun _ hq => call_meets F.slot_str_eq_refl (typeIs_str s b u) F.entry_str_eq (F.args_str_eq_2 _ _) (str_eq_declines_dict b u l (.type "dict") es n dd sl) ⟨ho, hq⟩)
    (fun _ hq => wpAny_of_eq (rfl : isSame (.ref l) (.str b u) = pure false) hq) (.inr hu) h
theorem str_ne_declines_dict (b : Str) (u : Tok) (l : Addr) (c : Value) (es : Array DictEntry) (n : Nat) (dd : Option Addr) (sl : Array (Option Value)) :
    Meets (Builtin.«str.__ne__» ⟨[.str b u, .ref l], []⟩) (fun _ R s => s.heap.get? l = some { cls := c, dict := dd, data := .dict es n, slots := sl } ∧ R (.ok (.ret .notImplemented)) s) :=
  .of_wp fun prog w A R s h => by obtain ⟨hp, g, d, tk, os⟩ := s; obtain ⟨hl, h⟩ := h; wp_walk using wpAny_loadPart' hl, wpAny_load hl; exact ⟨_, rfl, h⟩
theorem dict_ne_declines_str (l : Addr) (es : Array DictEntry) (n : Nat) (dd : Option Addr) (sl : Array (Option Value)) (b : Str) (u : Tok) :
    Meets (Builtin.«dict.__ne__» ⟨[.ref l, .str b u], []⟩) (fun _ R s => s.heap.get? l = some { cls := .type "dict", dict := dd, data := .dict es n, slots := sl } ∧ R (.ok (.ret .notImplemented)) s) :=
  .of_wp fun prog w A R s h => by obtain ⟨hp, g, d, tk, os⟩ := s; obtain ⟨hl, h⟩ := h; have f1 := F.sub_str_dict; wp_walk using wpAny_loadPart' hl; exact ⟨_, rfl, h⟩
theorem rcne_dict_str {l : Addr} {o : Obj} {es : Array DictEntry} {n : Nat} (b : Str) (u : Tok) (ho : s.heap.get? l = some o) (hc : o.cls = .type "dict") (hd : o.data = .dict es n) (hu : A.units < cLine) : RcNeAt A s (.ref l) (.str b u) true := fun prog w E Q h => by
  obtain ⟨cls, dd, data, sl⟩ := o
  simp only at hc hd
  subst hc hd
  exact rc_ne_decline_or (k := false) ⟨_, ho, rfl⟩ (typeIs_str s b u) (by decide) F.sub_str_dict F.slot_dict_ne F.slot_str_ne_refl
    (fun _ hq => call_meets F.slot_dict_ne ⟨_, ho, rfl⟩ F.entry_dict_ne (F.args_dict_ne_2 _ _) (dict_ne_declines_str l es n dd sl b u) ⟨ho, hq⟩)
    (fun _ hq => call_meets F.slot_str_ne_refl (typeIs_str s b u) F.entry_str_ne (F.args_str_ne_2 _ _) (str_ne_declines_dict b u l (.type "dict") es n dd sl) ⟨ho, hq⟩)
    (fun _ hq => wpAny_of_eq (rfl : isSame (.ref l) (.str b u) = pure false) hq) (.inr hu) h
end
end SS
namespace SS
open PySem PySem.Spec PyProof.Rows L2 NumText LamX KyS
/-! ### the parts of a step, whatever they are -/
inductive El where
  | str (x : Str)
  | num (c : Int × Int)
  | odd
def WhF (x : V) (b : Bool) : Prop := (∃ i, x = .int i ∧ b = true) ∨ (((∃ t, x = .bl t) ∨ ∃ s, x = .str s) ∧ b = false)
def OddE (K : PySem.W.Frag) (H : Hp) (v : V) : Prop := v = .non ∨ (∃ b, v = .bl b) ∨ (∃ i, v = .int i) ∨ (∃ p xs, v = .ref p ∧ H p = some (.lst xs)) ∨ (∃ p ks, v = .ref p ∧ H p = some (.dK ks)) ∨
  ∃ p xs, v = .ref p ∧ SqT K H p xs ∧ (xs.length ≠ 2 ∨ ∃ x y bx cy, xs = [x, y] ∧ WhF x bx ∧ WhF y cy ∧ (bx && cy) = false)
def ElAt (K : PySem.W.Frag) (H : Hp) (v : V) : El → Prop
  | .str x => v = .str x
  | .num c => ∃ n, v = .ref n ∧ FrT K H n c.1 c.2
  | .odd => OddE K H v
/-- all is kept, lists as lists -/
def KLs (H H' : Hp) : Prop := ∀ b o, (∀ ps, o ≠ .tbl ps) → H b = some o → H' b = some o ∨ ((∃ xs, o = .lst xs) ∧ ∃ ys, H' b = some (.lst ys))
theorem KLs.same {H H' : Hp} (s : Same H H') : KLs H H' := fun b o _ e => .inl (s b o e)
theorem KLs.ext {H H' : Hp} (s : ExtN H H') : KLs H H' := fun b o n e => .inl (s b o e n)
theorem KLs.trans {H H1 H2 : Hp} (x : KLs H H1) (y : KLs H1 H2) : KLs H H2 := fun b o n e => by
  rcases x b o n e with h | ⟨h, ys, h1⟩
  · exact y b o n h
  · rcases y b _ (fun ps => by simp) h1 with h2 | ⟨_, zs, h2⟩
    · exact .inr ⟨h, ys, h2⟩
    · exact .inr ⟨h, zs, h2⟩
theorem KLs.but {st c : Addr} {H H' : Hp} (b : But st H H') (sa : StA st c H) (sa' : StA st c H') : KLs H H' := fun x o _ e => by
  by_cases z : x = st
  · obtain ⟨_, _, _, _, g1, _⟩ := sa
    obtain ⟨_, _, _, _, g2, _⟩ := sa'
    rw [z] at e ⊢
    rw [g1] at e
    exact .inr ⟨⟨_, (Option.some.inj e).symm⟩, _, g2⟩
  · exact .inl (b _ _ z e)
theorem KLs.lst {H : Hp} {L : Addr} {xs ys : List V} (h : H L = some (.lst xs)) : KLs H (upd H L (.lst ys)) := fun b o _ e => by
  by_cases z : b = L
  · rw [z] at e ⊢
    rw [h] at e
    exact .inr ⟨⟨_, (Option.some.inj e).symm⟩, _, upd_same⟩
  · exact .inl (by rw [upd_ne z]; exact e)
section
variable {K : PySem.W.Frag} {H H' : Hp}
theorem SqT.kl {a : Addr} {xs : List V} (h : SqT K H a xs) (k : KLs H H') : SqT K H' a xs := by
  rcases h with (h | ⟨o, h⟩) | ⟨o, its, m, k1, k2, k3⟩
  · rcases k _ _ (fun ys => by simp) h with h | ⟨⟨_, h⟩, _⟩
    · exact .inl (.inl h)
    · cases h
  · rcases k _ _ (fun ys => by simp) h with h | ⟨⟨_, h⟩, _⟩
    · exact .inl (.inr ⟨o, h⟩)
    · cases h
  · exact .inr ⟨o, its, m, k1, k2, k3⟩
theorem FrT.kl {p : Addr} {n d : Int} (h : FrT K H p n d) (k : KLs H H') : FrT K H' p n d := ⟨SqT.kl h.1 k, SqT.ty (SqT.kl h.1 k)⟩
theorem ElAt.kl {v : V} {e : El} (h : ElAt K H v e) (k : KLs H H') : ElAt K H' v e := by
  cases e with
  | str x => exact h
  | num c =>
    obtain ⟨n, e, f⟩ := h
    exact ⟨n, e, f.kl k⟩
  | odd =>
    rcases h with h | h | h | ⟨p, xs, e, h⟩ | ⟨p, ks, e, h⟩ | ⟨p, xs, e, h, r⟩
    · exact .inl h
    · exact .inr (.inl h)
    · exact .inr (.inr (.inl h))
    · refine .inr (.inr (.inr (.inl ?_)))
      rcases k _ _ (fun ps => by simp) h with h | ⟨_, ys, h⟩
      · exact ⟨p, xs, e, h⟩
      · exact ⟨p, ys, e, h⟩
    · refine .inr (.inr (.inr (.inr (.inl ?_))))
      rcases k _ _ (fun ps => by simp) h with h | ⟨⟨_, h⟩, _⟩
      · exact ⟨p, ks, e, h⟩
      · cases h
    · exact .inr (.inr (.inr (.inr (.inr ⟨p, xs, e, SqT.kl h k, r⟩))))
/-- what it is, if it is no text -/
theorem ElAt.ty {v : V} {e : El} (h : ElAt K H v e) (n : ∀ x, e ≠ .str x) : ∃ t, TyX K H v (.type t) ∧ PySem.W.kitOne K (.type t) (.type "str") = some false := by
  cases e with
  | str x => exact absurd rfl (n x)
  | num c =>
    obtain ⟨p, rfl, f⟩ := h
    exact ⟨_, f.2, kit_ty (by decide +kernel)⟩
  | odd =>
    rcases h with rfl | ⟨b, rfl⟩ | ⟨i, rfl⟩ | ⟨p, xs, rfl, h⟩ | ⟨p, ks, rfl, h⟩ | ⟨p, xs, rfl, h, r⟩
    · exact ⟨_, .base .non, kit_ty (by decide +kernel)⟩
    · exact ⟨_, .base (.bl b), kit_ty (by decide +kernel)⟩
    · exact ⟨_, .base (.int i), kit_ty (by decide +kernel)⟩
    · exact ⟨_, .base (.lst h), kit_ty (by decide +kernel)⟩
    · exact ⟨_, .base (.dK h), kit_ty (by decide +kernel)⟩
    · exact ⟨_, SqT.ty h, kit_ty (by decide +kernel)⟩
end
def El.is : El → Str → Bool
  | .str x, t => decide (x = t)
  | _, _ => false
def frD (c : Int × Int) : Bool := decide (1 ≤ c.2 ∧ Int.gcd c.1 c.2 = 1)
def El.fr : El → Bool
  | .num c => frD c
  | _ => false
section
variable {X : Cx}
/-- anything == a text -/
def rEqAS (K : PySem.W.Frag) : R2 := fun x y H Q => ∃ (e : El) (t : Str), ElAt K H x e ∧ y = .str t ∧ Q (.bl (e.is t)) H
theorem op_eqAS (hu : X.A.units + 64 < cLine) : OpR X (compareOp .Eq) (rEqAS X.K) := by
  intro pins s σ H x y v u Q I rx ry h
  obtain ⟨e, t, he, rfl, q⟩ := h
  have hu' : X.A.units < cLine := by omega
  have flat : ∀ z : V, scal z (.str t) = true → z ≠ .str t → e.is t = false → x = z → wpAny (model X.prog X.w) X.A (compareOp .Eq v u) (EP X pins σ Q) X.xe s := fun z hz nz ef ex => by
    subst ex
    refine op_eq pins s σ H _ _ v u Q I rx ry ⟨hz, ?_⟩
    rw [decide_eq_false nz]
    rw [ef] at q
    exact q
  obtain ⟨tk, rfl⟩ : ∃ tk, u = Value.str t tk := ry
  cases e with
  | str x0 =>
    obtain rfl : x = .str x0 := he
    refine op_eq pins s σ H _ (.str t) v _ Q I rx (show RelV (V.str t) (Value.str t tk) from ⟨tk, rfl⟩) ⟨rfl, ?_⟩
    have : decide (V.str x0 = V.str t) = decide (x0 = t) := decide_eq_decide.mpr ⟨fun z => V.str.inj z, fun z => by rw [z]⟩
    rw [this]
    exact q
  | num c =>
    obtain ⟨p, rfl, f⟩ := he
    obtain rfl : v = Value.ref p := rx
    obtain ⟨its, _, pl, _⟩ := I.tuple f.1
    exact SeqAt.RcAt.tuple_str t tk pl hu' _ _ _ _ ⟨.bl false, H, I, rfl, q⟩
  | odd =>
    rcases he with rfl | ⟨b, rfl⟩ | ⟨i, rfl⟩ | ⟨p, xs, rfl, h⟩ | ⟨p, ks, rfl, h⟩ | ⟨p, xs, rfl, h, r⟩
    · exact flat .non rfl (fun z => nomatch z) rfl rfl
    · exact flat (.bl b) rfl (fun z => nomatch z) rfl rfl
    · exact flat (.int i) rfl (fun z => nomatch z) rfl rfl
    · obtain rfl : v = Value.ref p := rx
      obtain ⟨its, _, pl, _⟩ := I.list (SqL.of h)
      exact SeqAt.RcAt.list_str t tk pl.isList hu' _ _ _ _ ⟨.bl false, H, I, rfl, q⟩
    · obtain rfl : v = Value.ref p := rx
      obtain ⟨_, _, vs, _, o, es, ep, ho, ed, hd, _⟩ := dk_rd I.hok (.inl h : Rd H p (.dK ks))
      exact rc_dict_str t tk ho ed.1 hd hu' _ _ _ _ ⟨.bl false, H, I, rfl, q⟩
    · obtain rfl : v = Value.ref p := rx
      obtain ⟨its, _, pl, _⟩ := I.tuple h
      exact SeqAt.RcAt.tuple_str t tk pl hu' _ _ _ _ ⟨.bl false, H, I, rfl, q⟩
def rNeAS (K : PySem.W.Frag) : R2 := fun x y H Q => ∃ (e : El) (t : Str), ElAt K H x e ∧ y = .str t ∧ Q (.bl (!e.is t)) H
theorem op_neAS (hu : X.A.units + 64 < cLine) : OpR X (compareOp .NotEq) (rNeAS X.K) := by
  intro pins s σ H x y v u Q I rx ry h
  obtain ⟨e, t, he, rfl, q⟩ := h
  have hu' : X.A.units < cLine := by omega
  have flat : ∀ z : V, scal z (.str t) = true → z ≠ .str t → e.is t = false → x = z → wpAny (model X.prog X.w) X.A (compareOp .NotEq v u) (EP X pins σ Q) X.xe s := fun z hz nz ef ex => by
    subst ex
    refine op_ne pins s σ H _ _ v u Q I rx ry ⟨hz, ?_⟩
    rw [decide_eq_false nz]
    rw [ef] at q
    exact q
  obtain ⟨tk, rfl⟩ : ∃ tk, u = Value.str t tk := ry
  cases e with
  | str x0 =>
    obtain rfl : x = .str x0 := he
    refine op_ne pins s σ H _ (.str t) v _ Q I rx (show RelV (V.str t) (Value.str t tk) from ⟨tk, rfl⟩) ⟨rfl, ?_⟩
    have : decide (V.str x0 = V.str t) = decide (x0 = t) := decide_eq_decide.mpr ⟨fun z => V.str.inj z, fun z => by rw [z]⟩
    rw [this]
    exact q
  | num c =>
    obtain ⟨p, rfl, f⟩ := he
    obtain rfl : v = Value.ref p := rx
    obtain ⟨its, _, pl, _⟩ := I.tuple f.1
    exact SeqAt.RcNeAt.tuple_str t tk pl hu' _ _ _ _ ⟨.bl true, H, I, rfl, q⟩
  | odd =>
    rcases he with rfl | ⟨b, rfl⟩ | ⟨i, rfl⟩ | ⟨p, xs, rfl, h⟩ | ⟨p, ks, rfl, h⟩ | ⟨p, xs, rfl, h, r⟩
    · exact flat .non rfl (fun z => nomatch z) rfl rfl
    · exact flat (.bl b) rfl (fun z => nomatch z) rfl rfl
    · exact flat (.int i) rfl (fun z => nomatch z) rfl rfl
    · obtain rfl : v = Value.ref p := rx
      obtain ⟨its, _, pl, _⟩ := I.list (SqL.of h)
      exact SeqAt.RcNeAt.list_str t tk pl.isList hu' _ _ _ _ ⟨.bl true, H, I, rfl, q⟩
    · obtain rfl : v = Value.ref p := rx
      obtain ⟨_, _, vs, _, o, es, ep, ho, ed, hd, _⟩ := dk_rd I.hok (.inl h : Rd H p (.dK ks))
      exact rcne_dict_str t tk ho ed.1 hd hu' _ _ _ _ ⟨.bl true, H, I, rfl, q⟩
    · obtain rfl : v = Value.ref p := rx
      obtain ⟨its, _, pl, _⟩ := I.tuple h
      exact SeqAt.RcNeAt.tuple_str t tk pl hu' _ _ _ _ ⟨.bl true, H, I, rfl, q⟩
end
/-! ### steps -/
inductive Sv where
  | tup (es : List El)
  | odd
def SvAt (K : PySem.W.Frag) (H : Hp) (v : V) : Sv → Prop
  | .tup es => ∃ s vs, v = .ref s ∧ SqT K H s vs ∧ Paired (ElAt K H) vs es
  | .odd => v = .non ∨ (∃ b, v = .bl b) ∨ (∃ i, v = .int i) ∨ (∃ x, v = .str x) ∨ (∃ p xs, v = .ref p ∧ H p = some (.lst xs)) ∨ ∃ p ks, v = .ref p ∧ H p = some (.dK ks)
theorem SvAt.kl {K : PySem.W.Frag} {H H' : Hp} {v : V} {d : Sv} (h : SvAt K H v d) (k : KLs H H') : SvAt K H' v d := by
  cases d with
  | tup es =>
    obtain ⟨s, vs, e, h1, h2⟩ := h
    exact ⟨s, vs, e, SqT.kl h1 k, paired_mono (fun v e h => ElAt.kl h k) h2⟩
  | odd =>
    rcases h with h | h | h | h | ⟨p, xs, e, h⟩ | ⟨p, ks, e, h⟩
    · exact .inl h
    · exact .inr (.inl h)
    · exact .inr (.inr (.inl h))
    · exact .inr (.inr (.inr (.inl h)))
    · refine .inr (.inr (.inr (.inr (.inl ?_))))
      rcases k _ _ (fun ps => by simp) h with h | ⟨_, ys, h⟩
      · exact ⟨p, xs, e, h⟩
      · exact ⟨p, ys, e, h⟩
    · refine .inr (.inr (.inr (.inr (.inr ?_))))
      rcases k _ _ (fun ps => by simp) h with h | ⟨⟨_, h⟩, _⟩
      · exact ⟨p, ks, e, h⟩
      · cases h
/-- the step that it is, on rows of these names -/
def stpOf (names : List Str) : Sv → Option Stp
  | .tup [.str w, .str x, .num c] => if w = Str.ofString "times" ∧ x ∈ names ∧ frD c = true ∧ c.1 ≠ 0 then some (.tm x c) else none
  | .tup [.str w, .str x, .str y, .num c] => if w = Str.ofString "add" ∧ x ∈ names ∧ y ∈ names ∧ x ≠ y ∧ frD c = true then some (.ad x y c) else none
  | _ => none
section
variable {P : Program} {w : World} {K : PySem.W.Frag} {mg : Str → Option Value} {base : Heap}
def El.inD (kvs : List (Key × V)) : El → Bool
  | .str x => (valV kvs (.inr x)).isSome
  | _ => false
def spNamesRowB (K : PySem.W.Frag) : Sp := fun vs H Q _ => ∃ (D : Addr) (kvs : List (Key × V)) (v : V) (e : El), vs = [.ref D, v] ∧ H D = some (.dK kvs) ∧ ElAt K H v e ∧ Q (.bl (e.inD kvs)) H
theorem ok_namesrowB {f : Addr} {fd : FuncData} {k : Nat} (F : Fun K "names_row" "names_row" sNamesRow f fd) (mi : mg "isinstance" = none) (mst : mg "str" = none) : FnOk P w K mg base CX0 (k + 1) f fd ["equals", "thing"] (spNamesRowB K) := by
  refine F.ok scNamesRow (fun vs H Q E h => ?_) (fun cdv A outer s H vs Q E hr h => ?_)
  · obtain ⟨_, _, _, _, rfl, _⟩ := h
    rfl
  · obtain ⟨D, kvs, v, e, rfl, hD, he, q⟩ := h
    have hu := hu_of hr
    refine ⟨_, pss_one (ps_ret (pe_and (pe_callB call_isi (by rfl) mi boot_isinstance (pa_cons (pv 1) (pa_cons (pe_bltn (v := .ty "str") (u := .type "str") (by rfl) mst (by decide +kernel) rfl) pa_nil))) (pe_one (pe_cmp (pc_din hu (pv 1) (pv 0)))))), ?_⟩
    by_cases c : ∃ x, e = .str x
    · obtain ⟨x, rfl⟩ := c
      obtain rfl : v = .str x := he
      refine ⟨_, rfl, .str x, .ty "str", .type "str", .type "str", true, rfl, .ty _, .base (.str x), kit_ty (by decide +kernel), _, rfl, iteT ?_⟩
      exact ⟨_, rfl, _, rfl, D, _, rfl, DGet.k (k := .inr x) hD, q⟩
    · obtain ⟨t, h1, h2⟩ := he.ty fun x z => c ⟨x, z⟩
      have ef : e.inD kvs = false := by
        cases e with
        | str x => exact absurd ⟨x, rfl⟩ c
        | num _ => rfl
        | odd => rfl
      rw [ef] at q
      exact ⟨_, rfl, v, .ty "str", .type t, .type "str", false, rfl, .ty _, h1, h2, _, rfl, iteF q⟩
def spFFracE (K : PySem.W.Frag) : Sp := fun vs H Q _ => ∃ (v : V) (e : El), vs = [v] ∧ ElAt K H v e ∧ Q (.bl e.fr) H
theorem whF_B {H : Hp} {x : V} {b : Bool} (h : WhF x b) : WhB K H x b := by
  rcases h with ⟨i, e, f⟩ | ⟨⟨t, e⟩ | ⟨s, e⟩, f⟩
  · exact .inl ⟨i, e, f⟩
  · exact .inr (.inl ⟨t, e, f⟩)
  · exact .inr (.inr ⟨_, by rw [e]; exact .str s, f⟩)
theorem ElAt.noT {H : Hp} {v : V} {e : El} (h : ElAt K H v e) : (∃ t, TyX K H v (.type t) ∧ PySem.W.kitOne K (.type t) (.type "tuple") = some false ∧ e.fr = false) ∨ ∃ p xs, v = .ref p ∧ SqT K H p xs ∧ ((xs.length ≠ 2 ∧ e.fr = false) ∨ ∃ x y bx cy, xs = [x, y] ∧ WhF x bx ∧ WhF y cy ∧ (((bx && cy) = false ∧ e.fr = false) ∨ ∃ n d : Int, x = .int n ∧ y = .int d ∧ e.fr = decide (1 ≤ d ∧ Int.gcd n d = 1))) := by
  cases e with
  | str x =>
    obtain rfl : v = .str x := h
    exact .inl ⟨_, .base (.str x), kit_ty (by decide +kernel), rfl⟩
  | num c =>
    obtain ⟨p, rfl, f⟩ := h
    exact .inr ⟨p, _, rfl, f.1, .inr ⟨_, _, true, true, rfl, .inl ⟨_, rfl, rfl⟩, .inl ⟨_, rfl, rfl⟩, .inr ⟨_, _, rfl, rfl, rfl⟩⟩⟩
  | odd =>
    rcases h with rfl | ⟨b, rfl⟩ | ⟨i, rfl⟩ | ⟨p, xs, rfl, h⟩ | ⟨p, ks, rfl, h⟩ | ⟨p, xs, rfl, h, r⟩
    · exact .inl ⟨_, .base .non, kit_ty (by decide +kernel), rfl⟩
    · exact .inl ⟨_, .base (.bl b), kit_ty (by decide +kernel), rfl⟩
    · exact .inl ⟨_, .base (.int i), kit_ty (by decide +kernel), rfl⟩
    · exact .inl ⟨_, .base (.lst h), kit_ty (by decide +kernel), rfl⟩
    · exact .inl ⟨_, .base (.dK h), kit_ty (by decide +kernel), rfl⟩
    · refine .inr ⟨p, xs, rfl, h, ?_⟩
      rcases r with r | ⟨x, y, bx, cy, e, w1, w2, z⟩
      · exact .inl ⟨r, rfl⟩
      · exact .inr ⟨x, y, bx, cy, e, w1, w2, .inl ⟨z, rfl⟩⟩
theorem ok_fitsfE {f : Addr} {fd : FuncData} {k : Nat} (F : Fun K "fits_fraction" "fits_fraction" sFitsF f fd) (mi : mg "isinstance" = none) (mt : mg "tuple" = none) (ml : mg "len" = none) (fw : Cl P w K mg base CX0 1 "fits_whole" (spFWhole K) []) (cd : Cl P w K mg base CX0 1 "common_divisor" spGcd []) :
    FnOk P w K mg base CX0 2 f fd ["thing"] (spFFracE K) := by
  refine F.ok scFitsF (fun vs H Q E h => ?_) (fun cdv A outer s H vs Q E hr h => ?_)
  · obtain ⟨a, b, rfl, _⟩ := h
    rfl
  · obtain ⟨v, e, rfl, hv, q⟩ := h
    refine ⟨_, pss_cons (ps_if (PW.pt (pw_or (pt_not (pt_val (pe_callB call_isi (by rfl) mi boot_isinstance (pa_cons (pv 0) (pa_cons (pe_bltn (v := .ty "tuple") (u := .type "tuple") (by rfl) mt (by decide +kernel) rfl) pa_nil)))))
        (pw_or1 (pt_cmpR op_ne (pe_callB call_len_seq (by rfl) ml PySem.boot_len (pa_cons (pv 0) pa_nil)) pe_int (nomark _))))) (pss_one (ps_ret pe_bl)) pss_nil)
      (pss_cons (ps_asg (pv 0) (pg_tup rfl (pgs_cons (pg_name (i := 1) scFitsF.nd rfl (.inl rfl)) (pgs_cons (pg_name (i := 2) scFitsF.nd rfl (.inl rfl)) pgs_nil))))
      (pss_cons (ps_if (PW.pt (pw_or (pt_not (pt_val (pc0 fw hr (by decide) (pa_cons (pv 1) pa_nil)))) (pw_or1 (pt_not (pt_val (pc0 fw hr (by decide) (pa_cons (pv 2) pa_nil))))))) (pss_one (ps_ret pe_bl)) pss_nil)
      (pss_one (ps_ret (pe_and (pe_cmpR op_ge (pv 2) pe_int (nomark _)) (pe_one (pe_cmpR op_eq (pc0 cd hr (by decide) (pa_cons (pv 1) (pa_cons (pv 2) pa_nil))) pe_int (nomark _)))))))), ?_⟩
    rcases hv.noT with ⟨t, h1, h2, ef⟩ | ⟨p, xs, rfl, hs, hv⟩
    · rw [ef] at q
      exact ⟨_, rfl, v, .ty "tuple", .type t, .type "tuple", false, rfl, .ty _, h1, h2, _, rfl, iteT q⟩
    · refine ⟨_, rfl, .ref p, .ty "tuple", .type "tuple", .type "tuple", true, rfl, .ty _, SqT.ty hs, kit_ty (by decide +kernel), _, rfl, iteF ?_⟩
      rcases hv with ⟨hl, ef⟩ | ⟨x, y, bx, cy, rfl, w1, w2, hv⟩
      · rw [ef] at q
        refine ⟨_, rfl, p, _, rfl, .inr hs, rfl, true, ?_, iteT q⟩
        refine congrArg V.bl ?_
        rw [decide_eq_false fun z => hl (by have := V.int.inj z; omega)]
        rfl
      · refine ⟨_, rfl, p, _, rfl, .inr hs, rfl, false, rfl, iteF ?_⟩
        refine ⟨_, rfl, p, _, rfl, hs, rfl, _, _, rfl, _, _, rfl, rfl, ?_⟩
        refine ⟨_, rfl, _, bx, rfl, whF_B w1, _, rfl, ?_⟩
        rcases hv with ⟨z, ef⟩ | ⟨n, d, rfl, rfl, ef⟩
        · rw [ef] at q
          cases bx with
          | false => exact iteT q
          | true =>
            refine iteF ⟨_, rfl, _, cy, rfl, whF_B w2, _, rfl, ?_⟩
            have : cy = false := by simpa using z
            subst this
            exact iteT q
        · have b1 : bx = true := by
            rcases w1 with ⟨_, _, e⟩ | ⟨⟨_, e⟩ | ⟨_, e⟩, _⟩
            · exact e
            · cases e
            · cases e
          have b2 : cy = true := by
            rcases w2 with ⟨_, _, e⟩ | ⟨⟨_, e⟩ | ⟨_, e⟩, _⟩
            · exact e
            · cases e
            · cases e
          subst b1 b2
          refine iteF ⟨_, rfl, _, true, rfl, whF_B w2, _, rfl, iteF ?_⟩
          rw [ef] at q
          refine ⟨_, rfl, d, 1, rfl, rfl, _, rfl, ?_⟩
          by_cases c : (1 : Int) ≤ d
          · rw [decide_eq_true c]
            refine iteT ⟨_, rfl, _, rfl, n, d, rfl, rfl, ?_⟩
            have e : decide (1 ≤ d ∧ Int.gcd n d = 1) = decide (V.int ((Int.gcd n d : Nat) : Int) = V.int 1) := decide_eq_decide.mpr ⟨fun z => by rw [z.2]; rfl, fun z => ⟨c, by have := V.int.inj z; omega⟩⟩
            rw [e] at q
            exact q
          · rw [decide_eq_false c]
            rw [decide_eq_false fun z => c z.1] at q
            exact iteF q
end
end SS
namespace SS
open PySem PySem.Spec PyProof.Rows L2 NumText LamX KyS
def El.nz : El → Bool
  | .num c => decide (c.1 ≠ 0)
  | _ => false
def El.df : El → El → Bool
  | .str x, .str y => decide (x ≠ y)
  | _, _ => false
def fits3 (kvs : List (Key × V)) (e1 e2 e3 : El) : Bool := e1.is (Str.ofString "times") && (e2.inD kvs && (e3.fr && e3.nz))
def fits4 (kvs : List (Key × V)) (e1 e2 e3 e4 : El) : Bool := e1.is (Str.ofString "add") && (e2.inD kvs && (e3.inD kvs && (e2.df e3 && e4.fr)))
theorem stp3 {kvs : List (Key × V)} {names : List Str} (h : ∀ x, (valV kvs (.inr x)).isSome = decide (x ∈ names)) (e1 e2 e3 : El) : (stpOf names (.tup [e1, e2, e3])).isSome = fits3 kvs e1 e2 e3 := by
  unfold fits3
  cases e1 <;> cases e2 <;> cases e3 <;> simp only [stpOf, El.is, El.inD, El.fr, El.nz, Bool.and_false, Bool.false_and, Option.isSome_none, h]
  rename_i w x c
  by_cases a1 : w = Str.ofString "times" <;> by_cases a2 : x ∈ names <;> by_cases a3 : frD c = true <;> by_cases a4 : c.1 ≠ 0 <;> simp [a1, a2, a3, a4]
theorem stp4 {kvs : List (Key × V)} {names : List Str} (h : ∀ x, (valV kvs (.inr x)).isSome = decide (x ∈ names)) (e1 e2 e3 e4 : El) : (stpOf names (.tup [e1, e2, e3, e4])).isSome = fits4 kvs e1 e2 e3 e4 := by
  unfold fits4
  cases e1 <;> cases e2 <;> cases e3 <;> cases e4 <;> simp only [stpOf, El.is, El.inD, El.fr, El.df, Bool.and_false, Bool.false_and, Option.isSome_none, h]
  rename_i w x y c
  by_cases a1 : w = Str.ofString "add" <;> by_cases a2 : x ∈ names <;> by_cases a3 : y ∈ names <;> by_cases a4 : x ≠ y <;> by_cases a5 : frD c = true <;> simp [a1, a2, a3, a4, a5]
theorem stp_len {names : List Str} : ∀ {es : List El}, es.length ≠ 3 → es.length ≠ 4 → stpOf names (.tup es) = none
  | [], _, _ => rfl
  | [a], _, _ => by cases a <;> rfl
  | [a, b], _, _ => by cases a <;> cases b <;> rfl
  | [_, _, _], h, _ => absurd rfl h
  | [_, _, _, _], _, h => absurd rfl h
  | a :: b :: c :: d :: _ :: _, _, _ => by cases a <;> cases b <;> cases c <;> cases d <;> rfl
theorem paired3 {α β : Type} {R : α → β → Prop} {vs : List α} {es : List β} (h : Paired R vs es) (l : vs.length = 3) : ∃ v1 v2 v3 e1 e2 e3, vs = [v1, v2, v3] ∧ es = [e1, e2, e3] ∧ R v1 e1 ∧ R v2 e2 ∧ R v3 e3 := by
  cases h with
  | nil => cases l
  | cons a h => cases h with
    | nil => cases l
    | cons b h => cases h with
      | nil => cases l
      | cons c h => cases h with
        | nil => exact ⟨_, _, _, _, _, _, rfl, rfl, a, b, c⟩
        | cons _ _ => simp at l
theorem paired4 {α β : Type} {R : α → β → Prop} {vs : List α} {es : List β} (h : Paired R vs es) (l : vs.length = 4) : ∃ v1 v2 v3 v4 e1 e2 e3 e4, vs = [v1, v2, v3, v4] ∧ es = [e1, e2, e3, e4] ∧ R v1 e1 ∧ R v2 e2 ∧ R v3 e3 ∧ R v4 e4 := by
  cases h with
  | nil => cases l
  | cons a h =>
    obtain ⟨v2, v3, v4, e2, e3, e4, rfl, rfl, b, c, d⟩ := paired3 h (by simpa using l)
    exact ⟨_, _, _, _, _, _, _, _, rfl, rfl, a, b, c, d⟩
section
variable {P : Program} {w : World} {K : PySem.W.Frag} {mg : Str → Option Value} {base : Heap}
def spFitsTmB (K : PySem.W.Frag) : Sp := fun vs H Q _ => ∃ (D st : Addr) (kvs : List (Key × V)) (v1 v2 v3 : V) (e1 e2 e3 : El), vs = [.ref D, .ref st] ∧ H D = some (.dK kvs) ∧ SqT K H st [v1, v2, v3] ∧ ElAt K H v1 e1 ∧ ElAt K H v2 e2 ∧ ElAt K H v3 e3 ∧ Q (.bl (fits3 kvs e1 e2 e3)) H
theorem ok_fitstmB {f aN : Addr} {fd : FuncData} (F : Fun K "fits_times" "fits_times" sFitsTm f fd) (gN : mg "NOUGHT" = some (.ref aN)) (hN : ∀ H, FrT K H aN 0 1) (nr : Cl P w K mg base CX0 1 "names_row" (spNamesRowB K) []) (ff : Cl P w K mg base CX0 2 "fits_fraction" (spFFracE K) []) :
    FnOk P w K mg base CX0 3 f fd ["equals", "step"] (spFitsTmB K) := by
  refine F.ok scFitsTm (fun vs H Q E h => ?_) (fun cdv A outer s H vs Q E hr h => ?_)
  · obtain ⟨_, _, _, _, _, _, _, _, _, rfl, _⟩ := h
    rfl
  · obtain ⟨D, st, kvs, v1, v2, v3, e1, e2, e3, rfl, hD, hs, h1, h2, h3, q⟩ := h
    refine ⟨_, pss_cons (ps_asg (pv 1) (pg_tup rfl (pgs_cons (pg_name (i := 2) scFitsTm.nd rfl (.inl rfl)) (pgs_cons (pg_name (i := 3) scFitsTm.nd rfl (.inl rfl)) (pgs_cons (pg_name (i := 4) scFitsTm.nd rfl (.inl rfl)) pgs_nil)))))
      (pss_one (ps_ret (pe_and (pe_cmpR (op_eqAS hr.units) (pv 2) pe_str (nomark _)) (pe_and (pc0 nr hr (by decide) (pa_cons (pv 0) (pa_cons (pv 3) pa_nil))) (pe_and (pc0 ff hr (by decide) (pa_cons (pv 4) pa_nil)) (pe_one (pe_cmpR (op_neD hr.units) (pv 4) (pe_glob (v := .ref aN) (by rfl) gN rfl) (nomark _)))))))), ?_⟩
    refine ⟨_, rfl, st, _, rfl, hs, rfl, _, _, rfl, _, _, rfl, _, _, rfl, rfl, ?_⟩
    unfold fits3 at q
    refine ⟨_, rfl, e1, _, h1, rfl, _, rfl, ?_⟩
    cases b1 : e1.is (Str.ofString "times") with
    | false =>
      rw [b1] at q
      exact iteF q
    | true =>
      rw [b1] at q
      refine iteT ⟨_, rfl, _, rfl, D, kvs, _, e2, rfl, hD, h2, _, rfl, ?_⟩
      cases b2 : e2.inD kvs with
      | false =>
        rw [b2] at q
        exact iteF q
      | true =>
        rw [b2] at q
        refine iteT ⟨_, rfl, _, e3, rfl, h3, _, rfl, ?_⟩
        cases b3 : e3.fr with
        | false =>
          rw [b3] at q
          exact iteF q
        | true =>
          rw [b3] at q
          refine iteT ?_
          cases e3 with
          | str x => cases b3
          | odd => cases b3
          | num c =>
            obtain ⟨n, rfl, hn⟩ := h3
            have q' : Q (.bl (!PyData.eqv (.tuple [.int c.1, .int c.2]) (.tuple [.int 0, .int 1]))) H := by
              rw [eqv_nought]
              have z : (!(c.1 == 0 && c.2 == 1)) = decide (c.1 ≠ 0) := by
                obtain ⟨f1, f2⟩ := of_decide_eq_true (b3 : frD c = true)
                by_cases y : c.1 = 0
                · rw [y] at f2 ⊢
                  have : c.2 = 1 := by
                    rw [Int.gcd_zero_left] at f2
                    omega
                  rw [this]
                  rfl
                · simp [y]
              rw [z]
              exact q
            exact ⟨_, rfl, .tuple [.int c.1, .int c.2], .tuple [.int 0, .int 1], .tup hn.1 (.cons (.int _) (.cons (.int _) .nil)), .tup (hN _).1 (.cons (.int _) (.cons (.int _) .nil)), rfl, rfl, q'⟩
def spFitsAddB (K : PySem.W.Frag) : Sp := fun vs H Q _ => ∃ (D st : Addr) (kvs : List (Key × V)) (v1 v2 v3 v4 : V) (e1 e2 e3 e4 : El), vs = [.ref D, .ref st] ∧ H D = some (.dK kvs) ∧ SqT K H st [v1, v2, v3, v4] ∧ ElAt K H v1 e1 ∧ ElAt K H v2 e2 ∧ ElAt K H v3 e3 ∧ ElAt K H v4 e4 ∧ Q (.bl (fits4 kvs e1 e2 e3 e4)) H
theorem ok_fitsaddB {f : Addr} {fd : FuncData} (F : Fun K "fits_add" "fits_add" sFitsAdd f fd) (nr : Cl P w K mg base CX0 1 "names_row" (spNamesRowB K) []) (ff : Cl P w K mg base CX0 2 "fits_fraction" (spFFracE K) []) :
    FnOk P w K mg base CX0 3 f fd ["equals", "step"] (spFitsAddB K) := by
  refine F.ok scFitsAdd (fun vs H Q E h => ?_) (fun cdv A outer s H vs Q E hr h => ?_)
  · obtain ⟨_, _, _, _, _, _, _, _, _, _, _, rfl, _⟩ := h
    rfl
  · obtain ⟨D, st, kvs, v1, v2, v3, v4, e1, e2, e3, e4, rfl, hD, hs, h1, h2, h3, h4, q⟩ := h
    refine ⟨_, pss_cons (ps_asg (pv 1) (pg_tup rfl (pgs_cons (pg_name (i := 2) scFitsAdd.nd rfl (.inl rfl)) (pgs_cons (pg_name (i := 3) scFitsAdd.nd rfl (.inl rfl)) (pgs_cons (pg_name (i := 4) scFitsAdd.nd rfl (.inl rfl)) (pgs_cons (pg_name (i := 5) scFitsAdd.nd rfl (.inl rfl)) pgs_nil))))))
      (pss_cons (ps_if (PW.pt (pw_or (pt_cmpR (op_neAS hr.units) (pv 2) pe_str (nomark _)) (pw_or (pt_not (pt_val (pc0 nr hr (by decide) (pa_cons (pv 0) (pa_cons (pv 3) pa_nil))))) (pw_or1 (pt_not (pt_val (pc0 nr hr (by decide) (pa_cons (pv 0) (pa_cons (pv 4) pa_nil))))))))) (pss_one (ps_ret pe_bl)) pss_nil)
      (pss_one (ps_ret (pe_and (pe_cmpR op_ne (pv 3) (pv 4) (nomark _)) (pe_one (pc0 ff hr (by decide) (pa_cons (pv 5) pa_nil))))))), ?_⟩
    refine ⟨_, rfl, st, _, rfl, hs, rfl, _, _, rfl, _, _, rfl, _, _, rfl, _, _, rfl, rfl, ?_⟩
    unfold fits4 at q
    refine ⟨_, rfl, e1, _, h1, rfl, _, rfl, ?_⟩
    cases b1 : e1.is (Str.ofString "add") with
    | false =>
      rw [b1] at q
      exact iteT q
    | true =>
      rw [b1] at q
      refine iteF ⟨_, rfl, _, rfl, D, kvs, _, e2, rfl, hD, h2, _, rfl, ?_⟩
      cases b2 : e2.inD kvs with
      | false =>
        rw [b2] at q
        exact iteT q
      | true =>
        rw [b2] at q
        refine iteF ⟨_, rfl, _, rfl, D, kvs, _, e3, rfl, hD, h3, _, rfl, ?_⟩
        cases b3 : e3.inD kvs with
        | false =>
          rw [b3] at q
          exact iteT q
        | true =>
          rw [b3] at q
          refine iteF ?_
          cases e2 with
          | num _ => cases b2
          | odd => cases b2
          | str x =>
          cases e3 with
          | num _ => cases b3
          | odd => cases b3
          | str y =>
          obtain rfl : v2 = .str x := h2
          obtain rfl : v3 = .str y := h3
          refine ⟨_, rfl, _, rfl, rfl, _, rfl, ?_⟩
          by_cases c : x = y
          · have z : (!decide (V.str x = V.str y)) = false := by simp [c]
            have z2 : El.df (.str x) (.str y) = false := by
              show decide (x ≠ y) = false
              simp [c]
            rw [z2] at q
            rw [z]
            exact iteF q
          · have z : (!decide (V.str x = V.str y)) = true := by simp [c]
            have z2 : El.df (.str x) (.str y) = true := decide_eq_true c
            rw [z2] at q
            rw [z]
            exact iteT ⟨_, rfl, _, e4, rfl, h4, q⟩
def spFitsStepB (K : PySem.W.Frag) : Sp := fun vs H Q _ => ∃ (D : Addr) (kvs : List (Key × V)) (names : List Str) (v : V) (d : Sv), vs = [.ref D, v] ∧ H D = some (.dK kvs) ∧ (∀ x, (valV kvs (.inr x)).isSome = decide (x ∈ names)) ∧ SvAt K H v d ∧ Q (.bl (stpOf names d).isSome) H
theorem ok_fitsstepB {f : Addr} {fd : FuncData} (F : Fun K "fits_step" "fits_step" sFitsStep f fd) (mi : mg "isinstance" = none) (mt : mg "tuple" = none) (ml : mg "len" = none) (ft : Cl P w K mg base CX0 3 "fits_times" (spFitsTmB K) []) (fa : Cl P w K mg base CX0 3 "fits_add" (spFitsAddB K) []) :
    FnOk P w K mg base CX0 4 f fd ["equals", "step"] (spFitsStepB K) := by
  refine F.ok scFitsStep (fun vs H Q E h => ?_) (fun cdv A outer s H vs Q E hr h => ?_)
  · obtain ⟨_, _, _, _, _, rfl, _⟩ := h
    rfl
  · obtain ⟨D, kvs, names, v, d, rfl, hD, hx, hs, q⟩ := h
    refine ⟨_, pss_cons (ps_if (pt_not (pt_val (pe_callB call_isi (by rfl) mi boot_isinstance (pa_cons (pv 1) (pa_cons (pe_bltn (v := .ty "tuple") (u := .type "tuple") (by rfl) mt (by decide +kernel) rfl) pa_nil))))) (pss_one (ps_ret pe_bl)) pss_nil)
      (pss_cons (ps_if (pt_cmpR op_eq (pe_callB call_len_seq (by rfl) ml PySem.boot_len (pa_cons (pv 1) pa_nil)) pe_int (nomark _)) (pss_one (ps_ret (pc0 ft hr (by decide) (pa_cons (pv 0) (pa_cons (pv 1) pa_nil))))) pss_nil)
      (pss_one (ps_ret (pe_and (pe_cmpR op_eq (pe_callB call_len_seq (by rfl) ml PySem.boot_len (pa_cons (pv 1) pa_nil)) pe_int (nomark _)) (pe_one (pc0 fa hr (by decide) (pa_cons (pv 0) (pa_cons (pv 1) pa_nil)))))))), ?_⟩
    cases d with
    | odd =>
      have hk : ∃ t, TyX K H v (.type t) ∧ PySem.W.kitOne K (.type t) (.type "tuple") = some false := by
        rcases hs with rfl | ⟨b, rfl⟩ | ⟨i, rfl⟩ | ⟨x, rfl⟩ | ⟨p, xs, rfl, h⟩ | ⟨p, ks, rfl, h⟩
        · exact ⟨_, .base .non, kit_ty (by decide +kernel)⟩
        · exact ⟨_, .base (.bl b), kit_ty (by decide +kernel)⟩
        · exact ⟨_, .base (.int i), kit_ty (by decide +kernel)⟩
        · exact ⟨_, .base (.str x), kit_ty (by decide +kernel)⟩
        · exact ⟨_, .base (.lst h), kit_ty (by decide +kernel)⟩
        · exact ⟨_, .base (.dK h), kit_ty (by decide +kernel)⟩
      obtain ⟨t, h1, h2⟩ := hk
      exact ⟨_, rfl, v, .ty "tuple", .type t, .type "tuple", false, rfl, .ty _, h1, h2, _, rfl, iteT q⟩
    | tup es =>
      obtain ⟨st, vs, rfl, h1, h2⟩ := hs
      have key : ∀ b, (stpOf names (.tup es)).isSome = b → Q (.bl b) H := fun b e => by rw [e] at q; exact q
      clear q
      have hl : vs.length = es.length := Paired.length h2
      refine ⟨_, rfl, .ref st, .ty "tuple", .type "tuple", .type "tuple", true, rfl, .ty _, SqT.ty h1, kit_ty (by decide +kernel), _, rfl, iteF ?_⟩
      refine ⟨_, rfl, st, _, rfl, .inr h1, rfl, _, rfl, ite2 (fun e => ?_) (fun e => ?_)⟩
      · have l3 : vs.length = 3 := by
          have := V.int.inj (of_decide_eq_true e)
          omega
        obtain ⟨v1, v2, v3, e1, e2, e3, rfl, rfl, a1, a2, a3⟩ := paired3 h2 l3
        exact ⟨_, rfl, _, rfl, D, st, kvs, v1, v2, v3, e1, e2, e3, rfl, hD, h1, a1, a2, a3, key _ (stp3 hx e1 e2 e3)⟩
      · have l3 : vs.length ≠ 3 := fun z => e (decide_eq_true (by rw [z]; rfl))
        refine ⟨_, rfl, st, _, rfl, .inr h1, rfl, _, rfl, ?_⟩
        by_cases l4 : vs.length = 4
        · have z : decide (V.int (vs.length : Int) = V.int 4) = true := decide_eq_true (by rw [l4]; rfl)
          rw [z]
          refine iteT ?_
          obtain ⟨v1, v2, v3, v4, e1, e2, e3, e4, rfl, rfl, a1, a2, a3, a4⟩ := paired4 h2 l4
          exact ⟨_, rfl, _, rfl, D, st, kvs, v1, v2, v3, v4, e1, e2, e3, e4, rfl, hD, h1, a1, a2, a3, a4, key _ (stp4 hx e1 e2 e3 e4)⟩
        · have z : decide (V.int (vs.length : Int) = V.int 4) = false := decide_eq_false fun y => l4 (by have := V.int.inj y; omega)
          rw [z]
          exact iteF (key false (by rw [stp_len (by omega) (by omega)]; rfl))
end
end SS
namespace SS
open PySem PySem.Spec PyProof.Rows L2 NumText LamX KyS
theorem SvAt.stp {K : PySem.W.Frag} {H : Hp} {v : V} {d : Sv} {names : List Str} {t : Stp} (h : SvAt K H v d) (e : stpOf names d = some t) : StpAt K H v t := by
  unfold stpOf at e
  split at e
  · obtain ⟨s, vs, rfl, h1, h2⟩ := h
    split at e
    · rename_i c
      obtain rfl := Option.some.inj e
      cases h2 with
      | cons a h2 => cases h2 with
        | cons b h2 => cases h2 with
          | cons d h2 =>
            cases h2
            obtain ⟨n, rfl, f⟩ := d
            obtain rfl := (show _ = V.str _ from a)
            obtain rfl := (show _ = V.str _ from b)
            rw [c.1] at h1
            exact ⟨s, n, rfl, h1, f⟩
    · cases e
  · obtain ⟨s, vs, rfl, h1, h2⟩ := h
    split at e
    · rename_i c
      obtain rfl := Option.some.inj e
      cases h2 with
      | cons a h2 => cases h2 with
        | cons b h2 => cases h2 with
          | cons d h2 => cases h2 with
            | cons g h2 =>
              cases h2
              obtain ⟨n, rfl, f⟩ := g
              obtain rfl := (show _ = V.str _ from a)
              obtain rfl := (show _ = V.str _ from b)
              obtain rfl := (show _ = V.str _ from d)
              rw [c.1] at h1
              exact ⟨s, n, rfl, h1, f⟩
    · cases e
  · cases e
section
variable {P : Program} {w : World} {K : PySem.W.Frag} {mg : Str → Option Value} {base : Heap}
/-- steps of any kind: what is right at the beginning is ts; where that is not all, it is refused -/
def spSteppedB (K : PySem.W.Frag) (T : List (Addr × Str)) (C : Addr) : Sp := fun vs H Q E => ∃ (a b : Addr) (zs : List Ent) (us : List V) (ds : List Sv) (ts : List Stp) (U : List Str), vs = [.ref a, .ref b] ∧ SqA K H a (zs.map fun z => V.ref z.t) ∧ (∀ z ∈ zs, EntOk K U.length H z) ∧ (zs.map (·.x)).Nodup ∧ zs.length ≤ 400 ∧ U.length ≤ 20 ∧ LamX.Tabs T H ∧
  SqA K H b us ∧ Paired (SvAt K H) us ds ∧ ts.length ≤ ds.length ∧ (∀ (i : Nat) (t : Stp), ts[i]? = some t → ∃ d : Sv, ds[i]? = some d ∧ stpOf ((zs.filter isR).map (·.x)) d = some t) ∧ (ts.length < ds.length → ∃ d : Sv, ds[ts.length]? = some d ∧ stpOf ((zs.filter isR).map (·.x)) d = none) ∧ Way U (zs.map nr) ts ∧
  (ts.length < ds.length → ∀ H', ExtN H H' → LamX.Tabs T H' → E (.ref C) none H') ∧
  (ts.length = ds.length → ∀ (H' : Hp) (l : Addr) (es : List Ent) (L0 : List Nm), ExtN H H' → LamX.Tabs T H' → L0.Perm ((zs.map nr).filter isN) → (L0.map (·.1)).Pairwise leS → es.map nr = ts.foldl stepM L0 → H' l = some (.lst (es.map fun e => V.ref e.t)) → (∀ e ∈ es, PairE K U.length H H' e) → (es.map (·.a)).Nodup → Fr0 H l → Q (.ref l) H')
theorem ok_steppedB {f C : Addr} {fd : FuncData} {T : List (Addr × Str)} (TS : ExT K mg "NoStep" C) (F : Fun K "stepped" "stepped" sStepped f fd) (mli : mg "list" = none) (eb : Cl P w K mg base CX0 5 "equals_by_name" (spEbn K T) []) (fs : Cl P w K mg base CX0 4 "fits_step" (spFitsStepB K) []) (rb : Cl P w K mg base CX0 6 "row_behind" (spRowBehind K) []) :
    FnOk P w K mg base (L2.CX P w) 7 f fd ["rows", "steps"] (spSteppedB K T C) := by
  refine F.okX scStepped (fun vs H Q E h => ?_) (fun cdv A outer s H vs Q E hr h => ?_)
  · obtain ⟨_, _, _, _, _, _, _, rfl, _⟩ := h
    rfl
  · obtain ⟨a, b, zs, us, ds, ts, U, rfl, hS, hz, nd, hl, hU, ht, hb, hst, hle, hto, hno, way, qX, q⟩ := h
    have hu := hu_of hr
    have lst : us.length = ds.length := Paired.length hst
    refine ⟨_, pss_cons (ps_set (i := 2) scStepped.nd rfl (.inl rfl) (pc0 eb hr (by decide) (pa_cons (pv 0) pa_nil)))
        (pss_cons (ps_for (passes_of rfl) rfl (pi_seqA (K := K) rfl (pv 1)) (pg_name (i := 3) scStepped.nd rfl (.inl rfl))
          (pss_cons (ps_if (pt_not (pt_val (pc0 fs hr (by decide) (pa_cons (pv 2) (pa_cons (pv 3) pa_nil))))) (pss_one (ps_raise rfl (takes_of rfl rfl rfl rfl) (pmk_own PySem.F.excBase_ValueError TS.xC TS.gC TS.kC (raises_own TS.bC TS.tC) (by exact rfl)))) pss_nil)
          (pss_one (ps_dput hu (pv 2) (pe_ix (ix_tupK (K := K) rfl) (pv 3) pe_int (fun _ _ => rfl)) (pc0 rb hr (by decide) (pa_cons (pv 2) (pa_cons (pv 3) pa_nil))) rfl))))
        (pss_one (ps_ret (LiI.pe_listItems rfl (pv 2) (by rfl) mli (by decide +kernel))))), ?_⟩
    refine ⟨_, rfl, a, zs, U.length, rfl, hS, hz, nd, hl, by omega, ht, fun H1 D es e1 T1 N1 pm srt => ?_⟩
    have pm' : (es.map nr).Perm ((zs.map nr).filter isN) := by
      have z : (zs.filter isR).map nr = (zs.map nr).filter isN := by
        rw [List.filter_map]
        rfl
      rw [← z]
      exact pm
    have srt' : ((es.map nr).map (·.1)).Pairwise leS := by
      rw [List.map_map]
      exact srt
    obtain ⟨okT, okW⟩ := way _ pm' srt'
    have hnx : (es.map nr).map (·.1) = es.map (·.x) := by
      rw [List.map_map]
      rfl
    have nde : (es.map (·.x)).Nodup := by
      have z : (((zs.map nr).filter isN).map (·.1)).Sublist ((zs.map nr).map (·.1)) := (List.filter_sublist).map _
      have z2 : ((zs.map nr).map (·.1)).Nodup := by
        rw [List.map_map]
        exact nd
      rw [← hnx]
      exact (pm'.map _).nodup_iff.mpr (z2.sublist z)
    have lle : es.length ≤ 400 := by
      have z := pm'.length_eq
      have z2 := List.length_filter_le isN (zs.map nr)
      rw [List.length_map] at z z2
      omega
    have cur0 : Cur K U H H1 D es := ⟨N1, nde, lle, fun e he => (okW 0 (nr e) (List.mem_map.mpr ⟨e, he, rfl⟩)).1, fun e he => (okW 0 (nr e) (List.mem_map.mpr ⟨e, he, rfl⟩)).2⟩
    have names : ∀ j, ((ts.take j).foldl stepM (es.map nr)).map (·.1) = es.map (·.x) := fun j => by
      have z : ∀ (l : List Stp) (L : List Nm), (l.foldl stepM L).map (·.1) = L.map (·.1) := fun l => by
        induction l with
        | nil => intro L; rfl
        | cons t l ih =>
          intro L
          rw [List.foldl_cons, ih, stepM_names]
      rw [z, hnx]
    have hnames : ∀ (gs : List Ent), gs.map (·.x) = es.map (·.x) → ∀ x, x ∈ gs.map (·.x) ↔ x ∈ (zs.filter isR).map (·.x) := fun gs e x => by
      rw [e, ← hnx]
      have z := (pm'.map (·.1)).mem_iff (a := x)
      have fN : ((zs.map nr).filter isN).map (·.1) = (zs.filter isR).map (·.x) := by
        have : (zs.map nr).filter isN = (zs.filter isR).map nr := by
          rw [List.filter_map]
          rfl
        rw [this, List.map_map]
        rfl
      rw [fN] at z
      exact z
    refine for_seq (K := K) (b := b) (xs := us) rfl (fun i σ H' => ∃ (y3 : Option V) (gs : List Ent), σ = [some (.ref a), some (.ref b), some (.ref D), y3] ∧ (∀ x o, x ≠ D → H1 x = some o → H' x = some o) ∧ Cur K U H H' D gs ∧ gs.map nr = (ts.take i).foldl stepM (es.map nr) ∧ i ≤ ts.length)
      ⟨none, es, rfl, fun x o _ e => e, cur0, rfl, Nat.zero_le _⟩ ?_ ?_ ?_
    · have bD : ∀ {H' : Hp}, (∀ x o, x ≠ D → H1 x = some o → H' x = some o) → ExtN H H' := fun k b o eb nt => k _ _ (N1.2.2.2.ne eb nt) (e1 _ _ eb nt)
      rcases hb with hb | hb
      · exact .inl fun j σ' H' ⟨_, _, _, k, _⟩ => KyS.SqL.extN hb (bD k)
      · exact .inr fun j σ' H' ⟨_, _, _, k, _⟩ => KyS.SqT.extN hb (bD k)
    · rintro i v σ H' hv ⟨y3, gs, rfl, k1, cur, hg, hit⟩
      have x01 : ExtN H H' := fun b o eb nt => k1 _ _ (N1.2.2.2.ne eb nt) (e1 _ _ eb nt)
      obtain ⟨d, hdi, hsv⟩ := (paired_get hst).2 i v hv
      have sv' := hsv.kl (KLs.ext x01)
      have hgx : gs.map (·.x) = es.map (·.x) := by
        have z := names i
        rw [← hg, List.map_map] at z
        exact z
      have hval : ∀ x, (valV (gs.map fun e => ((Sum.inr e.x : Key), V.ref e.r)) (.inr x)).isSome = decide (x ∈ (zs.filter isR).map (·.x)) := fun x => by
        have z := hnames gs hgx x
        by_cases c : x ∈ gs.map (·.x)
        · obtain ⟨g, hg', rfl⟩ := List.mem_map.mp c
          rw [val_ent cur.nd hg', decide_eq_true (z.mp c)]
          rfl
        · rw [val_ents c, decide_eq_false fun y => c (z.mpr y)]
          rfl
      by_cases il : ¬ i < ts.length
      · have eit : i = ts.length := by omega
        have ilt : ts.length < ds.length := by
          have := (List.getElem?_eq_some_iff.mp hdi).1
          omega
        obtain ⟨d0, hd0, ed0⟩ := hno ilt
        rw [← eit, hdi] at hd0
        have ed : stpOf ((zs.filter isR).map (·.x)) d = none := by rw [Option.some.inj hd0]; exact ed0
        refine ⟨_, rfl, _, rfl, D, _, (zs.filter isR).map (·.x), v, d, rfl, cur.d.1, hval, sv', _, rfl, ?_⟩
        rw [ed]
        refine iteT (qX ilt H' x01 ?_)
        intro p hp
        obtain ⟨ps, a1, a2, a3⟩ := T1 p hp
        refine ⟨ps, k1 _ _ (ne_of a1 N1.1 (fun z => by cases z)) a1, a2, fun pos cv hcv => ?_⟩
        obtain ⟨c0, f1, f2⟩ := a3 pos cv hcv
        exact ⟨c0, f1, k1 _ _ (ne_of f2 N1.1 (fun z => by unfold CodeO at z; cases z)) f2⟩
      have il' : i < ts.length := Classical.byContradiction il
      obtain ⟨t, hti⟩ : ∃ t, ts[i]? = some t := ⟨ts[i], List.getElem?_eq_getElem il'⟩
      obtain ⟨d0, hd0, ed0⟩ := hto i t hti
      rw [hdi] at hd0
      have ed : stpOf ((zs.filter isR).map (·.x)) d = some t := by rw [Option.some.inj hd0]; exact ed0
      have st' := sv'.stp ed
      have okt := okT t (List.mem_of_getElem? hti)
      rw [hnx, ← hgx] at okt
      obtain ⟨n1, n2, n3⟩ := okt.nm
      obtain ⟨e, he, hx⟩ := List.mem_map.mp n1
      obtain ⟨g, hgm, hx2⟩ := List.mem_map.mp n2
      have v1 := val_ent cur.nd he
      rw [hx] at v1
      have v2 := val_ent cur.nd hgm
      rw [hx2] at v2
      have tk : (ts.take (i + 1)).foldl stepM (es.map nr) = stepM (gs.map nr) t := by
        rw [List.take_add_one, hti, hg, List.foldl_append]
        rfl
      have l2 : look (gs.map nr) t.nm2 = g.R := by
        rw [← hx2]
        exact nr_look cur.nd hgm
      have okS : (e.R.step g.R t).In U ∧ (e.R.step g.R t).Okb 1400 := by
        refine okW (i + 1) (e.x, e.R.step g.R t) ?_
        rw [tk]
        refine List.mem_map.mpr ⟨nr e, List.mem_map.mpr ⟨e, he, rfl⟩, ?_⟩
        show (if e.x = t.nm then (e.x, e.R.step (look (gs.map nr) t.nm2) t) else nr e) = _
        rw [if_pos hx, l2]
      obtain ⟨r1, _⟩ := cur.d.2.1 e he
      obtain ⟨r2, _⟩ := cur.d.2.1 g hgm
      refine ⟨_, rfl, _, rfl, D, _, (zs.filter isR).map (·.x), v, d, rfl, cur.d.1, hval, sv', _, rfl, ?_⟩
      rw [ed]
      refine iteF ?_
      refine ⟨_, rfl, _, rfl, D, _, v, t, e.r, e.a, g.r, g.a, e.R, g.R, U.length, rfl, cur.d.1, st', v1, v2, r1, r2, hU, cur.ok e he, cur.ok g hgm, n3, okS.2, fun H2 r' a' s2 nr' na' row => ?_⟩
      obtain ⟨ss, xs, ev, hxs, hat⟩ := (st'.extN (ExtN.same s2)).one
      have step := cur.step he hgm hx hx2 s2 nr' na' x01 row okS.2 okS.1
      refine ⟨_, rfl, _, rfl, ss, xs, 1, _, ev, rfl, hxs, hat, D, _, rfl, DPut.k (k := .inr t.nm) (s2 _ _ cur.d.1) (small1000 (by rw [List.length_map]; have := cur.ln; omega)), _, _, rfl, fun x o n eb => ?_, step.1, by rw [step.2, tk], il'⟩
      rw [upd_ne n]
      exact s2 _ _ (k1 x o n eb)
    · rintro σ H' ⟨y3, gs, rfl, k1, cur, hg, hit⟩
      have x01 : ExtN H H' := fun b o eb nt => k1 _ _ (N1.2.2.2.ne eb nt) (e1 _ _ eb nt)
      have etl : ts.length = ds.length := by omega
      rw [List.take_of_length_le (by omega)] at hg
      refine ⟨_, rfl, D, _, rfl, cur.d.1, fun H2 l pts s2 nl2 _ _ hl2 pd => ?_⟩
      obtain ⟨es', q1, q2, q3, q4⟩ := pairs_of gs pts pd
      refine q etl H2 l es' (es.map nr) (x01.trans (ExtN.same s2)) ?_ pm' srt' (by rw [q1, hg]) (by rw [hl2, ← q2]) (fun e he => ?_) (by rw [q3]; exact cur.d.2.2.1) (Fr0.back x01 (Fr0.of nl2))
      · intro p hp
        obtain ⟨ps, a1, a2, a3⟩ := T1 p hp
        refine ⟨ps, s2 _ _ (k1 _ _ (ne_of a1 N1.1 (fun z => by cases z)) a1), a2, fun pos cv hcv => ?_⟩
        obtain ⟨c0, f1, f2⟩ := a3 pos cv hcv
        exact ⟨c0, f1, s2 _ _ (k1 _ _ (ne_of f2 N1.1 (fun z => by unfold CodeO at z; cases z)) f2)⟩
      · obtain ⟨a1, g, hg', a2, a3, a4⟩ := q4 e he
        obtain ⟨r1, f1, _⟩ := cur.d.2.1 g hg'
        rw [a2, a3, a4] at r1
        rw [a4] at f1
        exact ⟨a1, r1.extN (ExtN.same s2), f1⟩
end
end SS
namespace SS
open PySem PySem.Spec PyProof.Rows L2 NumText LamX KyS
theorem op_in_K {X : Cx} {K : PySem.W.Frag} (hK : K = X.K) : OpR X (compareOp .In) (rIn K false) := by
  subst hK
  exact op_in_seq
def cutE {α : Type} (xs : List α) (lo hi : Option Int) : List α := (xs.drop (HT.sIx xs.length 0 lo)).take (HT.sIx xs.length xs.length hi - HT.sIx xs.length 0 lo)
theorem paired_drop {α β : Type} {R : α → β → Prop} : ∀ {n : Nat} {xs : List α} {ys : List β}, Paired R xs ys → Paired R (xs.drop n) (ys.drop n)
  | 0, _, _, h => h
  | _ + 1, _, _, .nil => .nil
  | n + 1, _, _, .cons _ p => paired_drop (n := n) p
theorem paired_take {α β : Type} {R : α → β → Prop} : ∀ {n : Nat} {xs : List α} {ys : List β}, Paired R xs ys → Paired R (xs.take n) (ys.take n)
  | 0, _, _, _ => .nil
  | _ + 1, _, _, .nil => .nil
  | n + 1, _, _, .cons a p => .cons a (paired_take (n := n) p)
theorem paired_cut {R : V → El → Prop} {xs : List V} {ys : List El} (h : Paired R xs ys) (lo hi : Option Int) : Paired R (cutV xs lo hi) (cutE ys lo hi) := by
  unfold cutV cutE
  have := Paired.length h
  rw [this]
  exact paired_take (paired_drop h)
theorem cutE_mem {α : Type} {xs : List α} {lo hi : Option Int} {x : α} (h : x ∈ cutE xs lo hi) : x ∈ xs := List.mem_of_mem_drop (List.mem_of_mem_take h)
def El.isS : El → Bool
  | .str _ => true
  | _ => false
def El.inN (names : List Str) : El → Bool
  | .str x => decide (x ∈ names)
  | _ => false
section
variable {P : Program} {w : World} {K : PySem.W.Frag} {mg : Str → Option Value} {base : Heap}
theorem ok_wholeB {f : Addr} {fd : FuncData} {k : Nat} (F : Fun K "_law_whole" "_law_whole" sWhole f fd) (mi : mg "isinstance" = none) (mn : mg "int" = none) (mb : mg "bool" = none) : FnOk P w K mg base CX0 (k + 1) f fd ["_law_thing"] (spFWhole K) := by
  refine F.ok scWhole (fun vs H Q E h => ?_) (fun cdv A outer s H vs Q E hr h => ?_)
  · obtain ⟨a, b, rfl, _⟩ := h
    rfl
  · obtain ⟨v, b, rfl, hv, q⟩ := h
    refine ⟨_, pss_one (ps_ret (pe_and (pe_callB call_isi (by rfl) mi boot_isinstance (pa_cons (pv 0) (pa_cons (pe_bltn (v := .ty "int") (u := .type "int") (by rfl) mn (by decide +kernel) rfl) pa_nil)))
      (pe_one (pe_not (pe_callB call_isi (by rfl) mi boot_isinstance (pa_cons (pv 0) (pa_cons (pe_bltn (v := .ty "bool") (u := .type "bool") (by rfl) mb (by decide +kernel) rfl) pa_nil))))))), ?_⟩
    rcases hv with ⟨i, rfl, rfl⟩ | ⟨t, rfl, rfl⟩ | ⟨t, ho, rfl⟩
    · refine ⟨_, rfl, .int i, .ty "int", .type "int", .type "int", true, rfl, .ty _, .base (.int i), kit_ty (by decide +kernel), _, rfl, iteT ?_⟩
      exact ⟨_, rfl, .int i, .ty "bool", .type "int", .type "bool", false, rfl, .ty _, .base (.int i), kit_ty (by decide +kernel), _, rfl, q⟩
    · refine ⟨_, rfl, .bl t, .ty "int", .type "bool", .type "int", true, rfl, .ty _, .base (.bl t), kit_ty (by decide +kernel), _, rfl, iteT ?_⟩
      exact ⟨_, rfl, .bl t, .ty "bool", .type "bool", .type "bool", true, rfl, .ty _, .base (.bl t), kit_ty (by decide +kernel), _, rfl, q⟩
    · exact ⟨_, rfl, v, .ty "int", .type t, .type "int", false, rfl, .ty _, ho.ty, odd_kit ho, _, rfl, iteF q⟩
def spIsfE (K : PySem.W.Frag) : Sp := fun vs H Q _ => ∃ v e, vs = [v] ∧ ElAt K H v e ∧ ∀ H', Same H H' → Q (.bl e.fr) H'
theorem ok_isfE {f : Addr} {fd : FuncData} (F : Fun K "_law_is_fraction" "_law_is_fraction" sIsf f fd) (mi : mg "isinstance" = none) (mt : mg "tuple" = none) (ml : mg "len" = none) (ma : mg "all" = none)
    (wh : Cl P w K mg base CX0 1 "_law_whole" (spFWhole K) []) (sh : Cl P w K mg base CX0 1 "_law_shared" spGcd []) : FnOk P w K mg base CX0 2 f fd ["_law_thing"] (spIsfE K) := by
  refine F.ok scIsf (fun vs H Q E h => ?_) (fun cdv A outer s H vs Q E hr h => ?_)
  · obtain ⟨a, _, rfl, _⟩ := h
    rfl
  · obtain ⟨v, e, rfl, hv, q⟩ := h
    refine ⟨_, pss_cons (ps_if (PW.pt (pw_or (pt_not (pt_val (pe_callB call_isi (by rfl) mi boot_isinstance (pa_cons (pv 0) (pa_cons (pe_bltn (v := .ty "tuple") (u := .type "tuple") (by rfl) mt (by decide +kernel) rfl) pa_nil)))))
        (pw_or (pt_cmpR op_ne (pe_callB call_len_seq (by rfl) ml PySem.boot_len (pa_cons (pv 0) pa_nil)) pe_int (nomark _))
        (pw_or1 (pt_not (pt_val (pe_callB (cr_all rfl) (by rfl) ma boot_all (pa_cons
          (pe_lc (own := [("_law_part", 1)]) (g := gName 1) (tt := tYes) rfl scIsf.nd (pi_tup (pv 0)) (blkOk_by (N := ["_law_thing", "_law_part"]) (sc := defScope sIsf) (by decide +kernel))
            (fun _ _ _ _ _ => pg_name (i := 1) scIsf.nd rfl (Or.inl rfl)) (fun _ _ _ _ _ => pts_nil) (fun _ _ _ _ _ => pc0 wh hr (by decide) (pa_cons (pv 1) pa_nil))) pa_nil))))))))
        (pss_one (ps_ret pe_bl)) pss_nil)
      (pss_one (ps_ret (pe_and (pe_cmpR op_gt (pe_ix ix_tup (pv 0) pe_int (fun _ _ => rfl)) pe_int (nomark _))
        (pe_one (pe_cmpR op_eq (pc0 sh hr (by decide) (pa_cons (pe_ix ix_tup (pv 0) pe_int (fun _ _ => rfl)) (pa_cons (pe_ix ix_tup (pv 0) pe_int (fun _ _ => rfl)) pa_nil))) pe_int (nomark _)))))), ?_⟩
    rcases hv.noT with ⟨t, h1, h2, ef⟩ | ⟨p, xs, rfl, hs, hv⟩
    · rw [ef] at q
      exact ⟨_, rfl, v, .ty "tuple", .type t, .type "tuple", false, rfl, .ty _, h1, h2, _, rfl, iteT (q _ (Same.refl _))⟩
    · refine ⟨_, rfl, .ref p, .ty "tuple", .type "tuple", .type "tuple", true, rfl, .ty _, SqT.ty hs, kit_ty (by decide +kernel), _, rfl, iteF ?_⟩
      rcases hv with ⟨hl, ef⟩ | ⟨x, y, bx, cy, rfl, w1, w2, hv⟩
      · rw [ef] at q
        refine ⟨_, rfl, p, _, rfl, .inr hs, rfl, true, ?_, iteT (q _ (Same.refl _))⟩
        refine congrArg V.bl ?_
        rw [decide_eq_false fun z => hl (by have := V.int.inj z; omega)]
        rfl
      · refine ⟨_, rfl, p, _, rfl, .inr hs, rfl, _, rfl, iteNS rfl ?_⟩
        refine ⟨_, rfl, p, rfl, ⟨_, hs⟩, fun D nD => lc_tup (K := K) (a := p) (xs := [x, y]) (fun i H' => H' D = some (.lst (([bx, cy].take i).map V.bl)) ∧ ∀ b o, b ≠ D → H b = some o → H' b = some o)
          ⟨upd_same, fun b o nb e => by rw [upd_ne nb]; exact e⟩ (fun i H' _ hW => SqT.kl hs (KLs.same (fun b o e => hW.2 b o (ne_of_none e nD) e))) ?_ ?_⟩
        · rintro i z H' hx ⟨u1, u2⟩
          obtain ⟨bz, wz, ez⟩ : ∃ bz, WhB K H' z bz ∧ [bx, cy].take (i + 1) = [bx, cy].take i ++ [bz] := by
            match i, hx with
            | 0, hx =>
              rw [← Option.some.inj hx]
              exact ⟨bx, whF_B w1, rfl⟩
            | 1, hx =>
              rw [← Option.some.inj hx]
              exact ⟨cy, whF_B w2, rfl⟩
          refine ⟨rfl, _, rfl, z, bz, rfl, wz, _, u1, ?_, ?_, ?_⟩
          · rw [List.length_map]
            have l2 : ([bx, cy].take i).length ≤ 2 := Nat.le_trans (List.length_take_le' i [bx, cy]) (Nat.le_refl 2)
            exact small1000 (by omega)
          · rw [upd_same, ez, List.map_append]
            rfl
          · intro b o nb e
            rw [upd_ne nb]
            exact u2 b o nb e
        · rintro H' ⟨u1, u2⟩
          have sm : Same H H' := fun b o e => u2 b o (ne_of_none e nD) e
          refine ⟨D, [bx, cy], rfl, SqL.of u1, _, rfl, ?_⟩
          rcases hv with ⟨z, ef⟩ | ⟨n, d, rfl, rfl, ef⟩
          · have ea : [bx, cy].all id = false := by
              show (bx && (cy && true)) = false
              rw [Bool.and_true]
              exact z
            rw [ea]
            rw [ef] at q
            exact iteT (q _ sm)
          · have b1 : bx = true := by
              rcases w1 with ⟨_, _, e⟩ | ⟨⟨_, e⟩ | ⟨_, e⟩, _⟩
              · exact e
              · cases e
              · cases e
            have b2 : cy = true := by
              rcases w2 with ⟨_, _, e⟩ | ⟨⟨_, e⟩ | ⟨_, e⟩, _⟩
              · exact e
              · cases e
              · cases e
            subst b1 b2
            refine iteF ?_
            rw [ef] at q
            have hp' := SqT.kl hs (KLs.same sm)
            refine ⟨_, rfl, p, _, 1, _, rfl, rfl, hp', atI_nat (j := 1) rfl, d, 0, rfl, rfl, _, rfl, ?_⟩
            by_cases c : (0 : Int) < d
            · rw [decide_eq_true c]
              refine iteT ⟨_, rfl, p, _, 0, _, rfl, rfl, hp', atI_nat (j := 0) rfl, _, rfl, p, _, 1, _, rfl, rfl, hp', atI_nat (j := 1) rfl, n, d, rfl, rfl, ?_⟩
              have e : decide (1 ≤ d ∧ Int.gcd n d = 1) = decide (V.int ((Int.gcd n d : Nat) : Int) = V.int 1) := decide_eq_decide.mpr ⟨fun z => by rw [z.2]; rfl, fun z => ⟨by omega, by have := V.int.inj z; omega⟩⟩
              rw [e] at q
              exact q _ sm
            · rw [decide_eq_false c]
              rw [decide_eq_false fun z => c (by omega)] at q
              exact iteF (q _ sm)
end
/-! ### the look, plainly -/
def lookS (names : List Str) (es : List El) (eL : El) : Bool :=
  (cutE es none (some (-1))).all El.isS && (eL.fr && (cutE es (some 1) (some (-1))).all (El.inN names))
theorem look3 {names : List Str} (e0 e1 e2 : El) (h : lookS names [e0, e1, e2] e2 = true) : ∃ w x c, e0 = .str w ∧ e1 = .str x ∧ e2 = .num c ∧ (stpOf names (.tup [e0, e1, e2])).isSome = (decide (w = Str.ofString "times") && decide (c.1 ≠ 0)) := by
  have h' : ((e0.isS && (e1.isS && true)) && (e2.fr && (e1.inN names && true))) = true := h
  cases e0 with
  | num _ => simp [El.isS] at h'
  | odd => simp [El.isS] at h'
  | str w =>
  cases e1 with
  | num _ => simp [El.isS] at h'
  | odd => simp [El.isS] at h'
  | str x =>
  cases e2 with
  | str _ => simp [El.fr] at h'
  | odd => simp [El.fr] at h'
  | num c =>
  simp only [El.isS, El.fr, El.inN, Bool.true_and, Bool.and_true, Bool.and_eq_true, decide_eq_true_eq] at h'
  refine ⟨w, x, c, rfl, rfl, rfl, ?_⟩
  by_cases a1 : w = Str.ofString "times" <;> by_cases a4 : c.1 ≠ 0 <;> simp [stpOf, a1, a4, h'.1, h'.2]
theorem look4 {names : List Str} (e0 e1 e2 e3 : El) (h : lookS names [e0, e1, e2, e3] e3 = true) : ∃ w x y c, e0 = .str w ∧ e1 = .str x ∧ e2 = .str y ∧ e3 = .num c ∧ (stpOf names (.tup [e0, e1, e2, e3])).isSome = (decide (w = Str.ofString "add") && decide (x ≠ y)) := by
  have h' : ((e0.isS && (e1.isS && (e2.isS && true))) && (e3.fr && (e1.inN names && (e2.inN names && true)))) = true := h
  cases e0 with
  | num _ => simp [El.isS] at h'
  | odd => simp [El.isS] at h'
  | str w =>
  cases e1 with
  | num _ => simp [El.isS] at h'
  | odd => simp [El.isS] at h'
  | str x =>
  cases e2 with
  | num _ => simp [El.isS] at h'
  | odd => simp [El.isS] at h'
  | str y =>
  cases e3 with
  | str _ => simp [El.fr] at h'
  | odd => simp [El.fr] at h'
  | num c =>
  simp only [El.isS, El.fr, El.inN, Bool.true_and, Bool.and_true, Bool.and_eq_true, decide_eq_true_eq] at h'
  refine ⟨w, x, y, c, rfl, rfl, rfl, rfl, ?_⟩
  by_cases a1 : w = Str.ofString "add" <;> by_cases a4 : x ≠ y <;> simp [stpOf, a1, a4, h'.1, h'.2]
theorem look_no {names : List Str} {es : List El} {eL : El} (hl : es.getLast? = some eL) (h : lookS names es eL = false) : stpOf names (.tup es) = none := by
  unfold stpOf
  split
  · rename_i w x c e
    injection e with e
    subst e
    obtain rfl : eL = .num c := (Option.some.inj hl).symm
    have h' : ((true && (true && true)) && (frD c && (decide (x ∈ names) && true))) = false := h
    rw [if_neg]
    rintro ⟨_, a, b, _⟩
    rw [b, decide_eq_true a] at h'
    cases h'
  · rename_i w x y c e
    injection e with e
    subst e
    obtain rfl : eL = .num c := (Option.some.inj hl).symm
    have h' : ((true && (true && (true && true))) && (frD c && (decide (x ∈ names) && (decide (y ∈ names) && true)))) = false := h
    rw [if_neg]
    rintro ⟨_, a, b, _, d⟩
    rw [d, decide_eq_true a, decide_eq_true b] at h'
    cases h'
  · rfl
end SS
namespace SS
open PySem PySem.Spec PyProof.Rows L2 NumText LamX KyS
theorem sub_str : ∀ {es : List El}, es.length = 3 ∨ es.length = 4 → (cutE es none (some (-1))).all El.isS = true → ∀ e ∈ cutE es (some 1) (some (-1)), ∃ x, e = .str x
  | [a, b, c], _, h, e, he => by
    have h' : (a.isS && (b.isS && true)) = true := h
    have he' : e ∈ [b] := he
    obtain rfl := List.mem_singleton.mp he'
    cases e with
    | str x => exact ⟨x, rfl⟩
    | num _ => simp [El.isS] at h'
    | odd => simp [El.isS] at h'
  | [a, b, c, d], _, h, e, he => by
    have h' : (a.isS && (b.isS && (c.isS && true))) = true := h
    have he' : e ∈ [b, c] := he
    simp only [List.mem_cons, List.not_mem_nil, or_false] at he'
    rw [Bool.and_true, Bool.and_eq_true, Bool.and_eq_true] at h'
    have : e.isS = true := by
      rcases he' with rfl | rfl
      · exact h'.2.1
      · exact h'.2.2
    cases e with
    | str x => exact ⟨x, rfl⟩
    | num _ => cases this
    | odd => cases this
  | [], h, _, _, _ => by simp at h
  | [_], h, _, _, _ => by simp at h
  | [_, _], h, _, _, _ => by simp at h
  | _ :: _ :: _ :: _ :: _ :: _, h, _, _, _ => by simp at h
theorem call_isiQ {X : Cx} {K : PySem.W.Frag} (hK : K = X.K) : CallR X (.builtin "isinstance") (rIsi K) := by
  subst hK
  exact call_isi
section
variable {P : Program} {w : World} {K : PySem.W.Frag} {mg : Str → Option Value} {base : Heap}
/-! ### _law_is_step -/
def spIsStep (K : PySem.W.Frag) : Sp := fun vs H Q _ => ∃ (v : V) (nl : Addr) (d : Sv) (names : List Str), vs = [v, .ref nl] ∧ SvAt K H v d ∧ H nl = some (.lst (names.map V.str)) ∧ ∀ H', Same H H' → Q (.bl (stpOf names d).isSome) H'
theorem scIsStep : FnScope ["_law_step", "_law_names_here", "_law_part", "_law_name"] ["_law_step", "_law_names_here"] (defScope sIsStep) := ⟨rfl, rfl, rfl, by decide +kernel, rfl, by decide +kernel, by decide +kernel⟩
set_option maxHeartbeats 1000000 in
theorem ok_isstep {f : Addr} {fd : FuncData} (F : Fun K "_law_is_step" "_law_is_step" sIsStep f fd) (mi : mg "isinstance" = none) (mt : mg "tuple" = none) (mst : mg "str" = none) (ml : mg "len" = none) (ma : mg "all" = none)
    (isf : Cl P w K mg base CX0 2 "_law_is_fraction" (spIsfE K) []) : FnOk P w K mg base CX0 3 f fd ["_law_step", "_law_names_here"] (spIsStep K) := by
  refine F.ok scIsStep (fun vs H Q E h => ?_) (fun cdv A outer s H vs Q E hr h => ?_)
  · obtain ⟨_, _, _, _, rfl, _⟩ := h
    rfl
  · obtain ⟨v, nl, d, names, rfl, hs, hn, q⟩ := h
    refine ⟨_, pss_cons (ps_if (PW.pt (pw_or (pt_not (pt_val (pe_callB call_isi (by rfl) mi boot_isinstance (pa_cons (pv 0) (pa_cons (pe_bltn (v := .ty "tuple") (u := .type "tuple") (by rfl) mt (by decide +kernel) rfl) pa_nil)))))
        (pw_or1 (pt_cmpR op_notIn_seq (pe_callB call_len_seq (by rfl) ml PySem.boot_len (pa_cons (pv 0) pa_nil)) (pe_tup (pa_cons pe_int (pa_cons pe_int pa_nil))) (by rfl))))) (pss_one (ps_ret pe_bl)) pss_nil)
      (pss_cons (ps_if (pt_not (pt_val (pe_callB (cr_all rfl) (by rfl) ma boot_all (pa_cons (pe_lc (own := [("_law_part", 2)]) (g := gName 2) (tt := tYes) rfl scIsStep.nd (pi_tup (pe_slice sl_tup (pv 0) po_none (po_some (pe_un un_neg pe_int)))) (blkOk_by (by rfl))
          (fun _ _ _ _ _ => pg_name (i := 2) scIsStep.nd rfl (Or.inl rfl)) (fun _ _ _ _ _ => pts_nil)
          (fun _ _ _ _ _ => pe_callB (call_isiQ (K := K) rfl) (by rfl) mi boot_isinstance (pa_cons (pv 2) (pa_cons (pe_bltn (v := .ty "str") (u := .type "str") (by rfl) mst (by decide +kernel) rfl) pa_nil)))) pa_nil)))) (pss_one (ps_ret pe_bl)) pss_nil)
      (pss_cons (ps_if (PW.pt (pw_or (pt_not (pt_val (pc0 isf hr (by decide) (pa_cons (pe_ix ix_tup (pv 0) (pe_un un_neg pe_int) (fun _ _ => rfl)) pa_nil))))
        (pw_or1 (pt_not (pt_val (pe_callB (cr_all rfl) (by rfl) ma boot_all (pa_cons (pe_lc (own := [("_law_name", 3)]) (g := gName 3) (tt := tYes) rfl scIsStep.nd (pi_tup (pe_slice sl_tup (pv 0) (po_some pe_int) (po_some (pe_un un_neg pe_int)))) (blkOk_by (by rfl))
          (fun _ _ _ _ _ => pg_name (i := 3) scIsStep.nd rfl (Or.inl rfl)) (fun _ _ _ _ _ => pts_nil)
          (fun _ _ _ _ _ => pe_cmpR (op_in_K (K := K) rfl) (pv 3) (pv 1) (by rfl))) pa_nil))))))) (pss_one (ps_ret pe_bl)) pss_nil)
      (pss_cons (ps_if (pt_cmpR op_eq (pe_ix ix_tup (pv 0) pe_int (fun _ _ => rfl)) pe_str (nomark _)) (pss_one (ps_ret (pe_and (pe_cmpR op_eq (pe_callB call_len_seq (by rfl) ml PySem.boot_len (pa_cons (pv 0) pa_nil)) pe_int (nomark _))
        (pe_one (pe_cmpR op_ne (pe_ix ix_tup (pe_ix ix_tup (pv 0) pe_int (fun _ _ => rfl)) pe_int (fun _ _ => rfl)) pe_int (nomark _)))))) pss_nil)
      (pss_one (ps_ret (pe_and (pe_cmpR op_eq (pe_ix ix_tup (pv 0) pe_int (fun _ _ => rfl)) pe_str (nomark _)) (pe_and (pe_cmpR op_eq (pe_callB call_len_seq (by rfl) ml PySem.boot_len (pa_cons (pv 0) pa_nil)) pe_int (nomark _))
        (pe_one (pe_cmpR op_ne (pe_ix ix_tup (pv 0) pe_int (fun _ _ => rfl)) (pe_ix ix_tup (pv 0) pe_int (fun _ _ => rfl)) (nomark _)))))))))), ?_⟩
    cases d with
    | odd =>
      have hk : ∃ t, TyX K H v (.type t) ∧ PySem.W.kitOne K (.type t) (.type "tuple") = some false := by
        rcases hs with rfl | ⟨b, rfl⟩ | ⟨i, rfl⟩ | ⟨x, rfl⟩ | ⟨p, xs, rfl, h⟩ | ⟨p, ks, rfl, h⟩
        · exact ⟨_, .base .non, kit_ty (by decide +kernel)⟩
        · exact ⟨_, .base (.bl b), kit_ty (by decide +kernel)⟩
        · exact ⟨_, .base (.int i), kit_ty (by decide +kernel)⟩
        · exact ⟨_, .base (.str x), kit_ty (by decide +kernel)⟩
        · exact ⟨_, .base (.lst h), kit_ty (by decide +kernel)⟩
        · exact ⟨_, .base (.dK h), kit_ty (by decide +kernel)⟩
      obtain ⟨t, h1, h2⟩ := hk
      exact ⟨_, rfl, v, .ty "tuple", .type t, .type "tuple", false, rfl, .ty _, h1, h2, _, rfl, iteT (q _ (Same.refl _))⟩
    | tup es =>
      obtain ⟨st, vs, rfl, h1, h2⟩ := hs
      have hl : vs.length = es.length := Paired.length h2
      have key : ∀ b, (stpOf names (.tup es)).isSome = b → ∀ H', Same H H' → Q (.bl b) H' := fun b e => by rw [e] at q; exact q
      clear q
      refine ⟨_, rfl, .ref st, .ty "tuple", .type "tuple", .type "tuple", true, rfl, .ty _, SqT.ty h1, kit_ty (by decide +kernel), _, rfl, iteF ?_⟩
      refine ⟨_, rfl, st, _, rfl, .inr h1, (by show 2 ≤ sizeLine; decide), fun p0 np0 => ?_⟩
      have s0 := same_new (o := .tup [.int 3, .int 4]) np0
      refine ⟨p0, _, rfl, .inr (SqT.of upd_same), rfl, rfl, _, rfl, ?_⟩
      have hin : inV (V.int (vs.length : Int)) [.int 3, .int 4] = decide (vs.length = 3 ∨ vs.length = 4) := by
        show ((eqV (V.int 3) (V.int (vs.length : Int))) || ((eqV (V.int 4) (V.int (vs.length : Int))) || false)) = _
        by_cases a : vs.length = 3
        · rw [a]
          rfl
        · by_cases b : vs.length = 4
          · rw [b]
            rfl
          · rw [decide_eq_false (by omega)]
            have e3 : eqV (V.int 3) (V.int (vs.length : Int)) = false := by
              simp [eqV]
              omega
            have e4 : eqV (V.int 4) (V.int (vs.length : Int)) = false := by
              simp [eqV]
              omega
            rw [e3, e4]
            rfl
      have gt : (if true = true then !inV (V.int (vs.length : Int)) [.int 3, .int 4] else inV (V.int (vs.length : Int)) [.int 3, .int 4]) = !decide (vs.length = 3 ∨ vs.length = 4) := by rw [if_pos rfl, hin]
      by_cases l34 : vs.length = 3 ∨ vs.length = 4
      case neg =>
        have z : (!inV (V.int (vs.length : Int)) [.int 3, .int 4]) = true := by
          rw [hin, decide_eq_false l34]
          rfl
        refine (show (if (!inV (V.int (vs.length : Int)) [.int 3, .int 4]) = true then _ else _) from ?_)
        rw [z]
        exact iteT (key false (by rw [stp_len (by omega) (by omega)]; rfl) _ s0)
      case pos =>
        have z : (!inV (V.int (vs.length : Int)) [.int 3, .int 4]) = false := by
          rw [hin, decide_eq_true l34]
          rfl
        refine (show (if (!inV (V.int (vs.length : Int)) [.int 3, .int 4]) = true then _ else _) from ?_)
        rw [z]
        refine iteF ?_
        have l34' : es.length = 3 ∨ es.length = 4 := by omega
        obtain ⟨vL, eL, hat, hgl, hEL⟩ : ∃ vL eL, atI vs (-1) = some vL ∧ es.getLast? = some eL ∧ ElAt K H vL eL := by
          rcases l34 with l | l
          · obtain ⟨v1, v2, v3, e1, e2, e3, rfl, rfl, a1, a2, a3⟩ := paired3 h2 l
            exact ⟨v3, e3, rfl, rfl, a3⟩
          · obtain ⟨v1, v2, v3, v4, e1, e2, e3, e4, rfl, rfl, a1, a2, a3, a4⟩ := paired4 h2 l
            exact ⟨v4, e4, rfl, rfl, a4⟩
        have no : lookS names es eL = false → ∀ H', Same H H' → Q (.bl false) H' := fun z => key false (by rw [look_no hgl z]; rfl)
        have h10 := SqT.kl h1 (KLs.same s0)
        -- the parts but the last
        refine ⟨_, rfl, 1, rfl, -1, rfl, st, _, rfl, h10, ?_, fun p1 np1 => ?_⟩
        · rintro ⟨_, y⟩
          have e : HT.sIx vs.length vs.length (some (-1)) = ((-1 : Int) + (vs.length : Int)).toNat := rfl
          rw [e] at y
          omega
        have s1 := same_new (o := .tup (cutV vs none (some (-1)))) np1
        refine ⟨p1, rfl, ⟨_, SqT.of upd_same⟩, fun D nD => ?_⟩
        have hp1 := upd_same (H := upd H p0 (.tup [.int 3, .int 4])) (a := p1) (o := .tup (cutV vs none (some (-1))))
        have S1 := s0.trans s1
        generalize upd (upd H p0 (.tup [.int 3, .int 4])) p1 (.tup (cutV vs none (some (-1)))) = H1 at hp1 S1 nD ⊢
        clear s0 s1 np0 np1
        have pc1 := paired_cut h2 none (some (-1))
        have lc1 := Paired.length pc1
        have ln1 : (cutE es none (some (-1))).length ≤ 10 := by
          rw [← lc1]
          have := cutV_length vs none (some (-1))
          omega
        refine lc_tup (K := K) (a := p1) (xs := cutV vs none (some (-1))) (fun j H' => H' D = some (.lst ((((cutE es none (some (-1))).take j).map El.isS).map V.bl)) ∧ ∀ b o, b ≠ D → H1 b = some o → H' b = some o)
          ⟨upd_same, fun b o n e => by rw [upd_ne n]; exact e⟩ (fun j H' _ ⟨_, w2⟩ => SqT.of (w2 _ _ (ne_of_none hp1 nD) hp1)) ?_ ?_
        · rintro j z H' hz ⟨w1, w2⟩
          obtain ⟨e, he, hze⟩ := (paired_get pc1).2 j z hz
          have S2 : Same H H' := fun b o q => w2 _ _ (ne_of_none (S1 _ _ q) nD) (S1 _ _ q)
          have hz' := hze.kl (KLs.same S2)
          obtain ⟨t, ty, kt⟩ : ∃ t, TyX K H' z (.type t) ∧ PySem.W.kitOne K (.type t) (.type "str") = some e.isS := by
            by_cases c : ∃ x, e = .str x
            · obtain ⟨x, rfl⟩ := c
              obtain rfl : z = .str x := hz'
              exact ⟨_, .base (.str x), (kit_ty (by decide +kernel) : PySem.W.kitOne K (.type "str") (.type "str") = some true)⟩
            · obtain ⟨t, a1, a2⟩ := hz'.ty fun x y => c ⟨x, y⟩
              refine ⟨t, a1, ?_⟩
              rw [a2]
              cases e with
              | str x => exact absurd ⟨x, rfl⟩ c
              | num _ => rfl
              | odd => rfl
          refine ⟨rfl, _, rfl, z, .ty "str", .type t, .type "str", e.isS, rfl, .ty _, ty, kt, _, w1, ?_, ?_, fun b o n q => by rw [upd_ne n]; exact w2 b o n q⟩
          · rw [List.length_map, List.length_map, List.length_take]
            exact small1000 (by omega)
          · rw [upd_same, List.take_add_one, he, List.map_append, List.map_append]
            rfl
        rintro H2 ⟨w1, w2⟩
        rw [lc1, List.take_length] at w1
        have S2 : Same H H2 := fun b o q => w2 _ _ (ne_of_none (S1 _ _ q) nD) (S1 _ _ q)
        clear w2 S1 hp1 nD
        refine ⟨D, _, rfl, SqL.of w1, _, rfl, ?_⟩
        rw [List.all_map]
        cases hA : (cutE es none (some (-1))).all (id ∘ El.isS) with
        | false =>
          refine iteT (no ?_ _ S2)
          unfold lookS
          rw [show (cutE es none (some (-1))).all El.isS = false from hA]
          rfl
        | true =>
          have hA' : (cutE es none (some (-1))).all El.isS = true := hA
          refine iteF ?_
          have h12 := SqT.kl h1 (KLs.same S2)
          refine ⟨_, rfl, 1, rfl, st, _, -1, vL, rfl, rfl, h12, hat, vL, eL, rfl, hEL.kl (KLs.same S2), fun H3 s3 => ⟨_, rfl, ?_⟩⟩
          have S3 := S2.trans s3
          cases hF : eL.fr with
          | false =>
            refine iteT (no ?_ _ S3)
            unfold lookS
            rw [hA', hF]
            rfl
          | true =>
            refine iteF ?_
            have h13 := SqT.kl h1 (KLs.same S3)
            refine ⟨_, rfl, 1, rfl, 1, rfl, -1, rfl, st, _, rfl, h13, ?_, fun p2 np2 => ?_⟩
            · rintro ⟨y, _⟩
              have e : HT.sIx vs.length 0 (some 1) = min 1 vs.length := HT.sIx_nat vs.length 0 1
              rw [e] at y
              omega
            have s4 := same_new (o := .tup (cutV vs (some 1) (some (-1)))) np2
            refine ⟨p2, rfl, ⟨_, SqT.of upd_same⟩, fun D2 nD2 => ?_⟩
            have hp2 := upd_same (H := H3) (a := p2) (o := .tup (cutV vs (some 1) (some (-1))))
            have S4 := S3.trans s4
            generalize upd H3 p2 (.tup (cutV vs (some 1) (some (-1)))) = H4 at hp2 S4 nD2 ⊢
            have pc2 := paired_cut h2 (some 1) (some (-1))
            have lc2 := Paired.length pc2
            have ln2 : (cutE es (some 1) (some (-1))).length ≤ 10 := by
              rw [← lc2]
              have := cutV_length vs (some 1) (some (-1))
              omega
            have strS := sub_str l34' hA'
            refine lc_tup (K := K) (a := p2) (xs := cutV vs (some 1) (some (-1))) (fun j H' => H' D2 = some (.lst ((((cutE es (some 1) (some (-1))).take j).map (El.inN names)).map V.bl)) ∧ ∀ b o, b ≠ D2 → H4 b = some o → H' b = some o)
              ⟨upd_same, fun b o n e => by rw [upd_ne n]; exact e⟩ (fun j H' _ ⟨_, w2⟩ => SqT.of (w2 _ _ (ne_of_none hp2 nD2) hp2)) ?_ ?_
            · rintro j z H' hz ⟨w1, w2⟩
              obtain ⟨e, he, hze⟩ := (paired_get pc2).2 j z hz
              obtain ⟨x, rfl⟩ := strS e (List.mem_of_getElem? he)
              obtain rfl : z = .str x := hze
              have S5 : Same H H' := fun b o q => w2 _ _ (ne_of_none (S4 _ _ q) nD2) (S4 _ _ q)
              refine ⟨rfl, _, rfl, _, rfl, nl, _, rfl, .inl (SqL.of (S5 _ _ hn)), rfl, flat_strs names, _, w1, ?_, ?_, fun b o n q => by rw [upd_ne n]; exact w2 b o n q⟩
              · rw [List.length_map, List.length_map, List.length_take]
                exact small1000 (by omega)
              · have ei : inV (.str x) (names.map V.str) = El.inN names (.str x) := by
                  show _ = decide (x ∈ names)
                  by_cases c : x ∈ names
                  · rw [decide_eq_true c]
                    exact inV_strs.mpr c
                  · rw [decide_eq_false c]
                    exact Bool.eq_false_iff.mpr fun y => c (inV_strs.mp y)
                rw [upd_same, List.take_add_one, he, List.map_append, List.map_append]
                rw [if_neg (by decide), ei]
                rfl
            rintro H5 ⟨w1', w2'⟩
            rw [lc2, List.take_length] at w1'
            have S5 : Same H H5 := fun b o q => w2' _ _ (ne_of_none (S4 _ _ q) nD2) (S4 _ _ q)
            clear w2' S4 hp2 nD2 np2 s4
            refine ⟨D2, _, rfl, SqL.of w1', _, rfl, ?_⟩
            rw [List.all_map]
            cases hB : (cutE es (some 1) (some (-1))).all (id ∘ El.inN names) with
            | false =>
              refine iteT (no ?_ _ S5)
              unfold lookS
              rw [hA', hF, show (cutE es (some 1) (some (-1))).all (El.inN names) = false from hB]
              rfl
            | true =>
              have hlk : lookS names es eL = true := by
                unfold lookS
                rw [hA', hF, show (cutE es (some 1) (some (-1))).all (El.inN names) = true from hB]
                rfl
              refine iteF ?_
              have h15 := SqT.kl h1 (KLs.same S5)
              rcases l34 with l | l
              · obtain ⟨v1, v2, v3, e1, e2, e3, rfl, rfl, a1, a2, a3⟩ := paired3 h2 l
                obtain rfl : e3 = eL := Option.some.inj hgl
                obtain ⟨w, x, c, rfl, rfl, rfl, et⟩ := look3 e1 e2 e3 hlk
                obtain rfl : v1 = .str w := a1
                obtain ⟨n, rfl, fn⟩ := a3.kl (KLs.same S5)
                refine ⟨_, rfl, st, _, 0, _, rfl, rfl, h15, atI_nat (j := 0) rfl, rfl, _, rfl, ite2 (fun e => ?_) (fun e => ?_)⟩
                · have ew : w = Str.ofString "times" := V.str.inj (of_decide_eq_true e)
                  refine ⟨_, rfl, st, _, rfl, .inr h15, rfl, true, rfl, iteT ?_⟩
                  refine ⟨_, rfl, st, _, 2, _, rfl, rfl, h15, atI_nat (j := 2) rfl, n, _, 0, _, rfl, rfl, fn.1, atI_nat (j := 0) rfl, rfl, ?_⟩
                  refine key _ ?_ _ S5
                  rw [et, decide_eq_true ew, Bool.true_and]
                  by_cases c0 : c.1 = 0
                  · rw [c0]
                    rfl
                  · rw [decide_eq_true c0, decide_eq_false fun y => c0 (V.int.inj y)]
                    rfl
                · have ew : ¬ w = Str.ofString "times" := fun y => e (decide_eq_true (by rw [y]))
                  have k0 := key false (by rw [et, decide_eq_false ew]; rfl) _ S5
                  refine ⟨_, rfl, st, _, 0, _, rfl, rfl, h15, atI_nat (j := 0) rfl, rfl, _, rfl, ?_⟩
                  cases c1 : decide (V.str w = V.str (Str.ofString "add")) with
                  | false => exact iteF k0
                  | true => exact iteT ⟨_, rfl, st, _, rfl, .inr h15, rfl, false, rfl, iteF k0⟩
              · obtain ⟨v1, v2, v3, v4, e1, e2, e3, e4, rfl, rfl, a1, a2, a3, a4⟩ := paired4 h2 l
                obtain rfl : e4 = eL := Option.some.inj hgl
                obtain ⟨w, x, y, c, rfl, rfl, rfl, rfl, et⟩ := look4 e1 e2 e3 e4 hlk
                obtain rfl : v1 = .str w := a1
                obtain rfl : v2 = .str x := a2
                obtain rfl : v3 = .str y := a3
                refine ⟨_, rfl, st, _, 0, _, rfl, rfl, h15, atI_nat (j := 0) rfl, rfl, _, rfl, ite2 (fun e => ?_) (fun e => ?_)⟩
                · have ew : w = Str.ofString "times" := V.str.inj (of_decide_eq_true e)
                  refine ⟨_, rfl, st, _, rfl, .inr h15, rfl, false, rfl, iteF ?_⟩
                  refine key false ?_ _ S5
                  rw [et, ew]
                  rfl
                · refine ⟨_, rfl, st, _, 0, _, rfl, rfl, h15, atI_nat (j := 0) rfl, rfl, _, rfl, ?_⟩
                  by_cases c1 : w = Str.ofString "add"
                  · have z : decide (V.str w = V.str (Str.ofString "add")) = true := decide_eq_true (by rw [c1])
                    rw [z]
                    refine iteT ⟨_, rfl, st, _, rfl, .inr h15, rfl, true, rfl, iteT ?_⟩
                    refine ⟨_, rfl, st, _, 1, _, rfl, rfl, h15, atI_nat (j := 1) rfl, _, rfl, st, _, 2, _, rfl, rfl, h15, atI_nat (j := 2) rfl, rfl, ?_⟩
                    refine key _ ?_ _ S5
                    rw [et, decide_eq_true c1, Bool.true_and]
                    by_cases c0 : x = y
                    · rw [c0]
                      simp
                    · rw [decide_eq_true c0, decide_eq_false fun u => c0 (V.str.inj u)]
                      rfl
                  · have z : decide (V.str w = V.str (Str.ofString "add")) = false := decide_eq_false fun u => c1 (V.str.inj u)
                    rw [z]
                    exact iteF (key false (by rw [et, decide_eq_false c1]; rfl) _ S5)
end
end SS
namespace SS
open PySem PySem.Spec PyProof.Rows L2 NumText LamX KyS
/-! ### spoilt steps -/
def Bn (c : Int × Int) : Prop := c.1.natAbs < 2 ^ 105 ∧ c.2.natAbs < 2 ^ 105
def El.Bd (e : El) : Prop := ∀ c, e = .num c → Bn c
def Sv.Bd : Sv → Prop
  | .tup es => ∀ e ∈ es, e.Bd
  | .odd => True
section
variable {P : Program} {w : World} {K : PySem.W.Frag} {mg : Str → Option Value} {base : Heap}
def ElP (K : PySem.W.Frag) (H : Hp) (v : V) : Prop := ∃ e, ElAt K H v e ∧ e.Bd
def SvP (K : PySem.W.Frag) (H : Hp) (v : V) : Prop := ∃ d, SvAt K H v d ∧ d.Bd
def TupE (K : PySem.W.Frag) (H : Hp) (v : V) (n : Nat) : Prop := ∃ a xs es, v = .ref a ∧ SqT K H a xs ∧ Paired (ElAt K H) xs es ∧ (∀ e ∈ es, e.Bd) ∧ xs.length ≤ n
theorem ElP.kl {H H' : Hp} {v : V} (h : ElP K H v) (k : KLs H H') : ElP K H' v := by
  obtain ⟨e, a, b⟩ := h
  exact ⟨e, a.kl k, b⟩
theorem SvP.kl {H H' : Hp} {v : V} (h : SvP K H v) (k : KLs H H') : SvP K H' v := by
  obtain ⟨e, a, b⟩ := h
  exact ⟨e, a.kl k, b⟩
theorem TupE.kl {H H' : Hp} {v : V} {n : Nat} (h : TupE K H v n) (k : KLs H H') : TupE K H' v n := by
  obtain ⟨a, xs, es, e, h1, h2, h3, h4⟩ := h
  exact ⟨a, xs, es, e, SqT.kl h1 k, paired_mono (fun v e h => ElAt.kl h k) h2, h3, h4⟩
theorem TupE.svp {H : Hp} {v : V} {n : Nat} (h : TupE K H v n) : SvP K H v := by
  obtain ⟨a, xs, es, e, h1, h2, h3, h4⟩ := h
  exact ⟨.tup es, ⟨a, xs, e, h1, h2⟩, h3⟩
theorem paired_app {α β : Type} {R : α → β → Prop} : ∀ {xs xs' : List α} {ys ys' : List β}, Paired R xs ys → Paired R xs' ys' → Paired R (xs ++ xs') (ys ++ ys')
  | _, _, _, _, .nil, q => q
  | _, _, _, _, .cons a p, q => .cons a (paired_app p q)
theorem slice_rd {H : Hp} {v : V} {n : Nat} {lo hi : Option Int} {Q : VK} (h : TupE K H v n) (q : ∀ H' v', Same H H' → TupE K H' v' n → Q v' H') : rSlA K v lo hi H Q := by
  obtain ⟨a, xs, es, rfl, h1, h2, h3, h4⟩ := h
  refine ⟨a, xs, rfl, h1, fun _ => q H _ (Same.refl _) ⟨a, xs, es, rfl, h1, h2, h3, h4⟩, fun _ p np => ?_⟩
  have s := same_new (o := .tup (cutV xs lo hi)) np
  refine q _ _ s ⟨p, cutV xs lo hi, cutE es lo hi, rfl, SqT.of upd_same, paired_mono (fun v e h => ElAt.kl h (KLs.same s)) (paired_cut h2 lo hi), fun e he => h3 e (cutE_mem he), Nat.le_trans (cutV_length xs lo hi) h4⟩
theorem cat_rd {H : Hp} {v u : V} {n m : Nat} {Q : VK} (h : TupE K H v n) (h' : TupE K H u m) (l : n + m ≤ 100) (q : ∀ H' v', Same H H' → TupE K H' v' (n + m) → Q v' H') : rCatA K v u H Q := by
  obtain ⟨a, xs, es, rfl, h1, h2, h3, h4⟩ := h
  obtain ⟨b, ys, fs, rfl, g1, g2, g3, g4⟩ := h'
  refine ⟨a, b, xs, ys, rfl, rfl, h1, g1, Nat.le_of_lt (small1000 (by omega)), fun _ => q H _ (Same.refl _) ⟨b, ys, fs, rfl, g1, g2, g3, by omega⟩, fun _ _ => q H _ (Same.refl _) ⟨a, xs, es, rfl, h1, h2, h3, by omega⟩, fun _ _ p np => ?_⟩
  have s := same_new (o := .tup (xs ++ ys)) np
  refine q _ _ s ⟨p, xs ++ ys, es ++ fs, rfl, SqT.of upd_same, paired_mono (fun v e h => ElAt.kl h (KLs.same s)) (paired_app h2 g2), fun e he => ?_, by rw [List.length_append]; omega⟩
  rcases List.mem_append.mp he with z | z
  · exact h3 e z
  · exact g3 e z
theorem TupE.one {H : Hp} {p : Addr} {v : V} (h : ElP K H v) (hp : H p = none) : TupE K (upd H p (.tup [v])) (.ref p) 1 := by
  obtain ⟨e, a, b⟩ := h
  refine ⟨p, [v], [e], rfl, SqT.of upd_same, .cons (a.kl (KLs.same (same_new hp))) .nil, fun e' he => ?_, Nat.le_refl _⟩
  obtain rfl := List.mem_singleton.mp he
  exact b
theorem ElP.str {H : Hp} {x : Str} : ElP K H (.str x) := ⟨.str x, rfl, fun c e => by cases e⟩
theorem ElP.odd {H : Hp} {v : V} (h : OddE K H v) : ElP K H v := ⟨.odd, h, fun c e => by cases e⟩
theorem ElP.num {H : Hp} {p : Addr} {c : Int × Int} (h : H p = some (.tup [.int c.1, .int c.2])) (b : Bn c) : ElP K H (.ref p) := ⟨.num c, ⟨p, rfl, FrT.of h⟩, fun c' e => by cases e; exact b⟩
theorem oddE_int {H : Hp} {i : Int} : OddE K H (.int i) := .inr (.inr (.inl ⟨i, rfl⟩))
theorem svp_two {H : Hp} {p : Addr} {i j : Int} (h : H p = some (.tup [.int i, .int j])) : SvP K H (.ref p) := by
  refine ⟨.tup [.odd, .odd], ⟨p, _, rfl, SqT.of h, .cons oddE_int (.cons oddE_int .nil)⟩, fun e he => ?_⟩
  have : e = .odd := by
    simp only [List.mem_cons, List.not_mem_nil, or_false] at he
    rcases he with rfl | rfl <;> rfl
  rw [this]
  exact fun c z => by cases z
theorem svp_odd {H : Hp} {v : V} (h : SvAt K H v .odd) : SvP K H v := ⟨.odd, h, trivial⟩
theorem paired_rev {α β : Type} {R : α → β → Prop} : ∀ {xs : List α} {ys : List β}, Paired R xs ys → Paired R xs.reverse ys.reverse
  | _, _, .nil => .nil
  | _, _, .cons a p => by
    rw [List.reverse_cons, List.reverse_cons]
    exact paired_app (paired_rev p) (.cons a .nil)
theorem len_ap2 (a b : Str) : (a ++ b).length = a.length + b.length := by
  show (Str.append a b).length = _
  unfold Str.append Str.length
  simp
/-- on the way of _law_odd -/
structure Od (K : PySem.W.Frag) (st c s : Addr) (xs : List V) (H0 : Hp) (vl : List V) (H : Hp) : Prop where
  b : But st H0 H
  y : StA st c H
  q : SqT K H s xs
  e : ∃ es, Paired (ElAt K H) xs es ∧ ∀ e ∈ es, El.Bd e
  l : xs.length ≤ 4
  a : ∀ v ∈ vl, SvP K H v
section
variable {st c s : Addr} {xs : List V} {H0 H H' : Hp} {vl : List V}
theorem Od.t (h : Od K st c s xs H0 vl H) : TupE K H (.ref s) 4 := by
  obtain ⟨es, a, b⟩ := h.e
  exact ⟨s, xs, es, rfl, h.q, a, b, h.l⟩
theorem exP {H H' : Hp} {xs : List V} (h : ∃ es, Paired (ElAt K H) xs es ∧ ∀ e ∈ es, El.Bd e) (k : KLs H H') : ∃ es, Paired (ElAt K H') xs es ∧ ∀ e ∈ es, El.Bd e := by
  obtain ⟨es, a, b⟩ := h
  exact ⟨es, paired_mono (fun v e h => ElAt.kl h k) a, b⟩
theorem Od.same (h : Od K st c s xs H0 vl H) (S : Same H H') : Od K st c s xs H0 vl H' := ⟨h.b.trans (Same.but S), h.y.same S, SqT.kl h.q (KLs.same S), exP h.e (KLs.same S), h.l, fun v hv => (h.a v hv).kl (KLs.same S)⟩
theorem Od.but (h : Od K st c s xs H0 vl H) (b : But st H H') (y : StA st c H') : Od K st c s xs H0 vl H' := ⟨h.b.trans b, y, SqT.kl h.q (KLs.but b h.y y), exP h.e (KLs.but b h.y y), h.l, fun v hv => (h.a v hv).kl (KLs.but b h.y y)⟩
theorem Od.add (h : Od K st c s xs H0 vl H) {v : V} (p : SvP K H v) : Od K st c s xs H0 (vl ++ [v]) H := ⟨h.b, h.y, h.q, h.e, h.l, fun u hu => by
  rcases List.mem_append.mp hu with z | z
  · exact h.a u z
  · obtain rfl := List.mem_singleton.mp z
    exact p⟩
theorem Od.lst (h : Od K st c s xs H0 vl H) {L : Addr} {us ws : List V} (hL : H L = some (.lst us)) (n : H0 L = none) (n1 : L ≠ st) (n2 : L ≠ c) : Od K st c s xs H0 vl (upd H L (.lst ws)) := ⟨fun b o nb e => by
    rw [upd_ne (fun z => by rw [z, n] at e; cases e)]
    exact h.b b o nb e, h.y.other n1 n2, SqT.kl h.q (KLs.lst hL), exP h.e (KLs.lst hL), h.l, fun v hv => (h.a v hv).kl (KLs.lst hL)⟩
end
def spOdd (K : PySem.W.Frag) : Sp := fun vs H Q _ => ∃ (st c s : Addr) (xs : List V) (es : List El) (x : Str), vs = [.ref st, .ref s] ∧ StA st c H ∧ SqT K H s xs ∧ Paired (ElAt K H) xs es ∧ (∀ e ∈ es, e.Bd) ∧ (xs.length = 3 ∨ xs.length = 4) ∧ atI xs 0 = some (.str x) ∧ 0 < x.length ∧ x.length ≤ 10 ∧
  ∀ H' v, But st H H' → StA st c H' → SvP K H' v → Q v H'
theorem scOdd : FnScope ["_law_state", "_law_step", "_law_way", "_law_at", "_law_letter", "_law_odd_here", "_law_number_here", "_law_word", "_law_spot", "_law_some"] ["_law_state", "_law_step"] (defScope sOdd) := ⟨rfl, rfl, rfl, by decide +kernel, rfl, by decide +kernel, by decide +kernel⟩
set_option maxHeartbeats 4000000 in
theorem ok_odd {f : Addr} {fd : FuncData} (F : Fun K "_law_odd" "_law_odd" sOdd f fd) (ml : mg "len" = none) (mli : mg "list" = none) (tk : Cl P w K mg base CX0 3 "_law_take" spTake []) : FnOk P w K mg base CX0 4 f fd ["_law_state", "_law_step"] (spOdd K) := by
  refine F.ok scOdd (fun vs H Q E h => ?_) (fun cdv A outer s0 H vs Q E hr h => ?_)
  · obtain ⟨_, _, _, _, _, _, rfl, _⟩ := h
    rfl
  · obtain ⟨st, c, s, xs, es, x, rfl, sa, hs, hp, hbd, l34, h0, x0, x10, q⟩ := h
    have hu := hu_of hr
    refine ⟨_, pss_cons (ps_set (i := 2) scOdd.nd rfl (.inl rfl) (pc0 tk hr (by decide) (pa_cons (pv 0) (pa_cons pe_int pa_nil))))
      (pss_cons (ps_set (i := 3) scOdd.nd rfl (.inl rfl) (pc0 tk hr (by decide) (pa_cons (pv 0) (pa_cons (pe_callB call_len_seq (by rfl) ml PySem.boot_len (pa_cons (pv 1) pa_nil)) pa_nil))))
      (pss_cons (ps_set (i := 4) scOdd.nd rfl (.inl rfl) (pe_item_str pe_str (pc0 tk hr (by decide) (pa_cons (pv 0) (pa_cons pe_int pa_nil))) (fun _ _ => rfl)))
      (pss_cons (ps_set (i := 5) scOdd.nd rfl (.inl rfl) (pe_ix ix_tup (pe_tup (pa_cons pe_non (pa_cons pe_bl (pa_cons pe_int (pa_cons pe_str (pa_cons (pe_tup (pa_cons pe_int (pa_cons pe_int pa_nil))) (pa_cons (pe_lst (pa_cons pe_str pa_nil)) (pa_cons pe_dnewK (pa_cons (pe_tup (pa_cons pe_int (pa_cons pe_int pa_nil))) pa_nil)))))))))
        (pc0 tk hr (by decide) (pa_cons (pv 0) (pa_cons pe_int pa_nil))) (fun _ _ => rfl)))
      (pss_cons (ps_set (i := 6) scOdd.nd rfl (.inl rfl) (pe_ix ix_tup (pe_tup (pa_cons (pe_tup (pa_cons pe_int (pa_cons pe_int pa_nil))) (pa_cons (pe_tup (pa_cons pe_int (pa_cons pe_int pa_nil))) (pa_cons (pe_tup (pa_cons pe_int (pa_cons pe_int pa_nil))) (pa_cons (pe_tup (pa_cons pe_int (pa_cons (pe_un un_neg pe_int) pa_nil)))
          (pa_cons (pe_tup (pa_cons pe_bl (pa_cons pe_int pa_nil))) (pa_cons (pe_tup (pa_cons pe_int (pa_cons pe_bl pa_nil))) (pa_cons (pe_tup (pa_cons pe_str (pa_cons pe_int pa_nil))) (pa_cons (pe_tup (pa_cons pe_int pa_nil)) (pa_cons pe_int (pa_cons (pe_tup (pa_cons (pe_un un_neg pe_int) (pa_cons pe_int pa_nil))) pa_nil)))))))))))
        (pc0 tk hr (by decide) (pa_cons (pv 0) (pa_cons pe_int pa_nil))) (fun _ _ => rfl)))
      (pss_cons (ps_if (pt_cmpR op_lt (pv 2) pe_int (nomark _)) (pss_one (ps_ret (pe_op op_catA (pe_slice sl_tupA (pv 1) po_none (po_some (pe_un un_neg pe_int))) (pe_tup (pa_cons (pv 6) pa_nil))))) pss_nil)
      (pss_cons (ps_if (pt_cmpR op_lt (pv 2) pe_int (nomark _)) (pss_one (ps_ret (pe_op op_catA (pe_op op_catA (pe_slice sl_tupA (pv 1) po_none (po_some (pv 3))) (pe_tup (pa_cons (pv 5) pa_nil))) (pe_slice sl_tupA (pv 1) (po_some (pe_op op_add (pv 3) pe_int)) po_none)))) pss_nil)
      (pss_cons (ps_if (pt_cmpR op_lt (pv 2) pe_int (nomark _)) (pss_one (ps_ret (pe_op op_catA (pe_op op_catA (pe_slice sl_tupA (pv 1) po_none (po_some (pv 3))) (pe_tup (pa_cons (pv 5) pa_nil))) (pe_slice sl_tupA (pv 1) (po_some (pv 3)) po_none)))) pss_nil)
      (pss_cons (ps_if (pt_cmpR op_lt (pv 2) pe_int (nomark _)) (pss_one (ps_ret (pe_op op_catA (pe_slice sl_tupA (pv 1) po_none (po_some (pv 3))) (pe_slice sl_tupA (pv 1) (po_some (pe_op op_add (pv 3) pe_int)) po_none)))) pss_nil)
      (pss_cons (ps_set (i := 7) scOdd.nd rfl (.inl rfl) (pe_ix ix_tup (pv 1) pe_int (fun _ _ => rfl)))
      (pss_cons (ps_set (i := 8) scOdd.nd rfl (.inl rfl) (pe_op op_mod (pv 3) (pe_callB call_len (by rfl) ml PySem.boot_len (pa_cons (pv 7) pa_nil))))
      (pss_cons (ps_set (i := 9) scOdd.nd rfl (.inl rfl) (pe_lst (pa_cons (pe_callTy call_list_of (by rfl) mli (by decide +kernel) (pa_cons (pv 1) pa_nil)) (pa_cons (pv 5)
        (pa_cons (pe_op op_catA (pe_tup (pa_cons (pe_op op_add_str (pe_op op_add_str (pe_slice sl_str (pv 7) po_none (po_some (pv 8))) (pv 4)) (pe_slice sl_str (pv 7) (po_some (pe_op op_add (pv 8) pe_int)) po_none)) pa_nil)) (pe_slice sl_tupA (pv 1) (po_some pe_int) po_none))
        (pa_cons (pe_op op_catA (pe_tup (pa_cons (pe_op op_add_str (pv 7) (pv 4)) pa_nil)) (pe_slice sl_tupA (pv 1) (po_some pe_int) po_none)) pa_nil))))))
      (pss_cons (ps_expr (pe_bm PySem.F.plainAttrs_list PySem.F.slot_list_extend PySem.F.type_list_extend mt_extend (pv 9) (pa_cons (pe_lst
        (pa_cons (pe_op op_catA (pe_op op_catA (pe_slice sl_tupA (pv 1) po_none (po_some pe_int)) (pe_tup (pa_cons (pv 4) pa_nil))) (pe_slice sl_tupA (pv 1) (po_some pe_int) po_none))
        (pa_cons (pe_op op_catA (pe_op op_catA (pe_op op_catA (pe_slice sl_tupA (pv 1) po_none (po_some pe_int)) (pe_slice sl_tupA (pv 1) (po_some pe_int) (po_some pe_int))) (pe_slice sl_tupA (pv 1) (po_some pe_int) (po_some pe_int))) (pe_slice sl_tupA (pv 1) (po_some (pe_un un_neg pe_int)) po_none))
        (pa_cons (pe_op op_catA (pv 1) (pe_slice sl_tupA (pv 1) (po_some (pe_un un_neg pe_int)) po_none)) pa_nil)))) pa_nil)))
      (pss_one (ps_ret (pe_ix ix_list (pe_op op_cat (pv 9) (pe_lst (pa_cons (pe_op op_catA (pe_op op_catA (pe_slice sl_tupA (pv 1) po_none (po_some pe_int)) (pe_tup (pa_cons (pe_op op_add_str (pv 4) pe_str) pa_nil))) (pe_slice sl_tupA (pv 1) (po_some (pe_un un_neg pe_int)) po_none))
        (pa_cons (RvT.pe_revT (pv 1)) (pa_cons (pe_tup pa_nil) pa_nil))))) (pe_op op_sub (pv 2) pe_int) (fun _ _ => rfl)))))))))))))))), ?_⟩
    have tE : TupE K H (.ref s) 4 := ⟨s, xs, es, rfl, hs, hp, hbd, by omega⟩
    have od0 : Od K st c s xs H [] H := ⟨But.refl _ _, sa, hs, ⟨es, hp, hbd⟩, by omega, fun v hv => by cases hv⟩
    have x5 : x.length ≤ sizeLine := Nat.le_of_lt (small1000 (by omega))
    clear tE hp hbd hs
    refine ⟨_, rfl, st, c, 22, rfl, by decide, lt8 (by decide), sa, fun H1 way b1 s1 l1 u1 => ?_⟩
    have od1 := od0.but b1 s1
    refine ⟨_, rfl, _, rfl, s, _, rfl, .inr od1.q, st, c, (xs.length : Int), rfl, by omega, lt8 (by omega), s1, fun H2 at_ b2 s2 l2 u2 => ?_⟩
    have od2 := od1.but b2 s2
    refine ⟨_, rfl, st, c, 26, rfl, by decide, lt8 (by decide), s2, fun H3 lt b3 s3 l3 u3 => ?_⟩
    have od3 := od2.but b3 s3
    refine ⟨abc, lt, 97 + lt.toNat, rfl, rfl, l3, by omega, by rw [abc_len]; omega, abc_at _ (by omega), ?_⟩
    have lz : (⟨#[97 + lt.toNat]⟩ : Str).length = 1 := rfl
    generalize (⟨#[97 + lt.toNat]⟩ : Str) = z at lz ⊢
    clear b1 s1 od0 b2 s2 od1 b3 od2
    -- an odd thing
    refine ⟨small2, fun n1 f_n1 => ?_⟩
    have e_n1 := same_new (o := .tup [.int 1, .int 1]) f_n1
    have a_n1 := upd_same (H := H3) (a := n1) (o := .tup [.int 1, .int 1])
    generalize upd H3 n1 (.tup [.int 1, .int 1]) = G1 at e_n1 a_n1 ⊢
    refine ⟨(by show 1 ≤ sizeLine; decide), fun l1 f_l1 => ?_⟩
    have e_l1 := same_new (o := .lst [.str (Str.ofString "a")]) f_l1
    have a_l1 := upd_same (H := G1) (a := l1) (o := .lst [.str (Str.ofString "a")])
    generalize upd G1 l1 (.lst [.str (Str.ofString "a")]) = G2 at e_l1 a_l1 ⊢
    intro d1 f_d1
    have e_d1 := same_new (o := .dK []) f_d1
    have a_d1 := upd_same (H := G2) (a := d1) (o := .dK [])
    generalize upd G2 d1 (.dK []) = G3 at e_d1 a_d1 ⊢
    refine ⟨small2, fun n2 f_n2 => ?_⟩
    have e_n2 := same_new (o := .tup [.int 0, .int 1]) f_n2
    have a_n2 := upd_same (H := G3) (a := n2) (o := .tup [.int 0, .int 1])
    generalize upd G3 n2 (.tup [.int 0, .int 1]) = G4 at e_n2 a_n2 ⊢
    refine ⟨(by show 8 ≤ sizeLine; decide), fun T1 f_T1 => ?_⟩
    have e_T1 := same_new (o := .tup [.non, .bl true, .int 0, .str (Str.ofString "times"), .ref n1, .ref l1, .ref d1, .ref n2]) f_T1
    have a_T1 := upd_same (H := G4) (a := T1) (o := .tup [.non, .bl true, .int 0, .str (Str.ofString "times"), .ref n1, .ref l1, .ref d1, .ref n2])
    generalize upd G4 T1 (.tup [.non, .bl true, .int 0, .str (Str.ofString "times"), .ref n1, .ref l1, .ref d1, .ref n2]) = G5 at e_T1 a_T1 ⊢
    have t4 := e_n2.trans e_T1
    have t3 := e_d1.trans t4
    have t2 := e_l1.trans t3
    have od5 := od3.same (e_n1.trans t2)
    have l1s : l1 ≠ st := (od3.y.same e_n1).fresh f_l1
    refine ⟨_, rfl, st, c, 8, rfl, by decide, lt8 (by decide), od5.y, fun H5 d5 b5 s5 l5 u5 => ?_⟩
    obtain ⟨vo, hat, pe, ps⟩ : ∃ vo, atI ([.non, .bl true, .int 0, .str (Str.ofString "times"), .ref n1, .ref l1, .ref d1, .ref n2] : List V) d5 = some vo ∧ ElP K H5 vo ∧ SvP K H5 vo := by
      have cs : d5 = 0 ∨ d5 = 1 ∨ d5 = 2 ∨ d5 = 3 ∨ d5 = 4 ∨ d5 = 5 ∨ d5 = 6 ∨ d5 = 7 := by omega
      rcases cs with rfl | rfl | rfl | rfl | rfl | rfl | rfl | rfl
      · exact ⟨.non, atI_nat (j := 0) rfl, .odd (.inl rfl), svp_odd (.inl rfl)⟩
      · exact ⟨.bl true, atI_nat (j := 1) rfl, .odd (.inr (.inl ⟨_, rfl⟩)), svp_odd (.inr (.inl ⟨_, rfl⟩))⟩
      · exact ⟨.int 0, atI_nat (j := 2) rfl, .odd (.inr (.inr (.inl ⟨_, rfl⟩))), svp_odd (.inr (.inr (.inl ⟨_, rfl⟩)))⟩
      · exact ⟨.str (Str.ofString "times"), atI_nat (j := 3) rfl, ElP.str, svp_odd (.inr (.inr (.inr (.inl ⟨_, rfl⟩))))⟩
      · have h := b5.tup od5.y (t2 _ _ a_n1)
        exact ⟨.ref n1, atI_nat (j := 4) rfl, ElP.num (c := (1, 1)) h ⟨by decide, by decide⟩, svp_two h⟩
      · have h := b5 _ _ l1s (t3 _ _ a_l1)
        exact ⟨.ref l1, atI_nat (j := 5) rfl, .odd (.inr (.inr (.inr (.inl ⟨_, _, rfl, h⟩)))), svp_odd (.inr (.inr (.inr (.inr (.inl ⟨_, _, rfl, h⟩)))))⟩
      · have h : H5 d1 = some (.dK []) := b5 _ _ (fun z => by
          obtain ⟨_, _, _, _, g1, _⟩ := od5.y
          have := t4 _ _ a_d1
          rw [z, g1] at this
          cases this) (t4 _ _ a_d1)
        exact ⟨.ref d1, atI_nat (j := 6) rfl, .odd (.inr (.inr (.inr (.inr (.inl ⟨_, _, rfl, h⟩))))), svp_odd (.inr (.inr (.inr (.inr (.inr ⟨_, _, rfl, h⟩)))))⟩
      · have h := b5.tup od5.y (e_T1 _ _ a_n2)
        exact ⟨.ref n2, atI_nat (j := 7) rfl, ElP.num (c := (0, 1)) h ⟨by decide, by decide⟩, svp_two h⟩
    refine ⟨T1, _, d5, _, rfl, rfl, SqT.of (b5.tup od5.y a_T1), hat, ?_⟩
    have od6 := od5.but b5 s5
    clear hat t4 t3 t2 e_n1 e_l1 e_d1 e_n2 e_T1 a_n1 a_l1 a_d1 a_n2 a_T1 f_n1 f_l1 f_d1 f_n2 f_T1 od5 od3 b5 s3 s5 l1s
    -- a number
    refine ⟨small2, fun m0 f_m0 => ?_⟩
    have e_m0 := same_new (o := .tup [.int 0, .int 1]) f_m0
    have a_m0 := upd_same (H := H5) (a := m0) (o := .tup [.int 0, .int 1])
    generalize upd H5 m0 (.tup [.int 0, .int 1]) = M0 at e_m0 a_m0 ⊢
    refine ⟨small2, fun m1 f_m1 => ?_⟩
    have e_m1 := same_new (o := .tup [.int 2, .int 4]) f_m1
    have a_m1 := upd_same (H := M0) (a := m1) (o := .tup [.int 2, .int 4])
    generalize upd M0 m1 (.tup [.int 2, .int 4]) = M1 at e_m1 a_m1 ⊢
    refine ⟨small2, fun m2 f_m2 => ?_⟩
    have e_m2 := same_new (o := .tup [.int 1, .int 0]) f_m2
    have a_m2 := upd_same (H := M1) (a := m2) (o := .tup [.int 1, .int 0])
    generalize upd M1 m2 (.tup [.int 1, .int 0]) = M2 at e_m2 a_m2 ⊢
    refine ⟨1, rfl, small2, fun m3 f_m3 => ?_⟩
    have e_m3 := same_new (o := .tup [.int 1, .int (-1)]) f_m3
    have a_m3 := upd_same (H := M2) (a := m3) (o := .tup [.int 1, .int (-1)])
    generalize upd M2 m3 (.tup [.int 1, .int (-1)]) = M3 at e_m3 a_m3 ⊢
    refine ⟨small2, fun m4 f_m4 => ?_⟩
    have e_m4 := same_new (o := .tup [.bl true, .int 1]) f_m4
    have a_m4 := upd_same (H := M3) (a := m4) (o := .tup [.bl true, .int 1])
    generalize upd M3 m4 (.tup [.bl true, .int 1]) = M4 at e_m4 a_m4 ⊢
    refine ⟨small2, fun m5 f_m5 => ?_⟩
    have e_m5 := same_new (o := .tup [.int 1, .bl true]) f_m5
    have a_m5 := upd_same (H := M4) (a := m5) (o := .tup [.int 1, .bl true])
    generalize upd M4 m5 (.tup [.int 1, .bl true]) = M5 at e_m5 a_m5 ⊢
    refine ⟨small2, fun m6 f_m6 => ?_⟩
    have e_m6 := same_new (o := .tup [.str (Str.ofString "1"), .int 1]) f_m6
    have a_m6 := upd_same (H := M5) (a := m6) (o := .tup [.str (Str.ofString "1"), .int 1])
    generalize upd M5 m6 (.tup [.str (Str.ofString "1"), .int 1]) = M6 at e_m6 a_m6 ⊢
    refine ⟨(by show 1 ≤ sizeLine; decide), fun m7 f_m7 => ?_⟩
    have e_m7 := same_new (o := .tup [.int 1]) f_m7
    have a_m7 := upd_same (H := M6) (a := m7) (o := .tup [.int 1])
    generalize upd M6 m7 (.tup [.int 1]) = M7 at e_m7 a_m7 ⊢
    refine ⟨4, rfl, small2, fun m9 f_m9 => ?_⟩
    have e_m9 := same_new (o := .tup [.int (-4), .int 6]) f_m9
    have a_m9 := upd_same (H := M7) (a := m9) (o := .tup [.int (-4), .int 6])
    generalize upd M7 m9 (.tup [.int (-4), .int 6]) = M8 at e_m9 a_m9 ⊢
    refine ⟨(by show 10 ≤ sizeLine; decide), fun T2 f_T2 => ?_⟩
    have e_T2 := same_new (o := .tup [.ref m0, .ref m1, .ref m2, .ref m3, .ref m4, .ref m5, .ref m6, .ref m7, .int 1, .ref m9]) f_T2
    have a_T2 := upd_same (H := M8) (a := T2) (o := .tup [.ref m0, .ref m1, .ref m2, .ref m3, .ref m4, .ref m5, .ref m6, .ref m7, .int 1, .ref m9])
    generalize upd M8 T2 (.tup [.ref m0, .ref m1, .ref m2, .ref m3, .ref m4, .ref m5, .ref m6, .ref m7, .int 1, .ref m9]) = MT at e_T2 a_T2 ⊢
    have t_m9 := e_T2
    have t_m7 := e_m9.trans t_m9
    have t_m6 := e_m7.trans t_m7
    have t_m5 := e_m6.trans t_m6
    have t_m4 := e_m5.trans t_m5
    have t_m3 := e_m4.trans t_m4
    have t_m2 := e_m3.trans t_m3
    have t_m1 := e_m2.trans t_m2
    have t_m0 := e_m1.trans t_m1
    have tA := e_m0.trans t_m0
    have od7 := od6.same tA
    refine ⟨_, rfl, st, c, 10, rfl, by decide, lt8 (by decide), od7.y, fun H7 d7 b7 s7 l7 u7 => ?_⟩
    obtain ⟨vn, hat, pn⟩ : ∃ vn, atI ([.ref m0, .ref m1, .ref m2, .ref m3, .ref m4, .ref m5, .ref m6, .ref m7, .int 1, .ref m9] : List V) d7 = some vn ∧ ElP K H7 vn := by
      have cs : d7 = 0 ∨ d7 = 1 ∨ d7 = 2 ∨ d7 = 3 ∨ d7 = 4 ∨ d7 = 5 ∨ d7 = 6 ∨ d7 = 7 ∨ d7 = 8 ∨ d7 = 9 := by omega
      rcases cs with rfl | rfl | rfl | rfl | rfl | rfl | rfl | rfl | rfl | rfl
      · exact ⟨_, atI_nat (j := 0) rfl, ElP.num (c := (0, 1)) (b7.tup od7.y (t_m0 _ _ a_m0)) ⟨by decide, by decide⟩⟩
      · exact ⟨_, atI_nat (j := 1) rfl, ElP.num (c := (2, 4)) (b7.tup od7.y (t_m1 _ _ a_m1)) ⟨by decide, by decide⟩⟩
      · exact ⟨_, atI_nat (j := 2) rfl, ElP.num (c := (1, 0)) (b7.tup od7.y (t_m2 _ _ a_m2)) ⟨by decide, by decide⟩⟩
      · exact ⟨_, atI_nat (j := 3) rfl, ElP.num (c := (1, -1)) (b7.tup od7.y (t_m3 _ _ a_m3)) ⟨by decide, by decide⟩⟩
      · exact ⟨_, atI_nat (j := 4) rfl, .odd (.inr (.inr (.inr (.inr (.inr ⟨_, _, rfl, SqT.of (b7.tup od7.y (t_m4 _ _ a_m4)), .inr ⟨_, _, false, true, rfl, .inr ⟨.inl ⟨_, rfl⟩, rfl⟩, .inl ⟨_, rfl, rfl⟩, rfl⟩⟩)))))⟩
      · exact ⟨_, atI_nat (j := 5) rfl, .odd (.inr (.inr (.inr (.inr (.inr ⟨_, _, rfl, SqT.of (b7.tup od7.y (t_m5 _ _ a_m5)), .inr ⟨_, _, true, false, rfl, .inl ⟨_, rfl, rfl⟩, .inr ⟨.inl ⟨_, rfl⟩, rfl⟩, rfl⟩⟩)))))⟩
      · exact ⟨_, atI_nat (j := 6) rfl, .odd (.inr (.inr (.inr (.inr (.inr ⟨_, _, rfl, SqT.of (b7.tup od7.y (t_m6 _ _ a_m6)), .inr ⟨_, _, false, true, rfl, .inr ⟨.inr ⟨_, rfl⟩, rfl⟩, .inl ⟨_, rfl, rfl⟩, rfl⟩⟩)))))⟩
      · exact ⟨_, atI_nat (j := 7) rfl, .odd (.inr (.inr (.inr (.inr (.inr ⟨_, _, rfl, SqT.of (b7.tup od7.y (t_m7 _ _ a_m7)), .inl (by show 1 ≠ 2; decide)⟩)))))⟩
      · exact ⟨_, atI_nat (j := 8) rfl, .odd oddE_int⟩
      · exact ⟨_, atI_nat (j := 9) rfl, ElP.num (c := (-4, 6)) (b7.tup od7.y (t_m9 _ _ a_m9)) ⟨by decide, by decide⟩⟩
    refine ⟨T2, _, d7, _, rfl, rfl, SqT.of (b7.tup od7.y a_T2), hat, ?_⟩
    have pe7 := (pe.kl (KLs.same tA)).kl (KLs.but b7 od7.y s7)
    have ps7 := (ps.kl (KLs.same tA)).kl (KLs.but b7 od7.y s7)
    have od8 := od7.but b7 s7
    clear hat pe ps tA t_m0 t_m1 t_m2 t_m3 t_m4 t_m5 t_m6 t_m7 t_m9 e_m0 e_m1 e_m2 e_m3 e_m4 e_m5 e_m6 e_m7 e_m9 e_T2 a_m0 a_m1 a_m2 a_m3 a_m4 a_m5 a_m6 a_m7 a_m9 a_T2 f_m0 f_m1 f_m2 f_m3 f_m4 f_m5 f_m6 f_m7 f_m9 f_T2 od7 od6 b7 s7
    have fin : ∀ (H' : Hp) (v : V) (n : Nat), Same H7 H' → TupE K H' v n → Q v H' := fun H' v n S t => q H' v (od8.same S).b (od8.same S).y t.svp
    have one1 : (1 : Nat) ≤ sizeLine := by decide
    refine ⟨_, rfl, way, 4, rfl, rfl, _, rfl, ite2 (fun e => ?_) (fun e => ?_)⟩
    · refine ⟨_, rfl, 1, rfl, -1, rfl, slice_rd od8.t fun H8 v8 S8 t8 => ⟨_, rfl, one1, fun p np => cat_rd (t8.kl (KLs.same (same_new np))) (TupE.one (pn.kl (KLs.same S8)) np) (by decide) fun H9 v9 S9 t9 => fin _ _ _ ((S8.trans (same_new np)).trans S9) t9⟩⟩
    refine ⟨_, rfl, way, 8, rfl, rfl, _, rfl, ite2 (fun e => ?_) (fun e => ?_)⟩
    · refine ⟨_, rfl, _, rfl, at_, rfl, slice_rd od8.t fun H8 v8 S8 t8 => ⟨_, rfl, one1, fun p np => cat_rd (t8.kl (KLs.same (same_new np))) (TupE.one (pe7.kl (KLs.same S8)) np) (by decide) fun H9 v9 S9 t9 => ?_⟩⟩
      have S := (S8.trans (same_new np)).trans S9
      refine ⟨_, rfl, _, rfl, at_, 1, rfl, rfl, at_ + 1, rfl, slice_rd (od8.t.kl (KLs.same S)) fun H10 v10 S10 t10 => cat_rd (t9.kl (KLs.same S10)) t10 (by decide) fun H11 v11 S11 t11 => fin _ _ _ ((S.trans S10).trans S11) t11⟩
    refine ⟨_, rfl, way, 10, rfl, rfl, _, rfl, ite2 (fun e => ?_) (fun e => ?_)⟩
    · refine ⟨_, rfl, _, rfl, at_, rfl, slice_rd od8.t fun H8 v8 S8 t8 => ⟨_, rfl, one1, fun p np => cat_rd (t8.kl (KLs.same (same_new np))) (TupE.one (pe7.kl (KLs.same S8)) np) (by decide) fun H9 v9 S9 t9 => ?_⟩⟩
      have S := (S8.trans (same_new np)).trans S9
      refine ⟨_, rfl, _, rfl, at_, rfl, slice_rd (od8.t.kl (KLs.same S)) fun H10 v10 S10 t10 => cat_rd (t9.kl (KLs.same S10)) t10 (by decide) fun H11 v11 S11 t11 => fin _ _ _ ((S.trans S10).trans S11) t11⟩
    refine ⟨_, rfl, way, 12, rfl, rfl, _, rfl, ite2 (fun e => ?_) (fun e12 => ?_)⟩
    · refine ⟨_, rfl, _, rfl, at_, rfl, slice_rd od8.t fun H8 v8 S8 t8 => ?_⟩
      refine ⟨_, rfl, _, rfl, at_, 1, rfl, rfl, at_ + 1, rfl, slice_rd (od8.t.kl (KLs.same S8)) fun H10 v10 S10 t10 => cat_rd (t8.kl (KLs.same S10)) t10 (by decide) fun H11 v11 S11 t11 => fin _ _ _ ((S8.trans S10).trans S11) t11⟩
    have w12 : ¬ way < 12 := fun y => e12 (decide_eq_true y)
    clear fin
    -- the word spoilt, the list
    refine ⟨_, rfl, s, _, 0, _, rfl, rfl, od8.q, h0, ?_⟩
    have xp : 0 < (x.length : Int) := by omega
    refine ⟨_, rfl, _, rfl, _, x.length, rfl, ⟨x5, rfl⟩, at_, (x.length : Int), rfl, rfl, xp, ?_⟩
    obtain ⟨sp, hsp⟩ : ∃ sp, sp = at_ % (x.length : Int) := ⟨_, rfl⟩
    have od := od8.add ps7
    clear od8
    refine ⟨_, rfl, s, _, rfl, .inr od.q, fun L1 nL1 => ?_⟩
    have eL := same_new (o := .lst xs) nL1
    have oa := ((od.same eL).add (svp_odd (.inr (.inr (.inr (.inr (.inl ⟨L1, xs, rfl, upd_same⟩))))) : SvP K (upd H7 L1 (.lst xs)) (.ref L1)))
    generalize upd H7 L1 (.lst xs) = A1 at oa ⊢
    clear od eL nL1
    have c1 := cutS_length x none (some sp)
    have c2 := cutS_length x (some (sp + 1)) none
    refine ⟨_, rfl, _, rfl, _, rfl, sp, congrArg V.int hsp.symm, x, rfl, x5, _, rfl, _, z, rfl, rfl, Nat.le_of_lt (small1000 (by omega)), _, rfl, _, rfl, sp, 1, congrArg V.int hsp.symm, rfl, sp + 1, rfl, x, rfl, x5, _, _, rfl, rfl, ?_, one1, fun p2 np2 => ?_⟩
    · rw [len_ap2]
      exact Nat.le_of_lt (small1000 (by omega))
    have t2 := TupE.one (ElP.str (K := K) (H := A1) (x := cutS x none (some sp) ++ z ++ cutS x (some (sp + 1)) none)) np2
    have ob := oa.same (same_new (o := .tup [.str (cutS x none (some sp) ++ z ++ cutS x (some (sp + 1)) none)]) np2)
    generalize upd A1 p2 (.tup [.str (cutS x none (some sp) ++ z ++ cutS x (some (sp + 1)) none)]) = A2 at t2 ob ⊢
    clear oa np2
    refine ⟨_, rfl, 1, rfl, slice_rd ob.t fun A3 v3 S3 t3 => cat_rd (t2.kl (KLs.same S3)) t3 (by decide) fun A4 v4 S4 t4 => ?_⟩
    have oc := (ob.same (S3.trans S4)).add t4.svp
    clear ob t2 t3 S3 S4
    refine ⟨_, rfl, _, rfl, _, _, rfl, rfl, Nat.le_of_lt (small1000 (by omega)), one1, fun p5 np5 => ?_⟩
    have t5 := TupE.one (ElP.str (K := K) (H := A4) (x := x ++ z)) np5
    have od := oc.same (same_new (o := .tup [.str (x ++ z)]) np5)
    generalize upd A4 p5 (.tup [.str (x ++ z)]) = A5 at t5 od ⊢
    clear oc np5
    refine ⟨_, rfl, 1, rfl, slice_rd od.t fun A6 v6 S6 t6 => cat_rd (t5.kl (KLs.same S6)) t6 (by decide) fun A7 v7 S7 t7 => ?_⟩
    have oe := (od.same (S6.trans S7)).add t7.svp
    clear od t5 t6 S6 S7
    refine ⟨(by show 4 ≤ sizeLine; decide), fun L nL => ?_⟩
    have nLS := oe.y.fresh nL
    have nLC := oe.y.fresh2 nL
    have nLH : H L = none := oe.b.free oe.y nL
    have hL := upd_same (H := A7) (a := L) (o := .lst [.ref L1, vo, v4, v7])
    have of_ := oe.same (same_new (o := .lst [.ref L1, vo, v4, v7]) nL)
    generalize upd A7 L (.lst [.ref L1, vo, v4, v7]) = B0 at hL of_ ⊢
    clear oe nL
    -- three more
    refine ⟨.ref L, rfl, .inl ⟨rfl, _, SqL.of hL⟩, ?_⟩
    refine ⟨_, rfl, 1, rfl, slice_rd of_.t fun B1 u1 R1 q1 => ⟨_, rfl, one1, fun p np => cat_rd (q1.kl (KLs.same (same_new np))) (TupE.one (ElP.str (K := K) (x := z)) np) (by decide) fun B2 u2 R2 q2 => ?_⟩⟩
    have S12 := (R1.trans (same_new (o := .tup [.str z]) np)).trans R2
    have og := of_.same S12
    refine ⟨_, rfl, 2, rfl, slice_rd og.t fun B3 u3 R3 q3 => cat_rd (q2.kl (KLs.same R3)) q3 (by decide) fun B4 u4 R4 q4 => ?_⟩
    have oh := (og.same (R3.trans R4)).add q4.svp
    have hL4 := (S12.trans (R3.trans R4)) _ _ hL
    clear of_ og S12 R1 q1 np R2 q2 R3 q3 R4 hL
    refine ⟨_, rfl, 1, rfl, slice_rd oh.t fun B5 u5 R5 q5 => ?_⟩
    refine ⟨_, rfl, 1, rfl, 2, rfl, slice_rd (oh.t.kl (KLs.same R5)) fun B6 u6 R6 q6 => cat_rd (q5.kl (KLs.same R6)) q6 (by decide) fun B7 u7 R7 q7 => ?_⟩
    have S57 := (R5.trans R6).trans R7
    refine ⟨_, rfl, 1, rfl, 2, rfl, slice_rd (oh.t.kl (KLs.same S57)) fun B8 u8 R8 q8 => cat_rd (q7.kl (KLs.same R8)) q8 (by decide) fun B9 u9 R9 q9 => ?_⟩
    have S59 := (S57.trans R8).trans R9
    refine ⟨_, rfl, 1, rfl, -1, rfl, slice_rd (oh.t.kl (KLs.same S59)) fun B10 u10 R10 q10 => cat_rd (q9.kl (KLs.same R10)) q10 (by decide) fun B11 u11 R11 q11 => ?_⟩
    have S511 := (S59.trans R10).trans R11
    have oi := (oh.same S511).add q11.svp
    have hL11 := S511 _ _ hL4
    clear oh hL4 R5 q5 R6 q6 R7 q7 S57 R8 q8 R9 q9 S59 R10 q10 R11 S511
    refine ⟨_, rfl, _, rfl, 1, rfl, -1, rfl, slice_rd oi.t fun B12 u12 R12 q12 => cat_rd (oi.t.kl (KLs.same R12)) q12 (by decide) fun B13 u13 R13 q13 => ?_⟩
    have S1213 := R12.trans R13
    have oj := (oi.same S1213).add q13.svp
    have hL13 := S1213 _ _ hL11
    clear oi hL11 R12 q12 R13 S1213
    refine ⟨(by show 3 ≤ sizeLine; decide), fun L2 nL2 => ?_⟩
    have e2 := same_new (o := .lst [u4, u11, u13]) nL2
    have ok := oj.same e2
    have hLk := e2 _ _ hL13
    have hL2 := upd_same (H := B13) (a := L2) (o := .lst [u4, u11, u13])
    generalize upd B13 L2 (.lst [u4, u11, u13]) = C0 at ok hLk hL2 ⊢
    clear oj hL13 e2 nL2
    refine ⟨L, L2, _, _, rfl, rfl, hLk, hL2, (by show 7 ≤ sizeLine; decide), ?_⟩
    have ol := ok.lst (ws := [.ref L1, vo, v4, v7] ++ [u4, u11, u13]) hLk nLH nLS nLC
    have hLl := upd_same (H := C0) (a := L) (o := .lst ([.ref L1, vo, v4, v7] ++ [u4, u11, u13]))
    generalize upd C0 L (.lst ([.ref L1, vo, v4, v7] ++ [u4, u11, u13])) = D0 at ol hLl ⊢
    clear ok hLk hL2
    -- the last three
    refine ⟨_, rfl, _, rfl, 2, rfl, slice_rd ol.t fun D1 w1 R1 q1 => ⟨_, rfl, _, _, rfl, rfl, ?_, one1, fun p np => cat_rd (q1.kl (KLs.same (same_new np))) (TupE.one (ElP.str (K := K)) np) (by decide) fun D2 w2 R2 q2 => ?_⟩⟩
    · have : (Str.ofString "qq").length = 2 := by decide +kernel
      exact Nat.le_of_lt (small1000 (by omega))
    have S12 := (R1.trans (same_new (o := .tup [.str (z ++ Str.ofString "qq")]) np)).trans R2
    refine ⟨_, rfl, 1, rfl, -1, rfl, slice_rd (ol.t.kl (KLs.same S12)) fun D3 w3 R3 q3 => cat_rd (q2.kl (KLs.same R3)) q3 (by decide) fun D4 w4 R4 q4 => ?_⟩
    have S14 := (S12.trans R3).trans R4
    have om := (ol.same S14).add q4.svp
    have hL4 := S14 _ _ hLl
    clear ol hLl R1 q1 np R2 q2 S12 R3 q3 R4 S14
    refine ⟨_, rfl, s, xs, rfl, om.q, fun p5 np5 => ?_⟩
    have e5 := same_new (o := .tup xs.reverse) np5
    have r5 : SvP K (upd D4 p5 (.tup xs.reverse)) (.ref p5) := by
      obtain ⟨es', h2, h3⟩ := om.e
      exact ⟨.tup es'.reverse, ⟨p5, _, rfl, SqT.of upd_same, paired_mono (fun v e h => ElAt.kl h (KLs.same e5)) (paired_rev h2)⟩, fun e he => h3 e (List.mem_reverse.mp he)⟩
    have on := (om.same e5).add r5
    have hL5 := e5 _ _ hL4
    generalize upd D4 p5 (.tup xs.reverse) = D5 at on hL5 ⊢
    clear om hL4 e5 np5 r5
    refine ⟨Nat.zero_le _, fun p6 np6 => ?_⟩
    have e6 := same_new (o := .tup []) np6
    have r6 : SvP K (upd D5 p6 (.tup [])) (.ref p6) := ⟨.tup [], ⟨p6, [], rfl, SqT.of upd_same, .nil⟩, fun e he => by cases he⟩
    have oo := (on.same e6).add r6
    have hL6 := e6 _ _ hL5
    generalize upd D5 p6 (.tup []) = D6 at oo hL6 ⊢
    clear on hL5 e6 np6 r6
    refine ⟨(by show 3 ≤ sizeLine; decide), fun L3 nL3 => ?_⟩
    have e7 := same_new (o := .lst [w4, .ref p5, .ref p6]) nL3
    have hL7 := e7 _ _ hL6
    have hL3 := upd_same (H := D6) (a := L3) (o := .lst [w4, .ref p5, .ref p6])
    have op := oo.same e7
    generalize upd D6 L3 (.lst [w4, .ref p5, .ref p6]) = D7 at hL7 hL3 op ⊢
    refine ⟨L, L3, _, _, rfl, rfl, hL7, hL3, (by show 10 ≤ sizeLine; decide), fun L4 nL4 => ?_⟩
    have e8 := same_new (o := .lst ([.ref L1, vo, v4, v7] ++ [u4, u11, u13] ++ [w4, .ref p5, .ref p6])) nL4
    have hL4 := upd_same (H := D7) (a := L4) (o := .lst ([.ref L1, vo, v4, v7] ++ [u4, u11, u13] ++ [w4, .ref p5, .ref p6]))
    have oq := op.same e8
    generalize upd D7 L4 (.lst ([.ref L1, vo, v4, v7] ++ [u4, u11, u13] ++ [w4, .ref p5, .ref p6])) = D8 at hL4 oq ⊢
    refine ⟨_, rfl, way, 12, rfl, rfl, ?_⟩
    have al : ∀ v ∈ ([.ref L1, vo, v4, v7] ++ [u4, u11, u13] ++ [w4, .ref p5, .ref p6] : List V), SvP K D8 v := fun v hv => oq.a v (by
      simp only [List.mem_append, List.mem_cons, List.not_mem_nil, or_false] at hv ⊢
      rcases hv with ((h | h | h | h) | (h | h | h)) | (h | h | h) <;> simp [h])
    have hk : (way - 12).toNat < 10 := by omega
    obtain ⟨v, hv, hat⟩ : ∃ v, v ∈ ([.ref L1, vo, v4, v7] ++ [u4, u11, u13] ++ [w4, .ref p5, .ref p6] : List V) ∧ atI ([.ref L1, vo, v4, v7] ++ [u4, u11, u13] ++ [w4, .ref p5, .ref p6] : List V) (way - 12) = some v := by
      obtain ⟨v, a, b⟩ := at_mapV (f := fun v : V => v) (xs := ([.ref L1, vo, v4, v7] ++ [u4, u11, u13] ++ [w4, .ref p5, .ref p6] : List V)) (d := way - 12) (by omega) (by show way - 12 < 10; omega)
      rw [List.map_id'] at b
      exact ⟨v, a, b⟩
    exact ⟨L4, _, way - 12, v, rfl, rfl, SqL.of hL4, hat, q _ v oq.b oq.y (al v hv)⟩
end
end SS
namespace SS
open PySem PySem.Spec PyProof.Rows L2
/-! ### the sixteen classes: the fifteen refusals, then StoreError -/
abbrev nms : List Str := ["NoFraction", "NoRow", "NoName", "Stands", "Full", "NoLevel", "NoMark", "NothingDone", "NoPoint", "NoStep", "NoNumber", "NoNames", "NoText", "NoLine", "NoWord", "StoreError"]
structure C16 (K : PySem.W.Frag) (mg : Str → Option Value) (Cs : Nat → Addr) : Prop where
  ext : ∀ i, i < 16 → ExT K mg (nms.getD i "") (Cs i)
  exc : ∀ i, i < 16 → ExcC K (Cs i)
  kit : ∀ i j, i < 16 → j < 15 → PySem.W.kitOne K (.ref (Cs i)) (.ref (Cs j)) = some (decide (i = j))
  kve : ∀ i, i < 16 → PySem.W.kitOne K (.ref (Cs i)) (.type "ValueError") = some true
  exm : ∀ i, i < 16 → PySem.W.exmOne K (.ref (Cs i)) (.ref (Cs 15)) = some true
theorem pe_when {X : Cx} {p : Prop} {e : Expr} {t : TE} (h : p → PE X e t) : PE X e (fun σ H Q => p ∧ t σ H Q) := ⟨fun pins s σ H Q I z => (h z.1).run pins s σ H Q I z.2⟩
end SS
namespace SS
open PySem PySem.Spec PyProof.Rows L2 NumText LamX KyS
theorem kitAny_no {K : PySem.W.Frag} {t : Value} : ∀ {us : List Value}, (∀ u ∈ us, PySem.W.kitOne K t u = some false) → PySem.W.kitAny K t us = some false
  | [], _ => rfl
  | u :: us, h => by
    unfold PySem.W.kitAny
    rw [h u (List.mem_cons_self ..)]
    exact kitAny_no fun v hv => h v (List.mem_cons_of_mem _ hv)
/-- isinstance(e, (c1, c2, ..)), e an error that the context holds -/
def rIsPT (K : PySem.W.Frag) (D a : Addr) : List V → Hp → VK → Prop := fun xs H Q => ∃ (tp : Addr) (cs : List V) (us : List Value) (b : Bool), xs = [.ref a, .ref tp] ∧ H tp = some (.tup cs) ∧ Paired ClsV cs us ∧ PySem.W.kitAny K (.ref D) us = some b ∧ Q (.bl b) H
theorem call_isPT {X : Cx} {a D : Addr} {oe : Obj} (C : ExcC X.K D) (hz : Zc (.ref D) none oe) (hf : ∃ vs, oe.data = .fields vs) (hp : (a, oe) ∈ X.pn) : CallR X (.builtin "isinstance") (rIsPT X.K D a) := by
  intro pins s σ H xs us Q I rr hh
  obtain ⟨tp, cs, ws, b, rfl, hT, pr, ek, q⟩ := hh
  obtain ⟨v1, v2, rfl, ra, rt⟩ := vals2 rr
  cases (show v2 = Value.ref tp from rt)
  cases (show v1 = Value.ref a from ra)
  obtain ⟨got, _⟩ := I.pin (a, oe) (List.mem_append_left _ hp)
  obtain ⟨fs, hv⟩ := hf
  have J : PySem.W.InstAt s.heap a oe D none := by
    obtain ⟨o1, o2, o3, o4⟩ := oe
    obtain ⟨w1, w2⟩ := hz
    dsimp only at w1 w2 hv
    subst w1 w2 hv
    exact ⟨got, rfl, rfl, trivial⟩
  obtain ⟨_, its, rv, ot, t1, t2, n, t3⟩ := (show ObjOk X.prog X.w H s.heap tp (.tup cs) from I.hok tp _ hT)
  have ec := ClsV.all pr rv
  subst ec
  obtain ⟨c1, c2, c3, c4⟩ := ot
  simp only at t2 t3
  subst t2 t3
  exact PySem.W.kia_tup (PySem.W.handS_kitx_exc C.hg C.hk C.hs C.hd C.ha C.hn C.ht C.hm) I.kIn J t1 ek (fun z => nomatch z) fun tk => ⟨.bl b, H, I.kept (t' := tk) fun _ _ z => z, rfl, q⟩
section
variable {P : Program} {w : World} {K : PySem.W.Frag} {mg : Str → Option Value} {base : Heap} {Cs : Nat → Addr}
/-! ### _law_kind6 -/
def spKind6 (a : Addr) : Sp := fun vs H Q _ => vs = [.ref a] ∧ ∀ H', Same H H' → Q (.bl true) H'
theorem scKind6 : FnScope ["_law_e", "_law_others"] ["_law_e"] (defScope sKind6) := ⟨rfl, rfl, rfl, by decide +kernel, rfl, by decide +kernel, by decide +kernel⟩
set_option maxHeartbeats 2000000 in
theorem ok_kind6 {f a : Addr} {oe : Obj} {fd : FuncData} {k : Nat} (F : Fun K "_law_kind6" "_law_kind6" sKind6 f fd) (T : C16 K mg Cs) (mi : mg "isinstance" = none) (mv : mg "ValueError" = none) (hz : Zc (.ref (Cs 9)) none oe) (hf : ∃ vs, oe.data = .fields vs) :
    FnP P w K mg base (k + 1) f fd ["_law_e"] (spKind6 a) (a, oe) := by
  refine Fun.okP F scKind6 (a, oe) (fun vs H Q E h => ?_) (fun cdv A outer s H vs Q E hr h => ?_)
  · obtain ⟨rfl, _⟩ := h
    rfl
  · obtain ⟨rfl, q⟩ := h
    refine ⟨_, pss_cons (ps_set (i := 1) scKind6.nd rfl (.inl rfl) (pe_callB (call_isPT (D := Cs 9) (T.exc 9 (by decide)) hz hf List.mem_cons_self) (by rfl) mi boot_isinstance (pa_cons (pv 0) (pa_cons (pe_tup (pa_cons (pe_glob (v := .ref (Cs 4)) (by rfl) (T.ext 4 (by decide)).gC rfl) (pa_cons (pe_glob (v := .ref (Cs 0)) (by rfl) (T.ext 0 (by decide)).gC rfl) (pa_cons (pe_glob (v := .ref (Cs 5)) (by rfl) (T.ext 5 (by decide)).gC rfl) (pa_cons (pe_glob (v := .ref (Cs 13)) (by rfl) (T.ext 13 (by decide)).gC rfl) (pa_cons (pe_glob (v := .ref (Cs 6)) (by rfl) (T.ext 6 (by decide)).gC rfl) (pa_cons (pe_glob (v := .ref (Cs 2)) (by rfl) (T.ext 2 (by decide)).gC rfl) (pa_cons (pe_glob (v := .ref (Cs 11)) (by rfl) (T.ext 11 (by decide)).gC rfl) (pa_cons (pe_glob (v := .ref (Cs 10)) (by rfl) (T.ext 10 (by decide)).gC rfl) (pa_cons (pe_glob (v := .ref (Cs 8)) (by rfl) (T.ext 8 (by decide)).gC rfl) (pa_cons (pe_glob (v := .ref (Cs 1)) (by rfl) (T.ext 1 (by decide)).gC rfl) pa_nil))))))))))) pa_nil))))
      (pss_cons (ps_set (i := 1) scKind6.nd rfl (.inl rfl) (pe_or (pv 1) (pe_one (pe_callB (call_isPT (D := Cs 9) (T.exc 9 (by decide)) hz hf List.mem_cons_self) (by rfl) mi boot_isinstance (pa_cons (pv 0) (pa_cons (pe_tup (pa_cons (pe_glob (v := .ref (Cs 12)) (by rfl) (T.ext 12 (by decide)).gC rfl) (pa_cons (pe_glob (v := .ref (Cs 14)) (by rfl) (T.ext 14 (by decide)).gC rfl) (pa_cons (pe_glob (v := .ref (Cs 7)) (by rfl) (T.ext 7 (by decide)).gC rfl) (pa_cons (pe_glob (v := .ref (Cs 3)) (by rfl) (T.ext 3 (by decide)).gC rfl) pa_nil))))) pa_nil))))))
      (pss_one (ps_ret (pe_and (pe_callB (call_isP (D := Cs 9) (T.exc 9 (by decide)) hz hf List.mem_cons_self) (by rfl) mi boot_isinstance (pa_cons (pv 0) (pa_cons (pe_glob (v := .ref (Cs 9)) (by rfl) (T.ext 9 (by decide)).gC rfl) pa_nil))) (pe_and (pe_callB (call_isP (D := Cs 9) (T.exc 9 (by decide)) hz hf List.mem_cons_self) (by rfl) mi boot_isinstance (pa_cons (pv 0) (pa_cons (pe_bltn (v := .ty "ValueError") (u := .type "ValueError") (by rfl) mv (by decide +kernel) rfl) pa_nil))) (pe_one (pe_not (pv 1)))))))), ?_⟩
    refine ⟨_, rfl, (by show 10 ≤ sizeLine; decide), fun T1 nT1 => ?_⟩
    have s1 := same_new (o := .tup [.ref (Cs 4), .ref (Cs 0), .ref (Cs 5), .ref (Cs 13), .ref (Cs 6), .ref (Cs 2), .ref (Cs 11), .ref (Cs 10), .ref (Cs 8), .ref (Cs 1)]) nT1
    refine ⟨T1, _, [.ref (Cs 4), .ref (Cs 0), .ref (Cs 5), .ref (Cs 13), .ref (Cs 6), .ref (Cs 2), .ref (Cs 11), .ref (Cs 10), .ref (Cs 8), .ref (Cs 1)], false, rfl, upd_same, (.cons (.own _) (.cons (.own _) (.cons (.own _) (.cons (.own _) (.cons (.own _) (.cons (.own _) (.cons (.own _) (.cons (.own _) (.cons (.own _) (.cons (.own _) .nil)))))))))), kitAny_no (fun u hu => ?_), ?_⟩
    · simp only [List.mem_cons, List.not_mem_nil, or_false] at hu
      rcases hu with rfl | rfl | rfl | rfl | rfl | rfl | rfl | rfl | rfl | rfl
      · exact (T.kit 9 4 (by decide) (by decide)).trans (by rw [decide_eq_false (by decide)])
      · exact (T.kit 9 0 (by decide) (by decide)).trans (by rw [decide_eq_false (by decide)])
      · exact (T.kit 9 5 (by decide) (by decide)).trans (by rw [decide_eq_false (by decide)])
      · exact (T.kit 9 13 (by decide) (by decide)).trans (by rw [decide_eq_false (by decide)])
      · exact (T.kit 9 6 (by decide) (by decide)).trans (by rw [decide_eq_false (by decide)])
      · exact (T.kit 9 2 (by decide) (by decide)).trans (by rw [decide_eq_false (by decide)])
      · exact (T.kit 9 11 (by decide) (by decide)).trans (by rw [decide_eq_false (by decide)])
      · exact (T.kit 9 10 (by decide) (by decide)).trans (by rw [decide_eq_false (by decide)])
      · exact (T.kit 9 8 (by decide) (by decide)).trans (by rw [decide_eq_false (by decide)])
      · exact (T.kit 9 1 (by decide) (by decide)).trans (by rw [decide_eq_false (by decide)])
    refine ⟨_, rfl, _, rfl, iteF ?_⟩
    refine ⟨_, rfl, (by show 4 ≤ sizeLine; decide), fun T2 nT2 => ?_⟩
    have s2 := same_new (o := .tup [.ref (Cs 12), .ref (Cs 14), .ref (Cs 7), .ref (Cs 3)]) nT2
    refine ⟨T2, _, [.ref (Cs 12), .ref (Cs 14), .ref (Cs 7), .ref (Cs 3)], false, rfl, upd_same, (.cons (.own _) (.cons (.own _) (.cons (.own _) (.cons (.own _) .nil)))), kitAny_no (fun u hu => ?_), ?_⟩
    · simp only [List.mem_cons, List.not_mem_nil, or_false] at hu
      rcases hu with rfl | rfl | rfl | rfl
      · exact (T.kit 9 12 (by decide) (by decide)).trans (by rw [decide_eq_false (by decide)])
      · exact (T.kit 9 14 (by decide) (by decide)).trans (by rw [decide_eq_false (by decide)])
      · exact (T.kit 9 7 (by decide) (by decide)).trans (by rw [decide_eq_false (by decide)])
      · exact (T.kit 9 3 (by decide) (by decide)).trans (by rw [decide_eq_false (by decide)])
    refine ⟨_, rfl, _, _, true, rfl, (fun _ r => r), (T.kit 9 9 (by decide) (by decide)).trans rfl, _, rfl, iteT ?_⟩
    refine ⟨_, rfl, _, _, true, rfl, (fun _ r => r), T.kve 9 (by decide), _, rfl, iteT ?_⟩
    exact ⟨_, rfl, _, rfl, q _ (s1.trans s2)⟩
/-! ### _law_asked_for -/
def spAskedFor (K : PySem.W.Frag) (T : List (Addr × Str)) : Sp := fun vs H Q _ => ∃ (a b : Addr) (zs : List Ent) (us : List V) (ds : List Sv) (ts : List Stp) (U : List Str), vs = [.ref a, .ref b] ∧ SqA K H a (zs.map fun z => V.ref z.t) ∧ (∀ z ∈ zs, EntOk K U.length H z) ∧ (zs.map (·.x)).Nodup ∧ zs.length ≤ 400 ∧ U.length ≤ 20 ∧ LamX.Tabs T H ∧
  SqA K H b us ∧ Paired (SvAt K H) us ds ∧ ts.length ≤ ds.length ∧ (∀ (i : Nat) (t : Stp), ts[i]? = some t → ∃ d : Sv, ds[i]? = some d ∧ stpOf ((zs.filter isR).map (·.x)) d = some t) ∧ (ts.length < ds.length → ∃ d : Sv, ds[ts.length]? = some d ∧ stpOf ((zs.filter isR).map (·.x)) d = none) ∧ Way U (zs.map nr) ts ∧
  (ts.length < ds.length → ∀ (H' : Hp) (t : Addr), ExtN H H' → LamX.Tabs T H' → H' t = some (.tup [.str (Str.ofString "NoStep"), .non]) → Q (.ref t) H') ∧
  (ts.length = ds.length → ∀ (H' : Hp) (t l : Addr) (es : List Ent) (L0 : List Nm), ExtN H H' → LamX.Tabs T H' → H' t = some (.tup [.str (Str.ofString "told"), .ref l]) → L0.Perm ((zs.map nr).filter isN) → (L0.map (·.1)).Pairwise leS → es.map nr = ts.foldl stepM L0 → H' l = some (.lst (es.map fun e => V.ref e.t)) → (∀ e ∈ es, EntOk K U.length H' e) → Q (.ref t) H')
theorem scAskedFor : FnScope ["_law_rows", "_law_steps_here", "_law_found", "_law_kind", "_law_e"] ["_law_rows", "_law_steps_here"] (defScope sAskedFor) := ⟨rfl, rfl, rfl, by decide +kernel, rfl, by decide +kernel, by decide +kernel⟩
theorem ok_askedfor {f : Addr} {fd : FuncData} {T : List (Addr × Str)} (F : Fun K "_law_asked_for" "_law_asked_for" sAskedFor f fd) (X : C16 K mg Cs) (sp : Cl P w K mg base (L2.CX P w) 7 "stepped" (spSteppedB K T (Cs 9)) [])
    (kd : ∀ (a : Addr) (oe : Obj), Zc (.ref (Cs 9)) none oe → (∃ vs, oe.data = .fields vs) → ClP P w K mg base 1 "_law_kind6" (spKind6 a) (a, oe)) : FnOk P w K mg base CX0 8 f fd ["_law_rows", "_law_steps_here"] (spAskedFor K T) := by
  refine F.ok scAskedFor (fun vs H Q E h => ?_) (fun cdv A outer s H vs Q E hr h => ?_)
  · obtain ⟨_, _, _, _, _, _, _, rfl, _⟩ := h
    rfl
  · obtain ⟨a, b, zs, us, ds, ts, U, rfl, hS, hz, nd, hl, hU, ht, hb, hst, hle, hto, hno, way, qX, q⟩ := h
    refine ⟨_, pss_cons (ps_set (i := 2) scAskedFor.nd rfl (.inl rfl) pe_non) (pss_cons (ps_set (i := 3) scAskedFor.nd rfl (.inl rfl) pe_str)
      (pss_cons (ps_try_as (i := 4) (Wout := fun _ _ _ _ => False) rfl rfl scAskedFor.nd rfl rfl ⟨rfl, by decide, .inl (X.ext 15 (by decide)).gC⟩ L2.takes0
        (fun W pn xe tk _ => pss_one (ps_set (i := 2) scAskedFor.nd rfl (.inl rfl) (pcS sp hr (by decide) (fun σ => passAt tk σ) (pa_cons (pv 0) (pa_cons (pv 1) pa_nil)))))
        (fun a oe cls d pn hz hf => pss_cons (ps_set (i := 3) scAskedFor.nd rfl (.inl rfl) pe_str) (pss_one (ps_if (pt_val (pe_when (p := cls = .ref (Cs 9) ∧ d = none) (fun ⟨e1, e2⟩ => pcP (kd a oe (by rw [← e1, ← e2]; exact hz) hf) (roomP (hr.mono (by decide)) _) List.mem_cons_self (pa_cons (pv 4) pa_nil)))) (pss_one (ps_set (i := 3) scAskedFor.nd rfl (.inl rfl) pe_str)) pss_nil))))
      (pss_one (ps_ret (pe_tup (pa_cons (pv 3) (pa_cons (pv 2) pa_nil))))))), ?_⟩
    refine ⟨_, rfl, _, rfl, a, b, zs, us, ds, ts, U, rfl, hS, hz, nd, hl, hU, ht, hb, hst, hle, hto, hno, way, fun hlt H1 x1 t1 => ?_, fun heq H1 l es L0 x1 t1 p0 s0 e0 hl1 pe1 _ _ => ?_⟩
    · refine ⟨true, X.exm 9 (by decide), fun _ ae ha => ?_, fun z => Bool.noConfusion z⟩
      refine ⟨⟨rfl, rfl⟩, _, rfl, rfl, fun H' s' => ⟨_, rfl, iteT ?_⟩⟩
      refine ⟨_, rfl, _, rfl, small2, fun t nt => ?_⟩
      have s2 := same_new (o := .tup [.str (Str.ofString "NoStep"), .non]) nt
      exact qX hlt _ t (x1.trans (ExtN.same (s'.trans s2))) ((t1.ext s').ext s2) upd_same
    · refine ⟨_, rfl, _, rfl, small2, fun t nt => ?_⟩
      have s2 := same_new (o := .tup [.str (Str.ofString "told"), .ref l]) nt
      exact q heq _ t l es L0 (x1.trans (ExtN.same s2)) (t1.ext s2) upd_same p0 s0 e0 (s2 _ _ hl1) fun e he => EntOk.same (e := e) ⟨(pe1 e he).1, (pe1 e he).2.1⟩ s2
end
end SS
namespace SS
open PySem PySem.Spec PyProof.Rows L2 NumText LamX KyS
section
variable {P : Program} {w : World} {K : PySem.W.Frag} {mg : Str → Option Value} {base : Heap}
theorem call_lenK {X : Cx} {K : PySem.W.Frag} (hK : K = X.K) : CallR X (.builtin "len") (fun xs H Q => ∃ p ys, xs = [V.ref p] ∧ (SqL K H p ys ∨ SqT K H p ys) ∧ Q (.int ys.length) H) := by
  subst hK
  exact call_len_seq
theorem call_isiK {X : Cx} {K : PySem.W.Frag} (hK : K = X.K) : CallR X (.builtin "isinstance") (rIsi K) := by
  subst hK
  exact call_isi
/-! ### _law_is_pairs -/
theorem xv_ents {m : Nat} {H : Hp} : ∀ {es fs : List Ent}, (∀ e ∈ es, EntOk K m H e) → (∀ f ∈ fs, EntOk K m H f) → es.map nr = fs.map nr → Paired (XV K H 12) (es.map fun e => V.ref e.t) (fs.map fun e => V.ref e.t)
  | [], [], _, _, _ => .nil
  | [], _ :: _, _, _, h => by cases h
  | _ :: _, [], _, _, h => by cases h
  | e :: es, f :: fs, h1, h2, h => by
    rw [List.map_cons, List.map_cons] at h
    injection h with h3 h4
    have ex : e.x = f.x := congrArg Prod.fst h3
    have er : e.R = f.R := congrArg Prod.snd h3
    obtain ⟨a1, kvs, a2⟩ := h1 e List.mem_cons_self
    obtain ⟨b1, ls, b2⟩ := h2 f List.mem_cons_self
    rw [← ex] at b1
    rw [← er] at b2
    exact .cons (.inr (.inr (.inr ⟨_, _, _, _, rfl, rfl, SqT.of a1, SqT.of b1, .cons (xv_str 10 _) (.cons (.inr (.inr (xr_row 7 a2 b2))) .nil)⟩)))
      (xv_ents (fun e he => h1 e (List.mem_cons_of_mem _ he)) (fun f hf => h2 f (List.mem_cons_of_mem _ hf)) h4)
end
end SS
namespace SS
open PySem PySem.Spec PyProof.Rows L2 NumText LamX KyS
section
variable {P : Program} {w : World} {K : PySem.W.Frag} {mg : Str → Option Value} {base : Heap}
theorem tabs_nol {T : List (Addr × Str)} {H H' : Hp} (t : LamX.Tabs T H) (k : NoL H H') : LamX.Tabs T H' := by
  intro p hp
  obtain ⟨ps, a1, a2, a3⟩ := t p hp
  refine ⟨ps, k _ _ (fun ys => by simp) a1, a2, fun pos cv hcv => ?_⟩
  obtain ⟨c0, e1, e2⟩ := a3 pos cv hcv
  exact ⟨c0, e1, k _ _ (fun ys => by unfold CodeO; simp) e2⟩
theorem tabs_dk {T : List (Addr × Str)} {H : Hp} {D : Addr} {l : List (Key × V)} {o : HO} (t : LamX.Tabs T H) (hD : H D = some (.dK l)) : LamX.Tabs T (upd H D o) := by
  intro p hp
  obtain ⟨ps, a1, a2, a3⟩ := t p hp
  refine ⟨ps, by rw [upd_ne (ne_of a1 hD (fun z => by cases z))]; exact a1, a2, fun pos cv hcv => ?_⟩
  obtain ⟨c0, e1, e2⟩ := a3 pos cv hcv
  exact ⟨c0, e1, by rw [upd_ne (ne_of e2 hD (fun z => by unfold CodeO at z; cases z))]; exact e2⟩
theorem cut_from (xs : List V) (k : Nat) : cutV xs (some (k : Int)) none = xs.drop k := by
  unfold cutV
  rw [HT.sIx_none, HT.sIx_nat]
  by_cases h : k ≤ xs.length
  · rw [Nat.min_eq_left h, List.take_of_length_le (by rw [List.length_drop]; exact Nat.le_refl _)]
  · rw [Nat.min_eq_right (by omega), List.drop_length, List.drop_of_length_le (by omega), List.take_nil]
theorem cut3 (xs : List V) : cutV xs none (some 3) = xs.take 3 := by
  unfold cutV
  rw [HT.sIx_none, show HT.sIx xs.length xs.length (some 3) = min 3 xs.length from HT.sIx_nat xs.length xs.length 3]
  show List.take (min 3 xs.length - 0) (xs.drop 0) = xs.take 3
  rw [List.drop_zero, Nat.sub_zero]
  by_cases h : xs.length ≤ 3
  · rw [Nat.min_eq_right h, List.take_length, List.take_of_length_le h]
  · rw [Nat.min_eq_left (by omega)]
theorem dHund_lt2 : dHund < 2 ^ 138 := by decide +kernel
/-- what is known of the rows drawn -/
structure Zp (U : List Str) (zs : List Ent) : Prop where
  nd : (zs.map (·.x)).Nodup
  nm : ∀ z ∈ zs, NmOk z.x
  ln : zs.length ≤ 9
  ul : U.length ≤ 4
  ov : ∀ z ∈ zs, z.R.In U ∧ z.R.Okb 20 ∧ OvR dHund (999 * dHund) z.R
theorem Zp.take {U : List Str} {zs : List Ent} (h : Zp U zs) (n : Nat) : Zp U (zs.take n) :=
  ⟨h.nd.sublist ((List.take_sublist n zs).map _), fun z hz => h.nm z (List.mem_of_mem_take hz), by rw [List.length_take]; exact Nat.le_trans (Nat.min_le_right _ _) h.ln, h.ul, fun z hz => h.ov z (List.mem_of_mem_take hz)⟩
theorem Stp.Ok.mem {xs ys : List Str} {t : Stp} (h : t.Ok xs) (s : ∀ x ∈ xs, x ∈ ys) : t.Ok ys := by
  cases t with
  | tm x c => exact ⟨s _ h.1, h.2⟩
  | ad x y c => exact ⟨s _ h.1, s _ h.2.1, h.2.2⟩
theorem mem_nr {zs : List Ent} {q : Nm} (h : q ∈ (zs.map nr).filter isN) : ∃ z ∈ zs, q = nr z ∧ isR z = true := by
  obtain ⟨h1, h2⟩ := List.mem_filter.mp h
  obtain ⟨z, hz, rfl⟩ := List.mem_map.mp h1
  exact ⟨z, hz, rfl, h2⟩
theorem Zp.way {U : List Str} {zs : List Ent} {ts : List Stp} {ys : List Str} (h : Zp U zs) (py : ys.Perm ((zs.filter isR).map (·.x))) (ok : ∀ t ∈ ts, t.Ok ys) (pD : prodD ts ≤ 2 ^ 1250) (pM : prodM ts ≤ 2 ^ 1250) : Way U (zs.map nr) ts := fun L0 p0 _ => by
  have fN : (zs.filter isR).map nr = (zs.map nr).filter isN := by
    rw [List.filter_map]
    rfl
  have ok' : ∀ t ∈ ts, t.Ok (L0.map (·.1)) := fun t ht => (ok t ht).mem fun x hx => by
    obtain ⟨z, hz, rfl⟩ := List.mem_map.mp (py.mem_iff.mp hx)
    exact List.mem_map.mpr ⟨nr z, p0.mem_iff.mpr (by rw [← fN]; exact List.mem_map.mpr ⟨z, hz, rfl⟩), rfl⟩
  refine ⟨ok', way_of dHund_pos (D := dHund) (M := 999 * dHund) (fun q hq => ?_) ok' ?_ ?_⟩
  · obtain ⟨z, hz, rfl, _⟩ := mem_nr (p0.mem_iff.mp hq)
    exact ⟨(h.ov z hz).1, (h.ov z hz).2.2⟩
  · refine Nat.lt_of_le_of_lt (Nat.mul_le_mul (Nat.le_of_lt dHund_lt) pD) ?_
    rw [← Nat.pow_add]
    exact Nat.pow_lt_pow_right (by decide) (by decide)
  · refine Nat.lt_of_le_of_lt (Nat.mul_le_mul (Nat.mul_le_mul (show 999 ≤ 2 ^ 9 + 2 ^ 9 by decide) (Nat.le_of_lt dHund_lt2)) pM) ?_
    have e : (2 : Nat) ^ 9 + 2 ^ 9 = 2 ^ 10 := by decide
    rw [e, ← Nat.pow_add, ← Nat.pow_add]
    exact Nat.pow_lt_pow_right (by decide) (by decide)
theorem Way.perm {U : List Str} {L L' : List Nm} {ts : List Stp} (h : Way U L ts) (p : L.Perm L') : Way U L' ts := fun L0 p0 s0 => h L0 (p0.trans (p.symm.filter _)) s0
theorem Way.nil {U : List Str} {zs : List Ent} (h : Zp U zs) : Way U (zs.map nr) [] := h.way (ys := (zs.filter isR).map (·.x)) (List.Perm.refl _) (fun t ht => by cases ht) (Nat.one_le_two_pow) (Nat.one_le_two_pow)
theorem fold_names (l : List Stp) : ∀ L : List Nm, (l.foldl stepM L).map (·.1) = L.map (·.1) := by
  induction l with
  | nil => intro L; rfl
  | cons t l ih =>
    intro L
    rw [List.foldl_cons, ih, stepM_names]
theorem Zp.told {U : List Str} {zs es : List Ent} {ts : List Stp} {L0 : List Nm} (h : Zp U zs) (way : Way U (zs.map nr) ts) (p0 : L0.Perm ((zs.map nr).filter isN)) (s0 : (L0.map (·.1)).Pairwise leS) (e : es.map nr = ts.foldl stepM L0) :
    (∀ e ∈ es, NmOk e.x ∧ e.R.Okb 1400) ∧ es.length ≤ 9 := by
  have en : es.map (·.x) = L0.map (·.1) := by
    have z := congrArg (List.map (·.1)) e
    rw [fold_names, List.map_map] at z
    exact z
  refine ⟨fun x hx => ⟨?_, ?_⟩, ?_⟩
  · have m1 : x.x ∈ L0.map (·.1) := by
      rw [← en]
      exact List.mem_map.mpr ⟨x, hx, rfl⟩
    obtain ⟨q, hq, eq⟩ := List.mem_map.mp m1
    obtain ⟨z, hz, rfl, _⟩ := mem_nr (p0.mem_iff.mp hq)
    rw [← eq]
    exact h.nm z hz
  · have m1 : nr x ∈ (ts.take ts.length).foldl stepM L0 := by
      rw [List.take_length, ← e]
      exact List.mem_map.mpr ⟨x, hx, rfl⟩
    exact ((way L0 p0 s0).2 ts.length (nr x) m1).2
  · have l1 := congrArg List.length en
    have l2 := p0.length_eq
    have l3 := List.length_filter_le isN (zs.map nr)
    have := h.ln
    simp only [List.length_map] at l1 l2 l3
    omega
theorem two_rise {zs : List Ent} {L L' : List Nm} (nd : (zs.map (·.x)).Nodup) (p : L.Perm ((zs.map nr).filter isN)) (s : (L.map (·.1)).Pairwise leS) (p' : L'.Perm ((zs.map nr).filter isN)) (s' : (L'.map (·.1)).Pairwise leS) : L = L' := by
  refine leS_uniq (p.trans p'.symm) ?_ s s'
  have q := (p.map (·.1)).nodup_iff
  refine q.mpr ?_
  have e : ((zs.map nr).map (·.1)) = zs.map (·.x) := by
    rw [List.map_map]
    rfl
  have nd' : ((zs.map nr).map (·.1)).Nodup := by rw [e]; exact nd
  exact nd'.sublist ((List.filter_sublist).map _)
/-- the heap on the way of the law -/
structure Bs (K : PySem.W.Frag) (T : List (Addr × Str)) (st c rl : Addr) (U : List Str) (zs : List Ent) (H' : Hp) : Prop where
  s : StA st c H'
  t : LamX.Tabs T H'
  r : H' rl = some (.lst (zs.map fun z => V.ref z.t))
  z : ∀ z ∈ zs, EntOk K U.length H' z
  n : rl ≠ st
section
variable {T : List (Addr × Str)} {st c rl : Addr} {U : List Str} {zs : List Ent} {H1 H2 : Hp}
theorem Bs.but (h : Bs K T st c rl U zs H1) (b : But st H1 H2) (s : StA st c H2) : Bs K T st c rl U zs H2 := ⟨s, tabs_nol h.t (b.nol h.s), b _ _ h.n h.r, fun z hz => (h.z z hz).kp (b.nol h.s), h.n⟩
theorem Bs.same (h : Bs K T st c rl U zs H1) (s : Same H1 H2) : Bs K T st c rl U zs H2 := ⟨h.s.same s, h.t.ext s, s _ _ h.r, fun z hz => (h.z z hz).kp (NoL.same s), h.n⟩
end
theorem pstp_nol {H H' : Hp} {us : List V} {ts : List Stp} (h : Paired (StpAt K H) us ts) (k : NoL H H') : Paired (StpAt K H') us ts := paired_mono (fun v t h => StpAt.kp h k) h
theorem pstp_ext {H H' : Hp} {us : List V} {ts : List Stp} (h : Paired (StpAt K H) us ts) (k : ExtN H H') : Paired (StpAt K H') us ts := paired_mono (fun v t h => h.extN k) h
theorem pstp_xv {n : Nat} {H : Hp} : ∀ {us : List V} {ts : List Stp}, Paired (StpAt K H) us ts → Paired (XV K H (n + 1)) us us
  | _, _, .nil => .nil
  | _, _, .cons (b := t) r p => by
    refine .cons (.inr (.inl ?_)) (pstp_xv p)
    cases t with
    | tm x c =>
      obtain ⟨s, _, e, _⟩ := r
      exact ⟨s, e, e⟩
    | ad x y c =>
      obtain ⟨s, _, e, _⟩ := r
      exact ⟨s, e, e⟩
end
end SS
namespace SS
open PySem PySem.Spec PyProof.Rows L2 NumText LamX KyS
section
variable {P : Program} {w : World} {K : PySem.W.Frag} {mg : Str → Option Value} {base : Heap}
def spSteps16 (K : PySem.W.Frag) : Sp := fun vs H Q _ => ∃ (st c u : Addr) (xs : List Str) (many : Int), vs = [.ref st, .ref u, .int many] ∧ StA st c H ∧ H u = some (.lst (xs.map V.str)) ∧ 0 < xs.length ∧ xs.length ≤ 60 ∧ 0 ≤ many ∧ (many < 13 ∨ many = 40 ∨ many = 200) ∧
  ∀ (H' : Hp) (l : Addr) (us : List V) (ts : List Stp), But st H H' → StA st c H' → H l = none → H' l = some (.lst us) → us.length ≤ 200 → Paired (StpAt K H') us ts → (∀ t ∈ ts, t.Ok xs) → (us.length : Int) ≤ many → (many < 13 → ∀ t ∈ ts, dT t ≤ 2 ^ 101 ∧ mT t ≤ 2 ^ 101) → Q (.ref l) H'
theorem scSteps16 : FnScope ["_law_state", "_law_names_here", "_law_many", "_law_steps_here", "_law_far", "_law_k", "_law_name", "_law_other", "_law_number_here"] ["_law_state", "_law_names_here", "_law_many"] (defScope sSteps) := ⟨rfl, rfl, rfl, by decide +kernel, rfl, by decide +kernel, by decide +kernel⟩
theorem ok_steps16 {f : Addr} {fd : FuncData} (F : Fun K "_law_steps" "_law_steps" sSteps f fd) (mr : mg "range" = none) (ml : mg "len" = none) (mx : mg "max" = none) (mn : mg "min" = none) (tk : Cl P w K mg base CX0 3 "_law_take" spTake []) (fc : Cl P w K mg base CX0 2 "_law_frac" spFrac []) :
    FnOk P w K mg base CX0 4 f fd ["_law_state", "_law_names_here", "_law_many"] (spSteps16 K) := by
  refine F.ok scSteps16 (fun vs H Q E h => ?_) (fun cdv A outer s H vs Q E hr h => ?_)
  · obtain ⟨_, _, _, _, _, rfl, _⟩ := h
    rfl
  · obtain ⟨st, c, u, xs, many, rfl, sa, hu0, x0, xl, m0, hm, q⟩ := h
    refine ⟨_, pss_cons (ps_set (i := 3) scSteps16.nd rfl (.inl rfl) (pe_lst pa_nil))
      (pss_cons (ps_set (i := 4) scSteps16.nd rfl (.inl rfl) (pe_tup (pa_cons pe_int (pa_cons pe_int pa_nil))))
      (pss_cons (ps_if (PW.pt (pw_and (pt_cmpR op_lt (pv 2) pe_int (nomark _)) (pw_and1 (pt_cmpR op_eq (pc0 tk hr (by decide) (pa_cons (pv 0) (pa_cons pe_int pa_nil))) pe_int (nomark _)))))
        (pss_one (ps_set (i := 4) scSteps16.nd rfl (.inl rfl) (pc0 fc hr (by decide) (pa_cons (pe_op op_sub (pe_op op_add (pc0 tk hr (by decide) (pa_cons (pv 0) (pa_cons (pe_op op_sub (pe_op op_pow pe_int pe_int) pe_int) pa_nil))) pe_int) (pe_op op_mul pe_int (pe_op op_pow pe_int pe_int)))
          (pa_cons (pe_op op_add pe_int (pc0 tk hr (by decide) (pa_cons (pv 0) (pa_cons (pe_op op_sub (pe_op op_pow pe_int pe_int) pe_int) pa_nil)))) pa_nil))))) pss_nil)
      (pss_cons (ps_for PassesOwn.never rfl (pi_range1 rfl mr (pa_cons (pv 2) pa_nil)) (pg_name (i := 5) scSteps16.nd rfl (.inl rfl))
        (pss_cons (ps_set (i := 6) scSteps16.nd rfl (.inl rfl) (pe_ix ix_list (pv 1) (pc0 tk hr (by decide) (pa_cons (pv 0) (pa_cons (pe_callB call_len_seq (by rfl) ml PySem.boot_len (pa_cons (pv 1) pa_nil)) pa_nil))) (fun _ _ => rfl)))
        (pss_cons (ps_set (i := 7) scSteps16.nd rfl (.inl rfl) (pe_ix ix_list (pv 1) (pc0 tk hr (by decide) (pa_cons (pv 0) (pa_cons (pe_callB call_len_seq (by rfl) ml PySem.boot_len (pa_cons (pv 1) pa_nil)) pa_nil))) (fun _ _ => rfl)))
        (pss_cons (ps_set (i := 8) scSteps16.nd rfl (.inl rfl) (pe_ix ix_tup (pe_tup (pa_cons (pe_tup (pa_cons pe_int (pa_cons pe_int pa_nil))) (pa_cons (pe_tup (pa_cons pe_int (pa_cons pe_int pa_nil))) (pa_cons (pe_tup (pa_cons (pe_un un_neg pe_int) (pa_cons pe_int pa_nil)))
          (pa_cons (pe_tup (pa_cons pe_int (pa_cons pe_int pa_nil))) (pa_cons (pe_tup (pa_cons (pe_un un_neg pe_int) (pa_cons pe_int pa_nil))) (pa_cons (pe_tup (pa_cons pe_int (pa_cons pe_int pa_nil))) (pa_cons (pe_tup (pa_cons (pe_un un_neg pe_int) (pa_cons pe_int pa_nil))) (pa_cons (pv 4) pa_nil)))))))))
          (pc0 tk hr (by decide) (pa_cons (pv 0) (pa_cons pe_int pa_nil))) (fun _ _ => rfl)))
        (pss_cons (ps_if (pt_cmpR op_gt (pv 2) pe_int (nomark _)) (pss_one (ps_set (i := 8) scSteps16.nd rfl (.inl rfl) (pe_tup (pa_cons (pe_callB (call_max2 rfl) (by rfl) mx (by decide +kernel) (pa_cons (pe_un un_neg pe_int) (pa_cons (pe_callB (call_min2 rfl) (by rfl) mn (by decide +kernel) (pa_cons pe_int (pa_cons (pe_ix ix_tup (pv 8) pe_int (fun _ _ => rfl)) pa_nil))) pa_nil))) (pa_cons pe_int pa_nil))))) pss_nil)
        (pss_one (ps_if (pt_cmpR op_ne (pv 6) (pv 7) (nomark _))
          (pss_one (ps_expr (pe_bm PySem.F.plainAttrs_list PySem.F.slot_list_append PySem.F.type_list_append mt_append (pv 3) (pa_cons (pe_tup (pa_cons pe_str (pa_cons (pv 6) (pa_cons (pv 7) (pa_cons (pv 8) pa_nil))))) pa_nil))))
          (pss_one (ps_if (pt_cmpR op_ne (pe_ix ix_tup (pv 8) pe_int (fun _ _ => rfl)) pe_int (nomark _))
            (pss_one (ps_expr (pe_bm PySem.F.plainAttrs_list PySem.F.slot_list_append PySem.F.type_list_append mt_append (pv 3) (pa_cons (pe_tup (pa_cons pe_str (pa_cons (pv 6) (pa_cons (pv 8) pa_nil)))) pa_nil)))) pss_nil)))))))))
      (pss_one (ps_ret (pv 3)))))), ?_⟩
    refine ⟨by show 0 ≤ sizeLine; exact Nat.zero_le _, fun L nL => ?_⟩
    have s0 := same_new (o := .lst []) nL
    refine ⟨(by show 2 ≤ sizeLine; decide), fun pf npf => ?_⟩
    have s1 := same_new (o := .tup [.int 1, .int 1]) npf
    have S1 := s0.trans s1
    have sa1 := sa.same S1
    have Lst : L ≠ st := fun z => by
      obtain ⟨i, n, f, xs, g1, _⟩ := sa
      rw [z, g1] at nL
      cases nL
    have hL1 := s1 _ _ (upd_same (H := H) (a := L) (o := .lst []))
    have hp1 := upd_same (H := upd H L (.lst [])) (a := pf) (o := .tup [.int 1, .int 1])
    generalize upd (upd H L (.lst [])) pf (.tup [.int 1, .int 1]) = H1 at S1 sa1 hL1 hp1
    have o11 : SS.Okb 100 (1, 1) := ⟨by decide, by decide, by decide, by decide⟩
    refine' mid (C := _) (Inv := fun σ H' => ∃ (p : Addr) (far : Int × Int), σ = [some (.ref st), some (.ref u), some (.int many), some (.ref L), some (.ref p), none, none, none, none] ∧ But st H H' ∧ StA st c H' ∧ H' L = some (.lst []) ∧ H' p = some (.tup [.int far.1, .int far.2]) ∧ SS.Okb 100 far ∧ (13 ≤ many → far = (1, 1))) (fun key => ?main) ?rest
    case main =>
      refine ⟨_, rfl, many, 13, rfl, rfl, _, rfl, ite2 (fun e => ?ya) (fun e => ?yb)⟩
      case yb =>
        refine iteF ?_
        unfold tNext
        exact key _ _ ⟨pf, (1, 1), rfl, Same.but S1, sa1, hL1, hp1, o11, fun _ => rfl⟩
      case ya =>
        have m13 : many < 13 := of_decide_eq_true e
        refine ⟨_, rfl, st, c, 8, rfl, by decide, lt8 (by decide), sa1, fun H2 d b2 s2 _ _ => ⟨rfl, _, rfl, ite2 (fun _ => ?yaa) (fun _ => ?yab)⟩⟩
        case yab => exact key _ _ ⟨pf, (1, 1), rfl, (Same.but S1).trans b2, s2, b2 _ _ Lst hL1, b2.tup sa1 hp1, o11, fun _ => rfl⟩
        case yaa =>
          refine ⟨_, rfl, 10, 30, rfl, rfl, ⟨by decide, by decide, by decide⟩, _, 1, rfl, rfl, st, c, _, rfl, by decide, lt8 (by decide), s2, fun H3 d3 b3 s3 l3 u3 => ?_⟩
          refine ⟨d3, 1, rfl, rfl, 10, 29, rfl, rfl, ⟨by decide, by decide, by decide⟩, 2, _, rfl, rfl, .inl ⟨by decide, by decide⟩, _, _, rfl, rfl, ?_⟩
          refine ⟨_, rfl, 10, 30, rfl, rfl, ⟨by decide, by decide, by decide⟩, _, 1, rfl, rfl, st, c, _, rfl, by decide, lt8 (by decide), s3, fun H4 d4 b4 s4 l4 u4 => ?_⟩
          have u3' : d3 < 10 ^ 30 := Int.lt_of_lt_of_le u3 (by decide)
          have u4' : d4 < 10 ^ 30 := Int.lt_of_lt_of_le u4 (by decide)
          have b0 : (1 : Int) + d4 ≠ 0 := by omega
          have bl : (1 + d4).natAbs < 2 ^ 100 := by omega
          refine ⟨1, d4, rfl, rfl, d3 + 1 - 2 * 10 ^ 29, 1 + d4, rfl, b0, lt8 bl, fun p np => ?_⟩
          have tl : (d3 + 1 - 2 * 10 ^ 29).natAbs < 2 ^ 100 := by omega
          have sp := same_new (o := .tup [.int (fr1 (d3 + 1 - 2 * 10 ^ 29) (1 + d4)), .int (fr2 (d3 + 1 - 2 * 10 ^ 29) (1 + d4))]) np
          have B4 := (((Same.but S1).trans b2).trans b3).trans b4
          have hL4 := b4 _ _ Lst (b3 _ _ Lst (b2 _ _ Lst hL1))
          have lo := lo_fr (t := d3 + 1 - 2 * 10 ^ 29) b0
          exact key _ _ ⟨p, (fr1 (d3 + 1 - 2 * 10 ^ 29) (1 + d4), fr2 (d3 + 1 - 2 * 10 ^ 29) (1 + d4)), rfl, B4.trans (Same.but sp), s4.same sp, sp _ _ hL4, upd_same,
            ⟨lo.1, Nat.lt_of_le_of_lt (fr1_le b0) tl, Nat.lt_of_le_of_lt (fr2_le b0) bl, lo.2⟩, fun h => by omega⟩
    case rest =>
      rintro σ H1 ⟨p, far, rfl, B1, sa1, hL1, hp1, okf, hfar⟩
      have nu := strs_ne sa hu0
      have Lc := sa.fresh2 nL
      have Lu : L ≠ u := fun z => by rw [z, hu0] at nL; cases nL
      obtain ⟨bd, hbd, hb1, hb2, hb3⟩ : ∃ bd : Nat, bd * many.toNat ≤ 1250 ∧ (many < 13 → bd = 101) ∧ (many = 40 → bd = 3) ∧ (many = 200 → bd = 1) := by
        rcases hm with h | h | h
        · exact ⟨101, by omega, fun _ => rfl, fun _ => by omega, fun _ => by omega⟩
        · exact ⟨3, by subst h; decide, fun _ => by omega, fun _ => rfl, fun _ => by omega⟩
        · exact ⟨1, by subst h; decide, fun _ => by omega, fun _ => by omega, fun _ => rfl⟩
      have el : ((xs.map V.str).length : Int) = (xs.length : Int) := by rw [List.length_map]
      have lp : 0 < (xs.length : Int) := by omega
      have m2 : many ≤ 200 := by omega
      refine ⟨_, rfl, many, rfl, by omega, by omega, for_range (n := many.toNat) (fun i σ H' => ∃ (y5 y6 y7 y8 : Option V) (us : List V) (ts : List Stp), σ = [some (.ref st), some (.ref u), some (.int many), some (.ref L), some (.ref p), y5, y6, y7, y8] ∧ But st H H' ∧ StA st c H' ∧ H' L = some (.lst us) ∧ H' p = some (.tup [.int far.1, .int far.2]) ∧ us.length ≤ i ∧ Paired (StpAt K H') us ts ∧ ∀ t ∈ ts, t.Ok xs ∧ dT t ≤ 2 ^ bd ∧ mT t ≤ 2 ^ bd)
        ⟨none, none, none, none, [], [], rfl, B1, sa1, hL1, hp1, Nat.le_refl _, .nil, fun t ht => by cases ht⟩ ?turn ?after⟩
      case after =>
        rintro σ H2 ⟨y5, y6, y7, y8, us, ts, rfl, B2, sa2, hL2, hp2, hlen, pd, ht⟩
        have lts : us.length = ts.length := Paired.length pd
        exact ⟨_, rfl, q H2 L us ts B2 sa2 nL hL2 (by omega) pd (fun t h => (ht t h).1) (by omega) (fun h13 t h => by have z := (ht t h).2; rw [hb1 h13] at z; exact z)⟩
      case turn =>
        rintro i σ H2 hi ⟨y5, y6, y7, y8, us, ts, rfl, B2, sa2, hL2, hp2, hlen, pd, ht⟩
        have hu2 := B2 _ _ nu hu0
        refine ⟨_, rfl, _, rfl, _, rfl, u, _, rfl, .inl (SqL.of hu2), st, c, (xs.length : Int), congrArg (fun z => [V.ref st, V.int z]) el, lp, lt8 (by omega), sa2, fun H3 d3 b3 s3 l3 u3 => ?_⟩
        obtain ⟨x, hxi, hat⟩ := at_str (xs := xs) l3 u3
        refine ⟨u, _, d3, _, rfl, rfl, SqL.of (b3 _ _ nu hu2), hat, ?_⟩
        have hu3 := b3 _ _ nu hu2
        refine ⟨_, rfl, _, rfl, _, rfl, u, _, rfl, .inl (SqL.of hu3), st, c, (xs.length : Int), congrArg (fun z => [V.ref st, V.int z]) el, lp, lt8 (by omega), s3, fun H4 d4 b4 s4 l4 u4 => ?_⟩
        obtain ⟨y, hyi, hat4⟩ := at_str (xs := xs) l4 u4
        refine ⟨u, _, d4, _, rfl, rfl, SqL.of (b4 _ _ nu hu3), hat4, ?_⟩
        have b24 := b3.trans b4
        have hp4 := b24.tup sa2 hp2
        have pd4 := paired_mono (fun v t h => StpAt.kp h (b24.kp sa2)) pd
        have hL4 := b24 _ _ Lst hL2
        have B4 := B2.trans b24
        clear b24 b3 b4 sa2 s3 hu2 hu3 hp2 hL2 B2 pd
        have sa4 := s4
        clear s4 hat hat4 l3 u3 l4 u4 sa1 hL1 hp1 B1
        -- the numbers
        refine ⟨small2, fun n0 f0 => ?_⟩
        have e0 := same_new (o := .tup [.int 0, .int 1]) f0
        have a0 := upd_same (H := H4) (a := n0) (o := .tup [.int 0, .int 1])
        generalize upd H4 n0 (.tup [.int 0, .int 1]) = G0 at e0 a0 ⊢
        refine ⟨small2, fun n1 f1 => ?_⟩
        have e1 := same_new (o := .tup [.int 1, .int 1]) f1
        have a1 := upd_same (H := G0) (a := n1) (o := .tup [.int 1, .int 1])
        generalize upd G0 n1 (.tup [.int 1, .int 1]) = G1 at e1 a1 ⊢
        refine ⟨1, rfl, small2, fun n2 f2 => ?_⟩
        have e2 := same_new (o := .tup [.int (-1), .int 1]) f2
        have a2 := upd_same (H := G1) (a := n2) (o := .tup [.int (-1), .int 1])
        generalize upd G1 n2 (.tup [.int (-1), .int 1]) = G2 at e2 a2 ⊢
        refine ⟨small2, fun n3 f3 => ?_⟩
        have e3 := same_new (o := .tup [.int 2, .int 1]) f3
        have a3 := upd_same (H := G2) (a := n3) (o := .tup [.int 2, .int 1])
        generalize upd G2 n3 (.tup [.int 2, .int 1]) = G3 at e3 a3 ⊢
        refine ⟨1, rfl, small2, fun n4 f4 => ?_⟩
        have e4 := same_new (o := .tup [.int (-1), .int 2]) f4
        have a4 := upd_same (H := G3) (a := n4) (o := .tup [.int (-1), .int 2])
        generalize upd G3 n4 (.tup [.int (-1), .int 2]) = G4 at e4 a4 ⊢
        refine ⟨small2, fun n5 f5 => ?_⟩
        have e5 := same_new (o := .tup [.int 2, .int 3]) f5
        have a5 := upd_same (H := G4) (a := n5) (o := .tup [.int 2, .int 3])
        generalize upd G4 n5 (.tup [.int 2, .int 3]) = G5 at e5 a5 ⊢
        refine ⟨3, rfl, small2, fun n6 f6 => ?_⟩
        have e6 := same_new (o := .tup [.int (-3), .int 1]) f6
        have a6 := upd_same (H := G5) (a := n6) (o := .tup [.int (-3), .int 1])
        generalize upd G5 n6 (.tup [.int (-3), .int 1]) = G6 at e6 a6 ⊢
        refine ⟨_, rfl, (by show 8 ≤ sizeLine; decide), fun T fT => ?_⟩
        have eT := same_new (o := .tup [.ref n0, .ref n1, .ref n2, .ref n3, .ref n4, .ref n5, .ref n6, .ref p]) fT
        have aT := upd_same (H := G6) (a := T) (o := .tup [.ref n0, .ref n1, .ref n2, .ref n3, .ref n4, .ref n5, .ref n6, .ref p])
        generalize upd G6 T (.tup [.ref n0, .ref n1, .ref n2, .ref n3, .ref n4, .ref n5, .ref n6, .ref p]) = GT at eT aT ⊢
        have t6 := eT
        have t5 := e6.trans t6
        have t4 := e5.trans t5
        have t3 := e4.trans t4
        have t2 := e3.trans t3
        have t1 := e2.trans t2
        have t0 := e1.trans t1
        have tA := e0.trans t0
        have saT := sa4.same tA
        refine ⟨_, rfl, st, c, 8, rfl, by decide, lt8 (by decide), saT, fun H5 d5 b5 s5 l5 u5 => ?_⟩
        obtain ⟨r, cc, hat, hr5, okc, smc⟩ : ∃ (r : Addr) (cc : Int × Int), atI [V.ref n0, .ref n1, .ref n2, .ref n3, .ref n4, .ref n5, .ref n6, .ref p] d5 = some (.ref r) ∧ H5 r = some (.tup [.int cc.1, .int cc.2]) ∧ SS.Okb 100 cc ∧ (13 ≤ many → cc.2.natAbs + cc.1.natAbs ≤ 8) := by
          have cs : d5 = 0 ∨ d5 = 1 ∨ d5 = 2 ∨ d5 = 3 ∨ d5 = 4 ∨ d5 = 5 ∨ d5 = 6 ∨ d5 = 7 := by omega
          rcases cs with rfl | rfl | rfl | rfl | rfl | rfl | rfl | rfl
          · exact ⟨n0, (0, 1), atI_nat (j := 0) rfl, b5.tup saT (t0 _ _ a0), ⟨by decide, by decide, by decide, by decide⟩, fun _ => by decide⟩
          · exact ⟨n1, (1, 1), atI_nat (j := 1) rfl, b5.tup saT (t1 _ _ a1), ⟨by decide, by decide, by decide, by decide⟩, fun _ => by decide⟩
          · exact ⟨n2, (-1, 1), atI_nat (j := 2) rfl, b5.tup saT (t2 _ _ a2), ⟨by decide, by decide, by decide, by decide⟩, fun _ => by decide⟩
          · exact ⟨n3, (2, 1), atI_nat (j := 3) rfl, b5.tup saT (t3 _ _ a3), ⟨by decide, by decide, by decide, by decide⟩, fun _ => by decide⟩
          · exact ⟨n4, (-1, 2), atI_nat (j := 4) rfl, b5.tup saT (t4 _ _ a4), ⟨by decide, by decide, by decide, by decide⟩, fun _ => by decide⟩
          · exact ⟨n5, (2, 3), atI_nat (j := 5) rfl, b5.tup saT (t5 _ _ a5), ⟨by decide, by decide, by decide, by decide⟩, fun _ => by decide⟩
          · exact ⟨n6, (-3, 1), atI_nat (j := 6) rfl, b5.tup saT (t6 _ _ a6), ⟨by decide, by decide, by decide, by decide⟩, fun _ => by decide⟩
          · exact ⟨p, far, atI_nat (j := 7) rfl, b5.tup saT (tA _ _ hp4), okf, fun h => by rw [hfar h]; decide⟩
        refine ⟨T, _, d5, _, rfl, rfl, SqT.of (b5.tup saT aT), hat, ?_⟩
        have B5 := (B4.trans (Same.but tA)).trans b5
        have hL5 := b5 _ _ Lst (tA _ _ hL4)
        have hp5 := b5.tup saT (tA _ _ hp4)
        have pd5 := paired_mono (fun v t h => StpAt.kp h (b5.kp saT)) (paired_mono (fun v t h => StpAt.kp h (fun b o _ e => tA _ _ e)) pd4)
        clear hat a0 a1 a2 a3 a4 a5 a6 aT f0 f1 f2 f3 f4 f5 f6 fT e0 e1 e2 e3 e4 e5 e6 eT t0 t1 t2 t3 t4 t5 t6 tA hL4 hp4 pd4 B4 sa4 saT b5
        -- the number at hand
        refine' mid (C := _) (Inv := fun σ H' => ∃ (q : Addr) (c' : Int × Int), σ = [some (.ref st), some (.ref u), some (.int many), some (.ref L), some (.ref p), some (.int (0 + (i : Nat))), some (.str x), some (.str y), some (.ref q)] ∧ But st H H' ∧ StA st c H' ∧ H' L = some (.lst us) ∧ H' p = some (.tup [.int far.1, .int far.2]) ∧ Paired (StpAt K H') us ts ∧ FrT K H' q c'.1 c'.2 ∧ SS.Okb 105 c' ∧ c'.2.natAbs + c'.1.natAbs ≤ 2 ^ bd) (fun key => ?m2) ?r2
        case m2 =>
          refine ⟨_, rfl, many, 100, rfl, rfl, _, rfl, ite2 (fun e => ?ya) (fun e => ?yb)⟩
          case yb =>
            have e' : ¬ many > 100 := fun z => e (decide_eq_true z)
            dsimp only
            refine key _ _ ?_
            refine ⟨r, cc, rfl, B5, s5, hL5, hp5, pd5, FrT.of hr5, okc.mono (by decide), ?_⟩
            rcases hm with h | h | h
            · rw [hb1 h]
              have z1 : cc.1.natAbs < 2 ^ 100 := okc.2.1
              have z2 : cc.2.natAbs < 2 ^ 100 := okc.2.2.1
              have : (2 : Nat) ^ 101 = 2 ^ 100 + 2 ^ 100 := by decide
              omega
            · rw [hb2 h]
              exact smc (by omega)
            · omega
          case ya =>
            have e' : many > 100 := of_decide_eq_true e
            have m200 : many = 200 := by omega
            refine ⟨1, rfl, _, rfl, r, _, 0, _, rfl, rfl, SqT.of hr5, atI_nat (j := 0) rfl, 1, cc.1, rfl, -1, _, rfl, small2, fun n nn => ?_⟩
            have lo : ∃ w : Int, w = (if (if cc.1 < 1 then cc.1 else 1) > -1 then (if cc.1 < 1 then cc.1 else 1) else -1) ∧ -1 ≤ w ∧ w ≤ 1 := by
              refine ⟨_, rfl, ?_, ?_⟩ <;> split <;> (try split) <;> omega
            obtain ⟨w, ew, w1, w2⟩ := lo
            rw [← ew]
            have en := same_new (o := .tup [.int w, .int 1]) nn
            refine key _ _ ?_
            refine ⟨n, (w, 1), rfl, B5.trans (Same.but en), s5.same en, en _ _ hL5, en _ _ hp5, paired_mono (fun v t h => StpAt.kp h (fun b o _ e => en _ _ e)) pd5, FrT.of upd_same, ⟨(by show (0 : Int) < 1; decide), ?_, (by show (1 : Int).natAbs < 2 ^ 105; decide), Int.gcd_one_right _⟩, ?_⟩
            · show w.natAbs < 2 ^ 105
              have : (2 : Nat) ≤ 2 ^ 105 := by decide
              omega
            · rw [hb3 m200]
              show (1 : Int).natAbs + w.natAbs ≤ 2 ^ 1
              have : (1 : Int).natAbs = 1 := rfl
              omega
        case r2 =>
          clear hr5 okc smc hL5 hp5 pd5 s5 B5
          rintro σ H6 ⟨q', c', rfl, B6, s6, hL6, hp6, pd6, fq, okc, smc⟩
          have fin : ∀ (H7 : Hp) (s : Addr) (t : Stp), Same H6 H7 → StpAt K H7 (.ref s) t → t.Ok xs → t.num = c' →
              ∃ (y5 y6 y7 y8 : Option V) (us' : List V) (ts' : List Stp), [some (V.ref st), some (.ref u), some (.int many), some (.ref L), some (.ref p), some (.int (0 + (i : Nat))), some (.str x), some (.str y), some (.ref q')] = [some (.ref st), some (.ref u), some (.int many), some (.ref L), some (.ref p), y5, y6, y7, y8] ∧
                But st H (upd H7 L (.lst (us ++ [.ref s]))) ∧ StA st c (upd H7 L (.lst (us ++ [.ref s]))) ∧ (upd H7 L (.lst (us ++ [.ref s]))) L = some (.lst us') ∧ (upd H7 L (.lst (us ++ [.ref s]))) p = some (.tup [.int far.1, .int far.2]) ∧ us'.length ≤ i + 1 ∧ Paired (StpAt K (upd H7 L (.lst (us ++ [.ref s])))) us' ts' ∧ ∀ t ∈ ts', t.Ok xs ∧ dT t ≤ 2 ^ bd ∧ mT t ≤ 2 ^ bd := fun H7 s t S7 hs ok en => by
            have hL7 := S7 _ _ hL6
            have kp : ∀ b o, (∀ ys, o ≠ .lst ys) → H7 b = some o → (upd H7 L (.lst (us ++ [.ref s]))) b = some o := fun b o n e => by
              rw [upd_ne fun z => ?_]
              · exact e
              · rw [z, hL7] at e
                exact n _ (Option.some.inj e).symm
            refine ⟨_, _, _, _, us ++ [.ref s], ts ++ [t], rfl, ?_, (s6.same S7).other Lst Lc, upd_same, kp _ _ (fun ys => by simp) (S7 _ _ hp6), ?_, ?_, ?_⟩
            · intro b o nb e
              rw [upd_ne fun z => ?_]
              · exact S7 _ _ (B6 b o nb e)
              · rw [z, nL] at e
                cases e
            · rw [List.length_append]
              exact Nat.add_le_add_right hlen 1
            · exact paired_mono (fun v t h => StpAt.kp h kp) (paired_snoc (paired_mono (fun v t h => StpAt.kp h (fun b o _ e => S7 _ _ e)) pd6) hs)
            · intro t' ht'
              rcases List.mem_append.mp ht' with z | z
              · exact ht t' z
              · obtain rfl := List.mem_singleton.mp z
                refine ⟨ok, ?_, ?_⟩
                · unfold dT
                  rw [en]
                  omega
                · unfold mT
                  rw [en]
                  exact smc
          refine ⟨_, rfl, _, rfl, rfl, _, rfl, ite2 (fun e => ?ya) (fun e => ?yb)⟩
          case ya =>
            have xy : x ≠ y := fun z => by
              rw [z] at e
              simp at e
            refine ⟨.ref L, rfl, .inl ⟨rfl, _, SqL.of hL6⟩, _, rfl, _, rfl, _, rfl, (by show 4 ≤ sizeLine; decide), fun s fs => ?_⟩
            have es := same_new (o := .tup [.str (Str.ofString "add"), .str x, .str y, .ref q']) fs
            exact ⟨L, _, _, rfl, rfl, es _ _ hL6, small1000 (by omega), fin _ s (.ad x y c') es ⟨s, q', rfl, SqT.of upd_same, fq.new es⟩ ⟨hxi, hyi, xy, okc⟩ rfl⟩
          case yb =>
            refine ⟨_, rfl, q', _, 0, _, rfl, rfl, fq.1, atI_nat (j := 0) rfl, rfl, _, rfl, ite2 (fun e2 => ?yba) (fun e2 => ?ybb)⟩
            case ybb => exact ⟨_, _, _, _, us, ts, rfl, B6, s6, hL6, hp6, Nat.le_succ_of_le hlen, pd6, ht⟩
            case yba =>
              have c0 : c'.1 ≠ 0 := fun z => by
                rw [z] at e2
                simp at e2
              refine ⟨.ref L, rfl, .inl ⟨rfl, _, SqL.of hL6⟩, _, rfl, _, rfl, (by show 3 ≤ sizeLine; decide), fun s fs => ?_⟩
              have es := same_new (o := .tup [.str (Str.ofString "times"), .str x, .ref q']) fs
              exact ⟨L, _, _, rfl, rfl, es _ _ hL6, small1000 (by omega), fin _ s (.tm x c') es ⟨s, q', rfl, SqT.of upd_same, fq.new es⟩ ⟨hxi, c0, okc⟩ rfl⟩
end
end SS
namespace SS
open PySem PySem.Spec PyProof.Rows L2 NumText LamX KyS
/-! ### right steps as steps of any kind -/
def Stp.sv : Stp → Sv
  | .tm x c => .tup [.str (Str.ofString "times"), .str x, .num c]
  | .ad x y c => .tup [.str (Str.ofString "add"), .str x, .str y, .num c]
theorem StpAt.sv {K : PySem.W.Frag} {H : Hp} {v : V} {t : Stp} (h : StpAt K H v t) : SvAt K H v t.sv := by
  cases t with
  | tm x c =>
    obtain ⟨s, n, e, h1, h2⟩ := h
    exact ⟨s, _, e, h1, .cons rfl (.cons rfl (.cons ⟨n, rfl, h2⟩ .nil))⟩
  | ad x y c =>
    obtain ⟨s, n, e, h1, h2⟩ := h
    exact ⟨s, _, e, h1, .cons rfl (.cons rfl (.cons rfl (.cons ⟨n, rfl, h2⟩ .nil)))⟩
theorem Okb.frD {n : Nat} {c : Int × Int} (h : SS.Okb n c) : frD c = true := decide_eq_true ⟨h.1, h.2.2.2⟩
theorem Stp.Ok.of {names : List Str} {t : Stp} (h : t.Ok names) : stpOf names t.sv = some t := by
  cases t with
  | tm x c =>
    show (if _ then _ else _) = _
    rw [if_pos ⟨rfl, h.1, Okb.frD h.2.2, h.2.1⟩]
  | ad x y c =>
    show (if _ then _ else _) = _
    rw [if_pos ⟨rfl, h.1, h.2.1, h.2.2.1, Okb.frD h.2.2.2⟩]
theorem Stp.Ok.bd {names : List Str} {t : Stp} (h : t.Ok names) : t.sv.Bd := by
  have b : Bn t.num := ⟨h.nm.2.2.2.1, h.nm.2.2.2.2.1⟩
  cases t with
  | tm x c =>
    intro e he c' ec
    subst ec
    have he' : El.num c' ∈ [El.str (Str.ofString "times"), .str x, .num c] := he
    simp only [List.mem_cons, List.not_mem_nil, or_false, reduceCtorEq, false_or, El.num.injEq] at he'
    rw [he']
    exact b
  | ad x y c =>
    intro e he c' ec
    subst ec
    have he' : El.num c' ∈ [El.str (Str.ofString "add"), .str x, .str y, .num c] := he
    simp only [List.mem_cons, List.not_mem_nil, or_false, reduceCtorEq, false_or, El.num.injEq] at he'
    rw [he']
    exact b
theorem okb_of {c : Int × Int} (b : Bn c) (h : frD c = true) : SS.Okb 105 c := ⟨(of_decide_eq_true h).1, b.1, b.2, (of_decide_eq_true h).2⟩
theorem stp_ok {names : List Str} {d : Sv} {t : Stp} (b : d.Bd) (e : stpOf names d = some t) : t.Ok names := by
  unfold stpOf at e
  split at e
  · split at e
    · rename_i w x c h
      obtain rfl := Option.some.inj e
      exact ⟨h.2.1, h.2.2.2, okb_of (b (.num c) (by simp) c rfl) h.2.2.1⟩
    · cases e
  · split at e
    · rename_i w x y c h
      obtain rfl := Option.some.inj e
      exact ⟨h.2.1, h.2.2.1, h.2.2.2.1, okb_of (b (.num c) (by simp) c rfl) h.2.2.2.2⟩
    · cases e
  · cases e
theorem stpOf_congr {xs ys : List Str} (h : ∀ x, x ∈ xs ↔ x ∈ ys) (d : Sv) : stpOf xs d = stpOf ys d := by
  unfold stpOf
  split
  · simp only [h]
  · simp only [h]
  · rfl
theorem okB {names : List Str} {t : Stp} (h : t.Ok names) : dT t ≤ 2 ^ 106 ∧ mT t ≤ 2 ^ 106 := by
  have b := h.nm.2.2
  have e : (2 : Nat) ^ 106 = 2 ^ 105 + 2 ^ 105 := by decide
  have b1 := b.2.1
  have b2 := b.2.2.1
  unfold dT mT
  omega
/-- what is right at the beginning -/
theorem pref (names : List Str) : ∀ ds : List Sv, ∃ ts : List Stp, ts.length ≤ ds.length ∧ (∀ (i : Nat) (t : Stp), ts[i]? = some t → ∃ d : Sv, ds[i]? = some d ∧ stpOf names d = some t) ∧ (ts.length < ds.length → ∃ d : Sv, ds[ts.length]? = some d ∧ stpOf names d = none)
  | [] => ⟨[], Nat.le_refl _, fun i t h => by simp at h, fun h => by simp at h⟩
  | d :: ds => by
    cases e : stpOf names d with
    | none => exact ⟨[], Nat.zero_le _, fun i t h => by simp at h, fun _ => ⟨d, rfl, e⟩⟩
    | some t =>
      obtain ⟨ts, h1, h2, h3⟩ := pref names ds
      refine ⟨t :: ts, by simpa using h1, fun i t' h => ?_, fun h => ?_⟩
      · cases i with
        | zero =>
          obtain rfl : t = t' := by simpa using h
          exact ⟨d, rfl, e⟩
        | succ i =>
          obtain ⟨d', a, b⟩ := h2 i t' (by simpa using h)
          exact ⟨d', by simpa using a, b⟩
      · obtain ⟨d', a, b⟩ := h3 (by simpa using h)
        exact ⟨d', by simpa using a, b⟩
theorem pref_ok {names : List Str} {ds : List Sv} {ts : List Stp} (hb : ∀ d ∈ ds, d.Bd) (h : ∀ (i : Nat) (t : Stp), ts[i]? = some t → ∃ d : Sv, ds[i]? = some d ∧ stpOf names d = some t) : ∀ t ∈ ts, t.Ok names := fun t ht => by
  obtain ⟨i, hi⟩ := List.mem_iff_getElem?.mp ht
  obtain ⟨d, a, b⟩ := h i t hi
  exact stp_ok (hb d (List.mem_of_getElem? a)) b
theorem way_few {U : List Str} {zs : List Ent} {ts : List Stp} (zp : Zp U zs) (ok : ∀ t ∈ ts, t.Ok ((zs.filter isR).map (·.x))) (l : ts.length ≤ 11) : Way U (zs.map nr) ts := by
  obtain ⟨p1, p2⟩ := prod_le (B := 106) (ts := ts) fun t ht => okB (ok t ht)
  have le : 2 ^ (106 * ts.length) ≤ 2 ^ 1250 := Nat.pow_le_pow_right (by decide) (by omega)
  exact zp.way (List.Perm.refl _) ok (Nat.le_trans p1 le) (Nat.le_trans p2 le)
theorem pref_steps {K : PySem.W.Frag} {H : Hp} {names : List Str} : ∀ {us : List V} {ds : List Sv} {ts : List Stp}, Paired (SvAt K H) us ds → ts.length = ds.length → (∀ (i : Nat) (t : Stp), ts[i]? = some t → ∃ d : Sv, ds[i]? = some d ∧ stpOf names d = some t) → Paired (StpAt K H) us ts
  | _, _, [], .nil, _, _ => .nil
  | _, _, t :: ts, .nil, l, _ => by simp at l
  | _, _, [], .cons a p, l, _ => by simp at l
  | _, _, t :: ts, .cons a p, l, h => by
    obtain ⟨d, e1, e2⟩ := h 0 t rfl
    obtain rfl := Option.some.inj e1
    exact .cons (a.stp e2) (pref_steps p (by simpa using l) fun i t' ht => by
      obtain ⟨d', a', b'⟩ := h (i + 1) t' (by simpa using ht)
      exact ⟨d', by simpa using a', b'⟩)
theorem all_iff {names : List Str} {ds : List Sv} {ts : List Stp} (h1 : ts.length ≤ ds.length) (h2 : ∀ (i : Nat) (t : Stp), ts[i]? = some t → ∃ d : Sv, ds[i]? = some d ∧ stpOf names d = some t) (h3 : ts.length < ds.length → ∃ d : Sv, ds[ts.length]? = some d ∧ stpOf names d = none) :
    (ds.all fun d => (stpOf names d).isSome) = decide (ts.length = ds.length) := by
  by_cases e : ts.length = ds.length
  · rw [decide_eq_true e, List.all_eq_true]
    intro d hd
    obtain ⟨i, hi⟩ := List.mem_iff_getElem?.mp hd
    have il : i < ts.length := by rw [e]; exact (List.getElem?_eq_some_iff.mp hi).1
    obtain ⟨d', a, b⟩ := h2 i ts[i] (List.getElem?_eq_getElem il)
    rw [hi] at a
    obtain rfl := Option.some.inj a
    rw [b]
    rfl
  · rw [decide_eq_false e]
    obtain ⟨d, a, b⟩ := h3 (by omega)
    refine Bool.eq_false_iff.mpr fun z => ?_
    have := List.all_eq_true.mp z d (List.mem_of_getElem? a)
    rw [b] at this
    cases this
theorem pairs_sv {K : PySem.W.Frag} {H : Hp} : ∀ {us : List V} {ts : List Stp}, Paired (StpAt K H) us ts → Paired (SvAt K H) us (ts.map Stp.sv)
  | _, _, .nil => .nil
  | _, _, .cons a p => .cons a.sv (pairs_sv p)
theorem psv_kl {K : PySem.W.Frag} {H H' : Hp} {us : List V} {ds : List Sv} (h : Paired (SvAt K H) us ds) (k : KLs H H') : Paired (SvAt K H') us ds := paired_mono (fun v d h => SvAt.kl h k) h
theorem right_pref {names : List Str} {ts : List Stp} (ok : ∀ t ∈ ts, t.Ok names) : ∀ (i : Nat) (t : Stp), ts[i]? = some t → ∃ d : Sv, (ts.map Stp.sv)[i]? = some d ∧ stpOf names d = some t := fun i t h => ⟨t.sv, by rw [List.getElem?_map, h]; rfl, (ok t (List.mem_of_getElem? h)).of⟩
end SS
namespace SS
open PySem PySem.Spec PyProof.Rows L2 NumText LamX KyS
theorem paired_cutG {β : Type} {R : V → β → Prop} {xs : List V} {ys : List β} (h : Paired R xs ys) (lo hi : Option Int) : Paired R (cutV xs lo hi) (cutE ys lo hi) := by
  unfold cutV cutE
  have := Paired.length h
  rw [this]
  exact paired_take (paired_drop h)
theorem cut1 (xs : List V) : cutV xs none (some 1) = xs.take 1 := by
  unfold cutV
  rw [HT.sIx_none, show HT.sIx xs.length xs.length (some 1) = min 1 xs.length from HT.sIx_nat xs.length xs.length 1]
  show List.take (min 1 xs.length - 0) (xs.drop 0) = xs.take 1
  rw [List.drop_zero, Nat.sub_zero]
  by_cases h : xs.length ≤ 1
  · rw [Nat.min_eq_right h, List.take_length, List.take_of_length_le h]
  · rw [Nat.min_eq_left (by omega)]
def RightV (K : PySem.W.Frag) (H : Hp) (v : V) : Prop := ∃ s xs es w, v = .ref s ∧ SqT K H s xs ∧ Paired (ElAt K H) xs es ∧ (∀ e ∈ es, El.Bd e) ∧ (xs.length = 3 ∨ xs.length = 4) ∧ atI xs 0 = some (.str w) ∧ 0 < w.length ∧ w.length ≤ 10
theorem RightV.of {K : PySem.W.Frag} {H : Hp} {v : V} {t : Stp} (h : StpAt K H v t) (b : Bn t.num) : RightV K H v := by
  cases t with
  | tm x c =>
    obtain ⟨s, n, e, h1, h2⟩ := h
    refine ⟨s, _, [.str (Str.ofString "times"), .str x, .num c], _, e, h1, .cons rfl (.cons rfl (.cons ⟨n, rfl, h2⟩ .nil)), fun e he c' ec => ?_, .inl rfl, rfl, by decide +kernel, by decide +kernel⟩
    subst ec
    simp only [List.mem_cons, List.not_mem_nil, or_false, reduceCtorEq, false_or, El.num.injEq] at he
    rw [he]
    exact b
  | ad x y c =>
    obtain ⟨s, n, e, h1, h2⟩ := h
    refine ⟨s, _, [.str (Str.ofString "add"), .str x, .str y, .num c], _, e, h1, .cons rfl (.cons rfl (.cons rfl (.cons ⟨n, rfl, h2⟩ .nil))), fun e he c' ec => ?_, .inr rfl, rfl, by decide +kernel, by decide +kernel⟩
    subst ec
    simp only [List.mem_cons, List.not_mem_nil, or_false, reduceCtorEq, false_or, El.num.injEq] at he
    rw [he]
    exact b
section
variable {P : Program} {w : World} {K : PySem.W.Frag} {mg : Str → Option Value} {base : Heap}
/-- what is due -/
def DueP (K : PySem.W.Frag) (U : List Str) (zs : List Ent) (ts : List Stp) (all : Prop) (H : Hp) (dt : Addr) : Prop :=
  (¬ all ∧ H dt = some (.tup [.str (Str.ofString "NoStep"), .non])) ∨ (all ∧ ∃ (dl : Addr) (fs : List Ent) (Ld : List Nm), H dt = some (.tup [.str (Str.ofString "told"), .ref dl]) ∧ H dl = some (.lst (fs.map fun e => V.ref e.t)) ∧ (∀ e ∈ fs, EntOk K U.length H e) ∧ Ld.Perm ((zs.map nr).filter isN) ∧ (Ld.map (·.1)).Pairwise leS ∧ fs.map nr = ts.foldl stepM Ld)
theorem DueP.ext {U : List Str} {zs : List Ent} {ts : List Stp} {all : Prop} {H H' : Hp} {dt : Addr} (h : DueP K U zs ts all H dt) (x : ExtN H H') : DueP K U zs ts all H' dt := by
  rcases h with ⟨n, h⟩ | ⟨a, dl, fs, Ld, h1, h2, h3, h4, h5, h6⟩
  · exact .inl ⟨n, x _ _ h fun ps => by simp⟩
  · exact .inr ⟨a, dl, fs, Ld, x _ _ h1 fun ps => by simp, x _ _ h2 fun ps => by simp, fun e he => (h3 e he).extN x, h4, h5, h6⟩
/-- on the way of the law -/
structure Ct (K : PySem.W.Frag) (T : List (Addr × Str)) (st c rl : Addr) (U : List Str) (zs : List Ent) (nl D L : Addr) (ys os : List Str) (rs : List V) (tsR : List Stp) (H' : Hp) : Prop where
  b : Bs K T st c rl U zs H'
  n : H' nl = some (.lst (ys.map V.str))
  o : H' D = some (.lst (os.map V.str))
  l : H' L = some (.lst rs)
  p : Paired (StpAt K H') rs tsR
section
variable {T : List (Addr × Str)} {st c rl nl D L : Addr} {U ys os : List Str} {zs : List Ent} {rs : List V} {tsR : List Stp} {H1 H2 : Hp}
theorem Ct.same (h : Ct K T st c rl U zs nl D L ys os rs tsR H1) (s : Same H1 H2) : Ct K T st c rl U zs nl D L ys os rs tsR H2 := ⟨h.b.same s, s _ _ h.n, s _ _ h.o, s _ _ h.l, pstp_nol h.p (NoL.same s)⟩
theorem Ct.but (h : Ct K T st c rl U zs nl D L ys os rs tsR H1) (b : But st H1 H2) (y : StA st c H2) (n1 : nl ≠ st) (n2 : D ≠ st) (n3 : L ≠ st) : Ct K T st c rl U zs nl D L ys os rs tsR H2 := ⟨h.b.but b y, b _ _ n1 h.n, b _ _ n2 h.o, b _ _ n3 h.l, pstp_nol h.p (b.nol h.b.s)⟩
end
def spLaw16 (K : PySem.W.Frag) (T : List (Addr × Str)) : Sp := fun vs H Q _ => ∃ (a : Addr) (ns : List Int), vs = [.ref a] ∧ SqL K H a (ns.map V.int) ∧ LamX.Tabs T H ∧ ∀ H', Q (.bl true) H'
theorem scLaw : FnScope ["_law_script", "_law_state", "_law_unknowns", "_law_rows", "_law_names_here", "_law_others", "_law_right", "_law_basis", "_law_bad", "_law_at", "_law_steps_here", "_law_given", "_law_kept", "_law_due", "_law_turn", "_law_name", "_law_row", "_law_step"] ["_law_script"] (defScope sLaw) := ⟨rfl, rfl, rfl, by decide +kernel, rfl, by decide +kernel, by decide +kernel⟩
set_option maxHeartbeats 8000000 in
theorem ok_law {f' : Addr} {fd : FuncData} {T : List (Addr × Str)} (F : Fun K "law" "law" sLaw f' fd) (mr : mg "range" = none) (ml : mg "len" = none) (ms : mg "sorted" = none) (mli : mg "list" = none) (mt : mg "tuple" = none) (ma : mg "all" = none)
    (fs : Cl P w K mg base CX0 1 "_law_fresh" (spFresh K) []) (tk : Cl P w K mg base CX0 3 "_law_take" spTake []) (eq : Cl P w K mg base CX0 7 "_law_equals" (spEquals K) []) (s6 : Cl P w K mg base CX0 4 "_law_steps" (spSteps16 K) []) (od : Cl P w K mg base CX0 4 "_law_odd" (spOdd K) []) (hd : Cl P w K mg base CX0 4 "_law_handed" (spHanded K) [])
    (cp : Cl P w K mg base CX0 1 "_law_copied" (spCopied K) []) (isS : Cl P w K mg base CX0 3 "_law_is_step" (spIsStep K) []) (dn : Cl P w K mg base CX0 6 "_law_done" (spDone15 K) []) (af : Cl P w K mg base CX0 8 "_law_asked_for" (spAskedFor K T) []) : FnOk P w K mg base CX0 9 f' fd ["_law_script"] (spLaw16 K T) := by
  refine F.ok scLaw (fun vs H Q E h => ?_) (fun cdv A outer s0 H vs Q E hr h => ?_)
  · obtain ⟨_, _, rfl, _⟩ := h
    rfl
  · obtain ⟨a, ns, rfl, hS, htb, q⟩ := h
    have hu := hu_of hr
    refine ⟨_, pss_cons (ps_set (i := 1) scLaw.nd rfl (.inl rfl) (pc0 fs hr (by decide) (pa_cons (pv 0) pa_nil)))
      (pss_cons (ps_asg (pc0 eq hr (by decide) (pa_cons (pv 1) (pa_cons pe_int pa_nil))) (pg_tup rfl (pgs_cons (pg_name (i := 2) scLaw.nd rfl (.inl rfl)) (pgs_cons (pg_name (i := 3) scLaw.nd rfl (.inl rfl)) pgs_nil))))
      (pss_cons (ps_set (i := 4) scLaw.nd rfl (.inr rfl) (pe_callB cr_sortedS (by rfl) ms (by decide +kernel) (pa_cons (pe_lc (own := [("_law_name", 15), ("_law_row", 16)]) (g := gTup K 2 (gCons (gName 15) (gCons (gName 16) gNil))) rfl scLaw.nd (pi_list (pv 3)) (blkOk_by (by rfl))
        (fun _ _ _ _ _ => pg_tup rfl (pgs_cons (pg_name (i := 15) scLaw.nd rfl (.inl rfl)) (pgs_cons (pg_name (i := 16) scLaw.nd rfl (.inl rfl)) pgs_nil))) (fun _ _ _ _ _ => pts_one (pt_cmpR op_eq (pe_ix (ix_tupK (K := K) rfl) (pv 16) pe_int (fun _ _ => rfl)) pe_str (nomark _)))
        (fun _ _ _ _ _ => pv 15)) pa_nil)))
      (pss_cons (ps_setLc (i := 5) (own := [("_law_name", 15), ("_law_row", 16)]) (g := gTup K 2 (gCons (gName 15) (gCons (gName 16) gNil))) rfl scLaw.nd rfl rfl (sw_true rfl rfl rfl (by rfl)) (pi_list (pv 3)) (blkOk_by (by rfl))
        (fun _ _ _ _ _ => pg_tup rfl (pgs_cons (pg_name (i := 15) scLaw.nd rfl (.inl rfl)) (pgs_cons (pg_name (i := 16) scLaw.nd rfl (.inl rfl)) pgs_nil))) (fun _ _ _ _ _ => pts_one (pt_cmpR op_ne (pe_ix (ix_tupK (K := K) rfl) (pv 16) pe_int (fun _ _ => rfl)) pe_str (nomark _)))
        (fun _ _ _ _ _ => pv 15))
      (pss_cons (ps_setLc (i := 6) (own := [("_law_name", 15)]) (g := gName 15) (tt := tYes) rfl scLaw.nd rfl rfl (sw_true rfl rfl rfl (by rfl)) (pi_list (pe_slice sl_list (pv 4) po_none (po_some pe_int))) (blkOk_by (by rfl))
        (fun _ _ _ _ _ => pg_name (i := 15) scLaw.nd rfl (.inl rfl)) (fun _ _ _ _ _ => pts_nil) (fun _ _ _ _ _ => pe_tup (pa_cons pe_str (pa_cons (pv 15) (pa_cons (pe_tup (pa_cons pe_int (pa_cons pe_int pa_nil))) pa_nil)))))
      (pss_cons (ps_if (pt_cmpR op_gt (pe_callB call_len_seq (by rfl) ml PySem.boot_len (pa_cons (pv 4) pa_nil)) pe_int (nomark _)) (pss_one (ps_set (i := 6) scLaw.nd rfl (.inl rfl) (pe_op op_cat (pv 6) (pc0 s6 hr (by decide) (pa_cons (pv 1) (pa_cons (pv 4) (pa_cons (pc0 tk hr (by decide) (pa_cons (pv 1) (pa_cons pe_int pa_nil))) pa_nil))))))) pss_nil)
      (pss_cons (ps_set (i := 7) scLaw.nd rfl (.inl rfl) (pe_ix ix_list (pe_op op_cat (pv 6) (pe_lst (pa_cons (pe_tup (pa_cons pe_str (pa_cons pe_str (pa_cons (pe_tup (pa_cons pe_int (pa_cons pe_int pa_nil))) pa_nil)))) (pa_cons (pe_tup (pa_cons pe_str (pa_cons pe_str (pa_cons pe_str (pa_cons (pe_tup (pa_cons pe_int (pa_cons pe_int pa_nil))) pa_nil))))) pa_nil))))
        (pc0 tk hr (by decide) (pa_cons (pv 1) (pa_cons (pe_op op_add (pe_callB call_len_seq (by rfl) ml PySem.boot_len (pa_cons (pv 6) pa_nil)) pe_int) pa_nil))) (fun _ _ => rfl)))
      (pss_cons (ps_set (i := 8) scLaw.nd rfl (.inl rfl) (pc0 od hr (by decide) (pa_cons (pv 1) (pa_cons (pv 7) pa_nil))))
      (pss_cons (ps_if (PW.pt (pw_and (pt_cmpR op_gt (pe_callB call_len_seq (by rfl) ml PySem.boot_len (pa_cons (pv 5) pa_nil)) pe_int (nomark _)) (pw_and1 (pt_cmpR op_eq (pc0 tk hr (by decide) (pa_cons (pv 1) (pa_cons pe_int pa_nil))) pe_int (nomark _)))))
        (pss_one (ps_set (i := 8) scLaw.nd rfl (.inl rfl) (pe_tup (pa_cons pe_str (pa_cons (pe_ix ix_list (pe_op op_cat (pv 4) (pv 5)) pe_int (fun _ _ => rfl)) (pa_cons (pe_ix ix_list (pv 5) (pc0 tk hr (by decide) (pa_cons (pv 1) (pa_cons (pe_callB call_len_seq (by rfl) ml PySem.boot_len (pa_cons (pv 5) pa_nil)) pa_nil))) (fun _ _ => rfl)) (pa_cons (pe_tup (pa_cons pe_int (pa_cons pe_int pa_nil))) pa_nil))))))) pss_nil)
      (pss_cons (ps_set (i := 9) scLaw.nd rfl (.inl rfl) (pc0 tk hr (by decide) (pa_cons (pv 1) (pa_cons (pe_op op_add (pe_callB call_len_seq (by rfl) ml PySem.boot_len (pa_cons (pv 6) pa_nil)) pe_int) pa_nil))))
      (pss_cons (ps_set (i := 10) scLaw.nd rfl (.inl rfl) (pe_op op_cat (pe_op op_cat (pe_slice sl_list (pv 6) po_none (po_some (pv 9))) (pe_lst (pa_cons (pv 8) pa_nil))) (pe_slice sl_list (pv 6) (po_some (pv 9)) po_none)))
      (pss_cons (ps_set (i := 11) scLaw.nd rfl (.inl rfl) (pc0 hd hr (by decide) (pa_cons (pv 1) (pa_cons (pv 3) pa_nil))))
      (pss_cons (ps_set (i := 12) scLaw.nd rfl (.inl rfl) (pc0 cp hr (by decide) (pa_cons (pe_callTy call_list_of (by rfl) mli (by decide +kernel) (pa_cons (pv 11) pa_nil)) pa_nil)))
      (pss_cons (ps_set (i := 13) scLaw.nd rfl (.inl rfl) (pe_tup (pa_cons pe_str (pa_cons pe_non pa_nil))))
      (pss_cons (ps_if (pt_val (pe_callB (cr_all rfl) (by rfl) ma boot_all (pa_cons (pe_lc (own := [("_law_step", 17)]) (g := gName 17) (tt := tYes) rfl scLaw.nd (pi_list (pv 10)) (blkOk_by (by rfl)) (fun _ _ _ _ _ => pg_name (i := 17) scLaw.nd rfl (.inl rfl)) (fun _ _ _ _ _ => pts_nil)
          (fun _ _ _ _ _ => pc0 isS hr (by decide) (pa_cons (pv 17) (pa_cons (pv 4) pa_nil)))) pa_nil)))
        (pss_one (ps_set (i := 13) scLaw.nd rfl (.inl rfl) (pe_tup (pa_cons pe_str (pa_cons (pc0 dn hr (by decide) (pa_cons (pv 3) (pa_cons (pv 10) pa_nil))) pa_nil))))) pss_nil)
      (pss_cons (ps_for PassesOwn.never rfl (pi_range1 rfl mr (pa_cons pe_int pa_nil)) (pg_name (i := 14) scLaw.nd rfl (.inl rfl))
        (pss_one (ps_if (PW.pt (pw_or (pt_cmpR (op_neXT hr.units) (pc0 af hr (by decide) (pa_cons (pv 11) (pa_cons (pv 10) pa_nil))) (pv 13) (nomark _)) (pw_or1 (pt_cmpR (op_neXL hr.units) (pe_callTy call_list_of (by rfl) mli (by decide +kernel) (pa_cons (pv 11) pa_nil)) (pv 12) (nomark _))))) (pss_one (ps_ret pe_bl)) pss_nil)))
      (pss_one (ps_ret (pe_cmpR (op_eqXV hr.units) (pc0 af hr (by decide) (pa_cons (pv 11) (pa_cons (pe_callTy call_tuple_of (by rfl) mt (by decide +kernel) (pa_cons (pv 6) pa_nil)) pa_nil))) (pe_tup (pa_cons pe_str (pa_cons (pc0 dn hr (by decide) (pa_cons (pv 3) (pa_cons (pv 6) pa_nil))) pa_nil))) (nomark _))))))))))))))))))), ?_⟩
    refine ⟨_, rfl, a, ns, rfl, hS, fun H1 st c e1 nst nc y1 => ?_⟩
    refine ⟨_, rfl, st, c, 8, rfl, by decide, by decide, y1, fun H2 t ul rl U zs b2 y2 ht hul hrl ne nrl ul4 nmU nd nm zl hz => ?_⟩
    refine ⟨t, _, rfl, SqT.of ht, rfl, _, _, rfl, _, _, rfl, rfl, ?_⟩
    have zp : Zp U zs := ⟨nd, nm, by omega, ul4, fun z h => (hz z h).2⟩
    have B6 : Bs K T st c rl U zs H2 := ⟨y2, tabs_nol (htb.ext e1) (b2.nol y1), hrl, fun z h => (hz z h).1, y1.fresh nrl⟩
    clear ht hul ne nrl ul4 nmU nd nm zl hz b2 y2 y1 nst nc e1 htb hS hrl
    -- the names of the rows "is"
    refine ⟨_, rfl, rl, rfl, ⟨_, SqL.of B6.r⟩, fun D nD => ?_⟩
    refine lc_list (K := K) (a := rl) (xs := zs.map fun z => V.ref z.t) (fun j H' => H' D = some (.lst ((((zs.take j).filter isR).map (·.x)).map V.str)) ∧ ∀ b o, b ≠ D → H2 b = some o → H' b = some o)
      ⟨upd_same, fun b o n e => by rw [upd_ne n]; exact e⟩ (fun j H' _ ⟨_, w2⟩ => SqL.of (w2 _ _ (ne_of_none B6.r nD) B6.r)) ?_ ?_
    · rintro j v H' hv ⟨w1, w2⟩
      obtain ⟨z, hzj, rfl⟩ : ∃ z, zs[j]? = some z ∧ v = .ref z.t := by
        rw [List.getElem?_map] at hv
        cases e : zs[j]? with
        | none => rw [e] at hv; cases hv
        | some z =>
          rw [e] at hv
          exact ⟨z, rfl, (Option.some.inj hv).symm⟩
      obtain ⟨h1, kvs, n, h2, h3, h4, h5⟩ := B6.z z (List.mem_of_getElem? hzj)
      have jl : j < zs.length := (List.getElem?_eq_some_iff.mp hzj).1
      have tk : zs.take (j + 1) = zs.take j ++ [z] := by
        rw [List.take_add_one, hzj]
        rfl
      refine ⟨z.t, _, rfl, SqT.of (w2 _ _ (ne_of_none h1 nD) h1), rfl, _, _, rfl, _, _, rfl, rfl, rfl, ?_⟩
      refine ⟨_, rfl, z.r, _, 1, _, rfl, rfl, SqT.of (w2 _ _ (ne_of_none h2 nD) h2), atI_nat (j := 1) rfl, rfl, _, rfl, ite2 (fun e => ⟨_, rfl, _, w1, ?_, ?_, fun b o n e => by rw [upd_ne n]; exact w2 b o n e⟩) (fun e => ⟨?_, w2⟩)⟩
      · have z1 := List.length_filter_le isR (zs.take j)
        rw [List.length_take] at z1
        have := zp.ln
        rw [List.length_map, List.length_map]
        exact small1000 (by omega)
      · have gt : isR z = true := decide_eq_true (V.str.inj (of_decide_eq_true e))
        rw [upd_same, tk, List.filter_append, List.filter_cons_of_pos gt, List.map_append, List.map_append]
        rfl
      · have gt : ¬ isR z = true := fun y => e (decide_eq_true (congrArg V.str (of_decide_eq_true y)))
        rw [tk, List.filter_append, List.filter_cons_of_neg gt, List.filter_nil, List.append_nil]
        exact w1
    rintro H7 ⟨w1, w2⟩
    rw [List.length_map, List.take_length] at w1
    have fl9 : ((zs.filter isR).map (·.x)).length ≤ 9 := by
      rw [List.length_map]
      exact Nat.le_trans (List.length_filter_le isR zs) zp.ln
    refine ⟨D, (zs.filter isR).map (·.x), rfl, SqL.of w1, by omega, fun ys nl py srt nnl => ?_⟩
    have e7 : Same H2 H7 := fun b o e => w2 _ _ (ne_of_none e nD) e
    have e8 := same_new (o := .lst (ys.map V.str)) nnl
    have hn8 := upd_same (H := H7) (a := nl) (o := .lst (ys.map V.str))
    have B8 := (B6.same e7).same e8
    have nlS := (B6.same e7).s.fresh nnl
    generalize upd H7 nl (.lst (ys.map V.str)) = H8 at e8 hn8 B8 ⊢
    clear e7 e8 w1 w2 nnl nD B6 srt
    have yl : ys.length ≤ 9 := by rw [py.length_eq]; exact fl9
    -- the others
    refine ⟨_, rfl, rl, rfl, ⟨_, SqL.of B8.r⟩, fun D nD => ?_⟩
    have DS := B8.s.fresh nD
    refine lc_list (K := K) (a := rl) (xs := zs.map fun z => V.ref z.t) (fun j H' => (∃ os : List Str, H' D = some (.lst (os.map V.str)) ∧ os.length ≤ j) ∧ ∀ b o, b ≠ D → H8 b = some o → H' b = some o)
      ⟨⟨[], upd_same, Nat.le_refl _⟩, fun b o n e => by rw [upd_ne n]; exact e⟩ (fun j H' _ ⟨_, w2⟩ => SqL.of (w2 _ _ (ne_of_none B8.r nD) B8.r)) ?_ ?_
    · rintro j v H' hv ⟨⟨os, w1, wl⟩, w2⟩
      obtain ⟨z, hzj, rfl⟩ : ∃ z, zs[j]? = some z ∧ v = .ref z.t := by
        rw [List.getElem?_map] at hv
        cases e : zs[j]? with
        | none => rw [e] at hv; cases hv
        | some z =>
          rw [e] at hv
          exact ⟨z, rfl, (Option.some.inj hv).symm⟩
      obtain ⟨h1, kvs, n, h2, h3, h4, h5⟩ := B8.z z (List.mem_of_getElem? hzj)
      have jl : j < zs.length := (List.getElem?_eq_some_iff.mp hzj).1
      have := zp.ln
      refine ⟨z.t, _, rfl, SqT.of (w2 _ _ (ne_of_none h1 nD) h1), rfl, _, _, rfl, _, _, rfl, rfl, rfl, ?_⟩
      refine ⟨_, rfl, z.r, _, 1, _, rfl, rfl, SqT.of (w2 _ _ (ne_of_none h2 nD) h2), atI_nat (j := 1) rfl, rfl, _, rfl, ite2 (fun e => ⟨_, rfl, _, w1, ?_, ⟨os ++ [z.x], ?_, ?_⟩, fun b o n e => by rw [upd_ne n]; exact w2 b o n e⟩) (fun e => ⟨⟨os, w1, Nat.le_succ_of_le wl⟩, w2⟩)⟩
      · rw [List.length_map]
        exact small1000 (by omega)
      · rw [upd_same, List.map_append]
        rfl
      · rw [List.length_append]
        exact Nat.add_le_add_right wl 1
    rintro H9 ⟨⟨os, ho9, ol⟩, w2⟩
    rw [List.length_map] at ol
    have zl := zp.ln
    have e9 : Same H8 H9 := fun b o e => w2 _ _ (ne_of_none e nD) e
    have B9 := B8.same e9
    have hn9 := e9 _ _ hn8
    clear w2 e9 B8 hn8 nD
    dsimp only [gName]
    -- the first right step
    refine ⟨_, rfl, 1, rfl, nl, _, rfl, SqL.of hn9, fun p1 np1 => ?_⟩
    have ecut : cutV (ys.map V.str) none (some 1) = (ys.take 1).map V.str := by rw [cut1, List.map_take]
    have e10 := same_new (o := .lst (cutV (ys.map V.str) none (some 1))) np1
    have hp1 := upd_same (H := H9) (a := p1) (o := .lst (cutV (ys.map V.str) none (some 1)))
    have B10 := B9.same e10
    have hn10 := e10 _ _ hn9
    have ho10 := e10 _ _ ho9
    generalize upd H9 p1 (.lst (cutV (ys.map V.str) none (some 1))) = H10 at e10 hp1 B10 hn10 ho10 ⊢
    rw [ecut] at hp1
    clear e10 B9 hn9 ho9 np1
    refine ⟨p1, rfl, ⟨_, SqL.of hp1⟩, fun D2 nD2 => ?_⟩
    have DS2 := B10.s.fresh nD2
    refine lc_list (K := K) (a := p1) (xs := (ys.take 1).map V.str) (fun j H' => (∃ rs : List V, H' D2 = some (.lst rs) ∧ Paired (StpAt K H') rs (((ys.take 1).take j).map fun x => Stp.tm x (2, 1))) ∧ ∀ b o, b ≠ D2 → H10 b = some o → H' b = some o)
      ⟨⟨[], upd_same, .nil⟩, fun b o n e => by rw [upd_ne n]; exact e⟩ (fun j H' _ ⟨_, w2⟩ => SqL.of (w2 _ _ (ne_of_none hp1 nD2) hp1)) ?_ ?_
    · rintro j v H' hv ⟨⟨rs, w1, wp⟩, w2⟩
      obtain ⟨x, hxj, rfl⟩ : ∃ x, (ys.take 1)[j]? = some x ∧ v = .str x := by
        rw [List.getElem?_map] at hv
        cases e : (ys.take 1)[j]? with
        | none => rw [e] at hv; cases hv
        | some x =>
          rw [e] at hv
          exact ⟨x, rfl, (Option.some.inj hv).symm⟩
      have rl9 : rs.length ≤ 9 := by
        have := Paired.length wp
        rw [List.length_map, List.length_take, List.length_take] at this
        omega
      refine ⟨rfl, _, rfl, small2, fun n nn => ⟨(by show 3 ≤ sizeLine; decide), fun s ns => ?_⟩⟩
      have en := same_new (o := .tup [.int 2, .int 1]) nn
      have es := same_new (o := .tup [.str (Str.ofString "times"), .str x, .ref n]) ns
      have E := en.trans es
      have h2 := es _ _ (upd_same (H := H') (a := n) (o := .tup [.int 2, .int 1]))
      have h3 := upd_same (H := upd H' n (.tup [.int 2, .int 1])) (a := s) (o := .tup [.str (Str.ofString "times"), .str x, .ref n])
      generalize upd (upd H' n (.tup [.int 2, .int 1])) s (.tup [.str (Str.ofString "times"), .str x, .ref n]) = G at E h2 h3 ⊢
      have hD := E _ _ w1
      refine ⟨rs, hD, small1000 (by omega), ⟨rs ++ [.ref s], upd_same, ?_⟩, fun b o nb e => by rw [upd_ne nb]; exact E _ _ (w2 b o nb e)⟩
      rw [List.take_add_one, hxj, List.map_append]
      exact pstp_nol (paired_snoc (pstp_nol wp (NoL.same E)) (show StpAt K G (.ref s) (.tm x (2, 1)) from ⟨s, n, rfl, SqT.of h3, FrT.of h2⟩)) (nol_lst hD)
    rintro H11 ⟨⟨rs0, hR0, wp0⟩, w2⟩
    rw [List.length_map, List.take_length] at wp0
    have e11 : Same H10 H11 := fun b o e => w2 _ _ (ne_of_none e nD2) e
    have B11 := B10.same e11
    have hn11 := e11 _ _ hn10
    have ho11 := e11 _ _ ho10
    clear w2 e11 B10 hn10 ho10 hp1 nD2
    have ok0 : ∀ t ∈ (ys.take 1).map fun x => Stp.tm x (2, 1), t.Ok ys := fun t ht => by
      obtain ⟨x, hx, rfl⟩ := List.mem_map.mp ht
      exact ⟨List.mem_of_mem_take hx, by show (2 : Int) ≠ 0; decide, ⟨by decide, by decide, by decide, by decide⟩⟩
    have l0 : ((ys.take 1).map fun x => Stp.tm x (2, 1)).length ≤ 1 := by
      rw [List.length_map, List.length_take]
      omega
    generalize ((ys.take 1).map fun x => Stp.tm x (2, 1)) = ts0 at wp0 ok0 l0
    dsimp only [gName]
    have eln : ((ys.map V.str).length : Int) = (ys.length : Int) := by rw [List.length_map]
    have elo : ((os.map V.str).length : Int) = (os.length : Int) := by rw [List.length_map]
    refine' mid (C := _) (Inv := fun σ H' => ∃ (L : Addr) (rs : List V) (tsR : List Stp), σ = [some (.ref a), some (.ref st), some (.ref ul), some (.ref rl), some (.ref nl), some (.ref D), some (.ref L), none, none, none, none, none, none, none, none, none, none, none] ∧ Bs K T st c rl U zs H' ∧ H' nl = some (.lst (ys.map V.str)) ∧ H' D = some (.lst (os.map V.str)) ∧ H' L = some (.lst rs) ∧ L ≠ st ∧ Paired (StpAt K H') rs tsR ∧ (∀ t ∈ tsR, t.Ok ys) ∧ tsR.length ≤ 5) (fun key => ?mC) ?rC
    case mC =>
      refine ⟨_, rfl, nl, _, rfl, .inl (SqL.of hn11), (ys.length : Int), 0, congrArg V.int eln, rfl, _, rfl, ite2 (fun e => ?ca) (fun e => ?cb)⟩
      case cb =>
        dsimp only
        refine key _ _ ?_
        exact ⟨D2, rs0, ts0, rfl, B11, hn11, ho11, hR0, DS2, wp0, ok0, by omega⟩
      case ca =>
        have yp : 0 < (ys.length : Int) := of_decide_eq_true e
        refine ⟨_, rfl, _, rfl, _, rfl, _, rfl, st, c, 5, rfl, by decide, by decide, B11.s, fun H12 d12 b12 s12 l12 u12 => ?_⟩
        have B12 := B11.but b12 s12
        refine ⟨st, c, nl, ys, d12, rfl, s12, b12 _ _ nlS hn11, by omega, by omega, l12, .inl (by omega), fun H13 l us ts b13 s13 nl13 hl13 ul13 pd ok lm bd => ?_⟩
        have B13 := B12.but b13 s13
        have hR13 := b13 _ _ DS2 (b12 _ _ DS2 hR0)
        have wp13 := pstp_nol (pstp_nol wp0 (b12.nol B11.s)) (b13.nol s12)
        have lts : us.length = ts.length := Paired.length pd
        have lrs : rs0.length = ts0.length := Paired.length wp13
        refine ⟨D2, l, _, _, rfl, rfl, hR13, hl13, Nat.le_of_lt (small1000 (by omega)), fun p np => ?_⟩
        have ep := same_new (o := .lst (rs0 ++ us)) np
        dsimp only [gName]
        refine key _ _ ?_
        refine ⟨p, rs0 ++ us, ts0 ++ ts, rfl, B13.same ep, ep _ _ (b13 _ _ nlS (b12 _ _ nlS hn11)), ep _ _ (b13 _ _ DS (b12 _ _ DS ho11)), upd_same, s13.fresh np, pstp_nol (paired_app wp13 pd) (NoL.same ep), fun t ht => ?_, by rw [List.length_append]; omega⟩
        rcases List.mem_append.mp ht with z | z
        · exact ok0 t z
        · exact ok t z
    case rC =>
      clear B11 hn11 ho11 hR0 wp0 ok0 l0 DS2
      clear D2
      rintro σ H14 ⟨L, rs, tsR, rfl, B14, hn14, ho14, hL14, nL, pR, okR, lR⟩
      have lrs : rs.length = tsR.length := Paired.length pR
      have C14 : Ct K T st c rl U zs nl D L ys os rs tsR H14 := ⟨B14, hn14, ho14, hL14, pR⟩
      clear B14 hn14 ho14 hL14 pR
      have bnR : ∀ t ∈ tsR, Bn t.num := fun t ht => ⟨(okR t ht).nm.2.2.2.1, (okR t ht).nm.2.2.2.2.1⟩
      -- the basis
      refine ⟨_, rfl, small2, fun n1 f1 => ?_⟩
      have e1 := same_new (o := .tup [.int 1, .int 2]) f1
      have a1 := upd_same (H := H14) (a := n1) (o := .tup [.int 1, .int 2])
      generalize upd H14 n1 (.tup [.int 1, .int 2]) = G1 at e1 a1 ⊢
      refine ⟨(by show 3 ≤ sizeLine; decide), fun s1 f2 => ?_⟩
      have e2 := same_new (o := .tup [.str (Str.ofString "times"), .str (Str.ofString "a"), .ref n1]) f2
      have a2 : StpAt K _ (.ref s1) (.tm (Str.ofString "a") (1, 2)) := ⟨s1, n1, rfl, SqT.of (upd_same (H := G1)), FrT.of (e2 _ _ a1)⟩
      generalize upd G1 s1 (.tup [.str (Str.ofString "times"), .str (Str.ofString "a"), .ref n1]) = G2 at e2 a2 ⊢
      refine ⟨small2, fun n2 f3 => ?_⟩
      have e3 := same_new (o := .tup [.int 1, .int 1]) f3
      have a3 := upd_same (H := G2) (a := n2) (o := .tup [.int 1, .int 1])
      generalize upd G2 n2 (.tup [.int 1, .int 1]) = G3 at e3 a3 ⊢
      refine ⟨(by show 4 ≤ sizeLine; decide), fun s2 f4 => ?_⟩
      have e4 := same_new (o := .tup [.str (Str.ofString "add"), .str (Str.ofString "a"), .str (Str.ofString "b"), .ref n2]) f4
      have a4 : StpAt K _ (.ref s2) (.ad (Str.ofString "a") (Str.ofString "b") (1, 1)) := ⟨s2, n2, rfl, SqT.of (upd_same (H := G3)), FrT.of (e4 _ _ a3)⟩
      generalize upd G3 s2 (.tup [.str (Str.ofString "add"), .str (Str.ofString "a"), .str (Str.ofString "b"), .ref n2]) = G4 at e4 a4 ⊢
      refine ⟨(by show 2 ≤ sizeLine; decide), fun l2 f5 => ?_⟩
      have e5 := same_new (o := .lst [.ref s1, .ref s2]) f5
      have a5 := upd_same (H := G4) (a := l2) (o := .lst [.ref s1, .ref s2])
      generalize upd G4 l2 (.lst [.ref s1, .ref s2]) = G5 at e5 a5 ⊢
      have E5 := (((e1.trans e2).trans e3).trans e4).trans e5
      have C15 := C14.same E5
      have pB : Paired (StpAt K G5) (rs ++ [.ref s1, .ref s2]) (tsR ++ [.tm (Str.ofString "a") (1, 2), .ad (Str.ofString "a") (Str.ofString "b") (1, 1)]) :=
        paired_app C15.p (.cons (StpAt.kp a2 (fun b o _ e => e5 _ _ (e4 _ _ (e3 _ _ e)))) (.cons (StpAt.kp a4 (fun b o _ e => e5 _ _ e)) .nil))
      have bnB : ∀ t ∈ tsR ++ [.tm (Str.ofString "a") (1, 2), .ad (Str.ofString "a") (Str.ofString "b") (1, 1)], Bn t.num := fun t ht => by
        simp only [List.mem_append, List.mem_cons, List.not_mem_nil, or_false] at ht
        rcases ht with h | rfl | rfl
        · exact bnR t h
        · exact ⟨by decide, by decide⟩
        · exact ⟨by decide, by decide⟩
      clear C14 e1 e2 e3 e4 e5 a1 a2 a3 a4 f1 f2 f3 f4 f5 E5
      refine ⟨L, l2, _, _, rfl, rfl, C15.l, a5, Nat.le_of_lt (small1000 (by show rs.length + 2 ≤ 1000; omega)), fun p np => ?_⟩
      have ep := same_new (o := .lst (rs ++ [.ref s1, .ref s2])) np
      have hp := upd_same (H := G5) (a := p) (o := .lst (rs ++ [.ref s1, .ref s2]))
      have C16 := C15.same ep
      have pB6 := pstp_nol pB (NoL.same ep)
      have pS := C15.b.s.fresh np
      generalize upd G5 p (.lst (rs ++ [.ref s1, .ref s2])) = G6 at hp C16 pB6 ⊢
      clear C15 pB ep np a5
      refine ⟨_, rfl, _, rfl, L, _, rfl, .inl (SqL.of C16.l), (rs.length : Int), 2, rfl, rfl, st, c, (rs.length : Int) + 2, rfl, by omega, lt8 (by omega), C16.b.s, fun H17 d17 b17 s17 l17 u17 => ?_⟩
      have C17 := C16.but b17 s17 nlS DS nL
      have pB7 := pstp_nol pB6 (b17.nol C16.b.s)
      obtain ⟨vb0, hvm, hat⟩ := at_mapV (f := fun v : V => v) (xs := rs ++ [.ref s1, .ref s2]) (d := d17) l17 (by rw [List.length_append]; show d17 < ((rs.length + 2 : Nat) : Int); omega)
      rw [List.map_id'] at hat
      refine ⟨p, _, d17, _, rfl, rfl, SqL.of (b17 _ _ pS hp), hat, ?_⟩
      obtain ⟨s0, xs0, es0, w0, rfl, q1, q2, q3, q4, q5, q6, q7⟩ : RightV K H17 vb0 := by
        obtain ⟨i, hi⟩ := List.mem_iff_getElem?.mp hvm
        obtain ⟨t, ht, hr'⟩ := (paired_get pB7).2 i vb0 hi
        exact RightV.of hr' (bnB t (List.mem_of_getElem? ht))
      clear C16 pB6 hp b17 pB7 hvm hat bnB
      -- the spoilt one
      refine ⟨_, rfl, _, rfl, st, c, s0, xs0, es0, w0, rfl, s17, q1, q2, q3, q4, q5, q6, q7, fun H18 vb b18 s18 pb => ?_⟩
      have C18 := C17.but b18 s18 nlS DS nL
      obtain ⟨db, hdb, bdb⟩ := pb
      clear C17 b18 q1 q2 q3 q4 q5 q6 q7
      refine' mid (C := _) (Inv := fun σ H' => ∃ (y7 : Option V) (vb : V) (db : Sv), σ = [some (.ref a), some (.ref st), some (.ref ul), some (.ref rl), some (.ref nl), some (.ref D), some (.ref L), y7, some vb, none, none, none, none, none, none, none, none, none] ∧ Ct K T st c rl U zs nl D L ys os rs tsR H' ∧ SvAt K H' vb db ∧ db.Bd) (fun key => ?mD) ?rD
      case mD =>
        refine ⟨_, rfl, D, _, rfl, .inl (SqL.of C18.o), (os.length : Int), 0, congrArg V.int elo, rfl, _, rfl, ite2 (fun e => ?da) (fun e => ?db)⟩
        case db =>
          refine iteF ?_
          dsimp only
          refine key _ _ ?_
          exact ⟨_, vb, db, rfl, C18, hdb, bdb⟩
        case da =>
          have op : 0 < (os.length : Int) := of_decide_eq_true e
          refine ⟨_, rfl, st, c, 4, rfl, by decide, by decide, C18.b.s, fun H19 d19 b19 s19 l19 u19 => ⟨rfl, _, rfl, ite2 (fun e2 => ?daa) (fun e2 => ?dab)⟩⟩
          all_goals have C19 := C18.but b19 s19 nlS DS nL
          all_goals have hdb19 := hdb.kl (KLs.but b19 C18.b.s s19)
          case dab =>
            dsimp only
            refine key _ _ ?_
            exact ⟨_, vb, db, rfl, C19, hdb19, bdb⟩
          case daa =>
            refine ⟨_, rfl, _, rfl, nl, D, _, _, rfl, rfl, C19.n, C19.o, Nat.le_of_lt (small1000 (by rw [List.length_map, List.length_map]; omega)), fun p np => ?_⟩
            have ep := same_new (o := .lst (ys.map V.str ++ os.map V.str)) np
            have C20 := C19.same ep
            obtain ⟨x0, _, hx0⟩ := at_str (xs := ys ++ os) (d := 0) (by decide) (by rw [List.length_append]; omega)
            rw [List.map_append] at hx0
            refine ⟨p, _, 0, _, rfl, rfl, SqL.of upd_same, hx0, ?_⟩
            generalize upd H19 p (.lst (ys.map V.str ++ os.map V.str)) = G20 at C20 ⊢
            refine ⟨_, rfl, _, rfl, _, rfl, D, _, rfl, .inl (SqL.of C20.o), st, c, (os.length : Int), congrArg (fun z => [V.ref st, V.int z]) elo, op, lt8 (by omega), C20.b.s, fun H21 d21 b21 s21 l21 u21 => ?_⟩
            have C21 := C20.but b21 s21 nlS DS nL
            obtain ⟨x1, _, hx1⟩ := at_str (xs := os) l21 u21
            refine ⟨D, _, d21, _, rfl, rfl, SqL.of C21.o, hx1, small2, fun n nn => ?_⟩
            have en := same_new (o := .tup [.int 1, .int 1]) nn
            have hn := upd_same (H := H21) (a := n) (o := .tup [.int 1, .int 1])
            generalize upd H21 n (.tup [.int 1, .int 1]) = G22 at en hn ⊢
            refine ⟨(by show 4 ≤ sizeLine; decide), fun s ns => ?_⟩
            have es := same_new (o := .tup [.str (Str.ofString "add"), .str x0, .str x1, .ref n]) ns
            dsimp only [gName]
            refine key _ _ ?_
            refine ⟨_, .ref s, .tup [.str (Str.ofString "add"), .str x0, .str x1, .num (1, 1)], rfl, (C21.same en).same es, ⟨s, _, rfl, SqT.of upd_same, .cons rfl (.cons rfl (.cons rfl (.cons ⟨n, rfl, FrT.of (es _ _ hn)⟩ .nil)))⟩, fun e he c' ec => ?_⟩
            subst ec
            simp only [List.mem_cons, List.not_mem_nil, or_false, reduceCtorEq, false_or, El.num.injEq] at he
            rw [he]
            exact ⟨by decide, by decide⟩
      case rD =>
        clear C18 hdb bdb
        clear vb db
        rintro σ H22 ⟨y7, vb, db, rfl, C22, hdb, bdb⟩
        -- all steps
        refine ⟨_, rfl, _, rfl, L, _, rfl, .inl (SqL.of C22.l), (rs.length : Int), 1, rfl, rfl, st, c, (rs.length : Int) + 1, rfl, by omega, lt8 (by omega), C22.b.s, fun H23 at_ b23 s23 l23 u23 => ?_⟩
        have C23 := C22.but b23 s23 nlS DS nL
        have hdb23 := hdb.kl (KLs.but b23 C22.b.s s23)
        clear C22 hdb b23
        have lc1 := cutV_length rs none (some at_)
        have lc2 := cutV_length rs (some at_) none
        refine ⟨_, rfl, _, rfl, at_, rfl, L, _, rfl, SqL.of C23.l, fun p1 np1 => ?_⟩
        have e1 := same_new (o := .lst (cutV rs none (some at_))) np1
        have a1 := upd_same (H := H23) (a := p1) (o := .lst (cutV rs none (some at_)))
        generalize upd H23 p1 (.lst (cutV rs none (some at_))) = G1 at e1 a1 ⊢
        refine ⟨_, rfl, (by show 1 ≤ sizeLine; decide), fun p2 np2 => ?_⟩
        have e2 := same_new (o := .lst [vb]) np2
        have a2 := upd_same (H := G1) (a := p2) (o := .lst [vb])
        generalize upd G1 p2 (.lst [vb]) = G2 at e2 a2 ⊢
        refine ⟨p1, p2, _, _, rfl, rfl, e2 _ _ a1, a2, Nat.le_of_lt (small1000 (by show (cutV rs none (some at_)).length + 1 ≤ 1000; omega)), fun p3 np3 => ?_⟩
        have e3 := same_new (o := .lst (cutV rs none (some at_) ++ [vb])) np3
        have a3 := upd_same (H := G2) (a := p3) (o := .lst (cutV rs none (some at_) ++ [vb]))
        generalize upd G2 p3 (.lst (cutV rs none (some at_) ++ [vb])) = G3 at e3 a3 ⊢
        have E3 := (e1.trans e2).trans e3
        refine ⟨_, rfl, _, rfl, at_, rfl, L, _, rfl, SqL.of (E3 _ _ C23.l), fun p4 np4 => ?_⟩
        have e4 := same_new (o := .lst (cutV rs (some at_) none)) np4
        have a4 := upd_same (H := G3) (a := p4) (o := .lst (cutV rs (some at_) none))
        generalize upd G3 p4 (.lst (cutV rs (some at_) none)) = G4 at e4 a4 ⊢
        refine ⟨p3, p4, _, _, rfl, rfl, e4 _ _ a3, a4, Nat.le_of_lt (small1000 (by rw [List.length_append]; show (cutV rs none (some at_)).length + 1 + (cutV rs (some at_) none).length ≤ 1000; omega)), fun sl np5 => ?_⟩
        have e5 := same_new (o := .lst (cutV rs none (some at_) ++ [vb] ++ cutV rs (some at_) none)) np5
        have hs := upd_same (H := G4) (a := sl) (o := .lst (cutV rs none (some at_) ++ [vb] ++ cutV rs (some at_) none))
        have E5 := (E3.trans e4).trans e5
        have slS := (C23.b.s.same (E3.trans e4)).fresh np5
        generalize upd G4 sl (.lst (cutV rs none (some at_) ++ [vb] ++ cutV rs (some at_) none)) = H24 at E5 hs ⊢
        have C24 := C23.same E5
        have psv := pairs_sv C24.p
        have pD : Paired (SvAt K H24) (cutV rs none (some at_) ++ [vb] ++ cutV rs (some at_) none) (cutE (tsR.map Stp.sv) none (some at_) ++ [db] ++ cutE (tsR.map Stp.sv) (some at_) none) :=
          paired_app (paired_app (paired_cutG psv none (some at_)) (.cons (hdb23.kl (KLs.same E5)) .nil)) (paired_cutG psv (some at_) none)
        have bD : ∀ d ∈ cutE (tsR.map Stp.sv) none (some at_) ++ [db] ++ cutE (tsR.map Stp.sv) (some at_) none, d.Bd := fun d hd' => by
          have h1 : ∀ d ∈ tsR.map Stp.sv, d.Bd := fun d hd => by
            obtain ⟨t, ht, rfl⟩ := List.mem_map.mp hd
            exact (okR t ht).bd
          simp only [List.mem_append, List.mem_cons, List.not_mem_nil, or_false] at hd'
          rcases hd' with (h | rfl) | h
          · exact h1 d (cutE_mem h)
          · exact bdb
          · exact h1 d (cutE_mem h)
        have lU : (cutV rs none (some at_) ++ [vb] ++ cutV rs (some at_) none).length ≤ 11 := by
          rw [List.length_append, List.length_append]
          show (cutV rs none (some at_)).length + 1 + (cutV rs (some at_) none).length ≤ 11
          omega
        clear e1 e2 e3 e4 e5 a1 a2 a3 a4 E3 E5 np1 np2 np3 np4 np5 C23 hdb23 psv lc1 lc2
        generalize cutV rs none (some at_) ++ [vb] ++ cutV rs (some at_) none = us at hs pD lU
        generalize cutE (tsR.map Stp.sv) none (some at_) ++ [db] ++ cutE (tsR.map Stp.sv) (some at_) none = ds at pD bD
        obtain ⟨ts, t1, t2, t3⟩ := pref ((zs.filter isR).map (·.x)) ds
        have okT := pref_ok bD t2
        have lds : us.length = ds.length := Paired.length pD
        have way := way_few zp okT (by omega)
        have okRn : ∀ t ∈ tsR, t.Ok ((zs.filter isR).map (·.x)) := fun t ht => (okR t ht).mem fun x hx => py.mem_iff.mp hx
        have wayR := way_few zp okRn (by omega)
        have ul4 := zp.ul
        -- given, kept
        refine ⟨_, rfl, _, rfl, st, c, rl, zs, U.length, rfl, C24.b.s, SqL.of C24.b.r, C24.b.z, by omega, fun H25 gl gs b25 s25 hg25 eg25 ndg pmg ng25 => ?_⟩
        have C25 := C24.but b25 s25 nlS DS nL
        have hs25 := b25 _ _ slS hs
        have pD25 := psv_kl pD (KLs.but b25 C24.b.s s25)
        have gn : gs.length ≤ 9 := by
          have z := pmg.length_eq
          rw [List.length_map, List.length_map] at z
          omega
        have hgS : SqA K H25 gl (gs.map fun e => V.ref e.t) := hg25.imp SqL.of SqT.of
        have eg : ∀ e ∈ gs, EntOk K U.length H25 e := fun e he => (eg25 e he).1
        clear hg25 eg25 ng25 C24 hs pD b25 s25
        refine ⟨_, rfl, gl, _, rfl, hgS, fun p np => ?_⟩
        have ep := same_new (o := .lst (gs.map fun e => V.ref e.t)) np
        refine ⟨p, gs, U.length, rfl, SqL.of upd_same, fun e he => (eg e he).same ep, by omega, fun H26 kl ks e26 N26 ek => ?_⟩
        refine ⟨small2, fun t0 nt0 => ?_⟩
        have et0 := same_new (o := .tup [.str (Str.ofString "NoStep"), .non]) nt0
        have ht0 := upd_same (H := H26) (a := t0) (o := .tup [.str (Str.ofString "NoStep"), .non])
        have E27 := (ep.trans e26).trans et0
        have hk27 := et0 _ _ N26.lst
        have ek27 : ∀ e ∈ ks, EntOk K U.length _ e := fun e he => (N26.e e he).1.same et0
        generalize upd H26 t0 (.tup [.str (Str.ofString "NoStep"), .non]) = H27 at ht0 E27 hk27 ek27 ⊢
        have C27 := C25.same E27
        have hs27 := E27 _ _ hs25
        have pD27 := psv_kl pD25 (KLs.same E27)
        have hg27 := hgS.extN (ExtN.same E27)
        have eg27 : ∀ e ∈ gs, EntOk K U.length H27 e := fun e he => (eg e he).same E27
        clear C25 hs25 pD25 hgS eg ep e26 N26 et0 nt0 np E27
        have ndgx : (gs.map (·.x)).Nodup := by
          have z := (pmg.map (·.1)).nodup_iff
          have e1 : (gs.map nr).map (·.1) = gs.map (·.x) := by rw [List.map_map]; rfl
          have e2 : (zs.map nr).map (·.1) = zs.map (·.x) := by rw [List.map_map]; rfl
          rw [e1, e2] at z
          exact z.mpr zp.nd
        have nmG : ∀ x, x ∈ (zs.filter isR).map (·.x) ↔ x ∈ (gs.filter isR).map (·.x) := fun x => by
          have f1 : ∀ l : List Ent, ((l.map nr).filter isN).map (·.1) = (l.filter isR).map (·.x) := fun l => by
            have : (l.map nr).filter isN = (l.filter isR).map nr := by
              rw [List.filter_map]
              rfl
            rw [this, List.map_map]
            rfl
          rw [← f1, ← f1]
          exact ((pmg.filter isN).map (·.1)).mem_iff.symm
        have cg : ∀ d, stpOf ((zs.filter isR).map (·.x)) d = stpOf ((gs.filter isR).map (·.x)) d := stpOf_congr nmG
        have cy : ∀ d, stpOf ys d = stpOf ((zs.filter isR).map (·.x)) d := stpOf_congr fun x => py.mem_iff
        -- the look at the steps
        refine ⟨_, rfl, sl, rfl, ⟨_, SqL.of hs27⟩, fun D3 nD3 => ?_⟩
        refine lc_list (K := K) (a := sl) (xs := us) (fun j H' => H' D3 = some (.lst (((ds.take j).map fun d => (stpOf ys d).isSome).map V.bl)) ∧ ∀ b o, b ≠ D3 → H27 b = some o → H' b = some o)
          ⟨upd_same, fun b o n e => by rw [upd_ne n]; exact e⟩ (fun j H' _ ⟨_, w2⟩ => SqL.of (w2 _ _ (ne_of_none hs27 nD3) hs27)) ?_ ?_
        · rintro j v H' hv ⟨w1, w2⟩
          obtain ⟨d, hd', hsv⟩ := (paired_get pD27).2 j v hv
          have S' : Same H27 H' := fun b o e => w2 _ _ (ne_of_none e nD3) e
          refine ⟨rfl, _, rfl, _, rfl, v, nl, d, ys, rfl, hsv.kl (KLs.same S'), S' _ _ C27.n, fun H3 e3 => ⟨_, e3 _ _ w1, ?_, ?_, fun b o n e => by rw [upd_ne n]; exact e3 _ _ (w2 b o n e)⟩⟩
          · rw [List.length_map, List.length_map, List.length_take]
            exact small1000 (by omega)
          · rw [upd_same, List.take_add_one, hd', List.map_append, List.map_append]
            rfl
        rintro H28 ⟨w1, w2⟩
        rw [lds, List.take_length] at w1
        have S28 : Same H27 H28 := fun b o e => w2 _ _ (ne_of_none e nD3) e
        refine ⟨D3, _, rfl, SqL.of w1, _, rfl, ?_⟩
        clear w2 nD3
        have eall : (ds.map fun d => (stpOf ys d).isSome).all id = decide (ts.length = ds.length) := by
          rw [List.all_map, ← all_iff t1 t2 t3]
          congr 1
          funext d
          show (stpOf ys d).isSome = _
          rw [cy d]
        rw [eall]
        refine' mid (C := _) (Inv := fun σ H' => ∃ dt : Addr, σ = [some (.ref a), some (.ref st), some (.ref ul), some (.ref rl), some (.ref nl), some (.ref D), some (.ref L), y7, some vb, some (.int at_), some (.ref sl), some (.ref gl), some (.ref kl), some (.ref dt), none, none, none, none] ∧ Same H27 H' ∧ DueP K U zs ts (ts.length = ds.length) H' dt) (fun key => ?mE) ?rE
        case mE =>
          refine ite2 (fun e => ?ea) (fun e => ?eb)
          case eb =>
            dsimp only
            refine key _ _ ?_
            exact ⟨t0, rfl, S28, .inl ⟨fun z => e (decide_eq_true z), S28 _ _ ht0⟩⟩
          case ea =>
            have elen : ts.length = ds.length := of_decide_eq_true e
            have C28 := C27.same S28
            have pS := pref_steps (psv_kl pD27 (KLs.same S28)) elen t2
            refine ⟨_, rfl, _, rfl, rl, sl, zs, us, ts, U, rfl, SqL.of C28.b.r, C28.b.z, zp.nd, by omega, by omega, SqL.of (S28 _ _ hs27), pS, way, fun H29 dl fs Ld e29 pLd sLd ed hd eds ndl => ⟨small2, fun t nt => ?_⟩⟩
            have et := same_new (o := .tup [.str (Str.ofString "told"), .ref dl]) nt
            dsimp only [gName]
            refine key _ _ ?_
            exact ⟨t, rfl, (S28.trans e29).trans et, .inr ⟨elen, dl, fs, Ld, upd_same, et _ _ hd, fun e he => (eds e he).same et, pLd, sLd, ed⟩⟩
        case rE =>
          clear w1 S28 eall ht0
          rintro σ H30 ⟨dt, rfl, S30, due⟩
          have C30 := C27.same S30
          have hs30 := S30 _ _ hs27
          have pD30 := psv_kl pD27 (KLs.same S30)
          have hg30 := hg27.extN (ExtN.same S30)
          have eg30 : ∀ e ∈ gs, EntOk K U.length H30 e := fun e he => (eg27 e he).same S30
          have hk30 := S30 _ _ hk27
          have ek30 : ∀ e ∈ ks, EntOk K U.length H30 e := fun e he => (ek27 e he).same S30
          clear C27 hs27 pD27 hg27 eg27 hk27 ek27 S30
          have t2G : ∀ (i : Nat) (t : Stp), ts[i]? = some t → ∃ d : Sv, ds[i]? = some d ∧ stpOf ((gs.filter isR).map (·.x)) d = some t := fun i t h => by
            obtain ⟨d, a1, a2⟩ := t2 i t h
            exact ⟨d, a1, by rw [← cg d]; exact a2⟩
          have t3G : ts.length < ds.length → ∃ d : Sv, ds[ts.length]? = some d ∧ stpOf ((gs.filter isR).map (·.x)) d = none := fun h => by
            obtain ⟨d, a1, a2⟩ := t3 h
            exact ⟨d, a1, by rw [← cg d]; exact a2⟩
          have wayg := way.perm pmg.symm
          refine ⟨2, rfl, by decide, by decide, for_range (n := 2) (fun i σ H' => ∃ y14 : Option V, σ = [some (.ref a), some (.ref st), some (.ref ul), some (.ref rl), some (.ref nl), some (.ref D), some (.ref L), y7, some vb, some (.int at_), some (.ref sl), some (.ref gl), some (.ref kl), some (.ref dt), y14, none, none, none] ∧ ExtN H30 H' ∧ LamX.Tabs T H')
            ⟨none, rfl, ExtN.refl _, C30.b.t⟩ ?turn ?after⟩
          case turn =>
            rintro i σ H1 hi ⟨y14, rfl, x1, tb1⟩
            refine ⟨_, rfl, _, rfl, gl, sl, gs, us, ds, ts, U, rfl, hg30.extN x1, fun e he => (eg30 e he).extN x1, ndgx, by omega, by omega, tb1, .inl (SqL.of (x1 _ _ hs30 fun ps => by simp)), psv_kl pD30 (KLs.ext x1), t1, t2G, t3G, wayg, fun hlt H2 t x2 tb2 ht2 => ?_, fun heq H2 t l es L0 x2 tb2 ht2 p0 s0 et hl ees => ?_⟩
            · have x02 := x1.trans x2
              rcases due.ext x02 with ⟨_, hdt⟩ | ⟨al, _⟩
              · refine ⟨_, rfl, 1, t, dt, _, _, by decide, rfl, rfl, SqT.of ht2, SqT.of hdt, .cons (xv_str 0 _) (.cons (.inl ⟨rfl, rfl⟩) .nil), _, rfl, iteF ?_⟩
                refine ⟨_, rfl, gl, _, rfl, hg30.extN x02, fun p np => ?_⟩
                have ep := same_new (o := .lst (gs.map fun e => V.ref e.t)) np
                have x03 := x02.trans (ExtN.same ep)
                refine ⟨_, rfl, 12, p, kl, _, _, by decide, rfl, rfl, SqL.of upd_same, SqL.of (x03 _ _ hk30 fun ps => by simp), xv_ents (fun e he => (eg30 e he).extN x03) (fun e he => (ek30 e he).extN x03) ek.symm, _, rfl, iteF ?_⟩
                exact ⟨_, rfl, x03, tb2.ext ep⟩
              · omega
            · have x02 := x1.trans x2
              rcases due.ext x02 with ⟨n, _⟩ | ⟨_, dl, fs, Ld, hdt, hdl, efs, pLd, sLd, ed⟩
              · exact absurd heq n
              · have eL : L0 = Ld := two_rise zp.nd (p0.trans (pmg.filter _)) s0 pLd sLd
                subst eL
                refine ⟨_, rfl, 13, t, dt, _, _, by decide, rfl, rfl, SqT.of ht2, SqT.of hdt, .cons (xv_str 12 _) (.cons (.inr (.inr (.inl (.inl ⟨l, dl, _, _, rfl, rfl, SqL.of hl, SqL.of hdl, xv_ents ees efs (et.trans ed.symm)⟩)))) .nil), _, rfl, iteF ?_⟩
                refine ⟨_, rfl, gl, _, rfl, hg30.extN x02, fun p np => ?_⟩
                have ep := same_new (o := .lst (gs.map fun e => V.ref e.t)) np
                have x03 := x02.trans (ExtN.same ep)
                refine ⟨_, rfl, 12, p, kl, _, _, by decide, rfl, rfl, SqL.of upd_same, SqL.of (x03 _ _ hk30 fun ps => by simp), xv_ents (fun e he => (eg30 e he).extN x03) (fun e he => (ek30 e he).extN x03) ek.symm, _, rfl, iteF ?_⟩
                exact ⟨_, rfl, x03, tb2.ext ep⟩
          case after =>
            rintro σ H1 ⟨y14, rfl, x1, tb1⟩
            refine ⟨_, rfl, _, rfl, L, _, rfl, .inl ⟨SqL.of (x1 _ _ C30.l fun ps => by simp), fun p np => ?_⟩⟩
            have ep := same_new (o := .tup rs) np
            have x2 := x1.trans (ExtN.same ep)
            have pR2 := pstp_ext C30.p x2
            refine ⟨gl, p, gs, rs, tsR.map Stp.sv, tsR, U, rfl, hg30.extN x2, fun e he => (eg30 e he).extN x2, ndgx, by omega, by omega, tb1.ext ep, .inr (SqT.of upd_same), pairs_sv pR2, by rw [List.length_map]; exact Nat.le_refl _, right_pref fun t ht => (okRn t ht).mem fun x hx => (nmG x).mp hx, fun h => absurd h (by rw [List.length_map]; omega), wayR.perm pmg.symm, fun h => absurd h (by rw [List.length_map]; omega), fun _ H3 t l es L0 x3 tb3 ht3 p0 s0 et hl ees => ?_⟩
            have x03 := x2.trans x3
            refine ⟨_, rfl, _, rfl, rl, L, zs, rs, tsR, U, rfl, SqL.of (x03 _ _ C30.b.r fun ps => by simp), fun z hz => (C30.b.z z hz).extN x03, zp.nd, by omega, by omega, SqL.of (x03 _ _ C30.l fun ps => by simp), pstp_ext C30.p x03, wayR, fun H4 dl fs Ld e4 pLd sLd ed hdl efs ndl => ⟨small2, fun t4 nt4 => ?_⟩⟩
            have et4 := same_new (o := .tup [.str (Str.ofString "told"), .ref dl]) nt4
            have E4 := e4.trans et4
            have eL : L0 = Ld := two_rise zp.nd (p0.trans (pmg.filter _)) s0 pLd sLd
            subst eL
            exact ⟨13, by decide, .inr ⟨t, t4, _, _, rfl, rfl, SqT.of (E4 _ _ ht3), SqT.of upd_same, .cons (xv_str 12 _) (.cons (.inr (.inr (.inl (.inl ⟨l, dl, _, _, rfl, rfl, SqL.of (E4 _ _ hl), SqL.of (et4 _ _ hdl), xv_ents (fun e he => (ees e he).same E4) (fun e he => (efs e he).same et4) (et.trans ed.symm)⟩)))) .nil)⟩, q _⟩
end
end SS
namespace SS
open PySem PySem.Spec PyProof.Rows L2
/-! ### the end of a law whose program has tables of generator expressions -/
theorem tabIn_of {K : PySem.W.Frag} {x : Str} {f c Pt : Addr} {oc e : Value} {od dd : Option Addr} {fd : FuncData} {sl s2 : Array (Option Value)} {vs : Array Value} (a : PySem.W.nsIn K mainGlobals x = some (some (.ref f))) (l : K.lookup f = some ⟨oc, od, .func fd, sl⟩) (hc : fd.code = .ref c)
    (lc : K.lookup c = some ⟨e, dd, .fields vs, s2⟩) (h11 : vs[11]? = some (.ref Pt)) : PySem.W.tabIn K x = some (c, Pt) := by
  unfold PySem.W.tabIn
  rw [a]
  simp only [l, hc, lc, h11]
def TabsOf (K : PySem.W.Frag) (h : Heap) (names : List Str) : Prop := ∀ x ∈ names, ∀ c Pt, PySem.W.tabIn K x = some (c, Pt) → PySem.W.CodeHd h c Pt ∧ h.get? Pt = some { cls := .none, data := .fields #[] }
theorem walk_ofN {l : PySem.W.OpenLaw} {n k : Nat} {q : Program} {loose : List Str} {XP : (Str → Option Value) → Heap → Prop} {YP : World → Heap → Prop} {d : DefRec} {K : Params → PySem.W.Frag} {CX : World → CXT} {x : Str} (names : List Str)
    (hn : l.most = some n) (hn2 : n ≤ sizeLine) (hdf : d.params.defaults = []) (hr : Room k callerA) (hrec : ∀ x ∈ names, ((recsOf q).any fun e => e.name == x) = true) (hY : ∀ (w : World) (h : Heap), YP w h → (K w.params).In h)
    (F : ∀ (w : World) (mg : Str → Option Value) (fa : Addr) (h : Heap), (K w.params).In h → h.Ns mainGlobals mg → mg d.name = some (.ref fa) → TabsOf (K w.params) h names → LamX.LawAtS l w (K w.params) (CX w) k n x mg fa h)
    (hCX : ∀ (w : World) (H : Hp) (s : Shared) (e : Value) (s' : Shared), CX w [] H s (fun _ _ _ => False) e s' → False) :
    PySem.W.WalkO q loose XP YP l.row.toRowW d [] (fun f vs => PySem.call f vs) := by
  refine Att.attach_callB hn hdf fun w s₀ s₁ mg mb fa o pm cd doc a vs ns G Y ho hd hcd hmg hobj hints hlen hbits hg => ?_
  have KX := hY w _ Y
  have tb : TabsOf (K w.params) s₁.heap names := fun y hy c Pt ht => by
    cases e : (recsOf q).find? (fun e => e.name == y) with
    | none =>
      have z := List.find?_eq_none.mp e
      obtain ⟨dL, hm, hn1⟩ := List.any_eq_true.mp (hrec y hy)
      exact absurd hn1 (z dL hm)
    | some dL => exact PySem.W.tab_of G.T KX e ht
  obtain ⟨fd, cs, sp, hT, nT, C, hb, hsp, hF⟩ := F w mg fa _ KX G.T.g hmg tb
  exact LamX.law_callTs KX G.T.g G.T.b G.T.builtins G.T.nolimit hg hT nT C G.T.bmain hobj hints (Nat.le_trans hlen hn2) hr hF hb (fun H hH hS => hsp H a ns hlen hbits hH hS) fun H e s' => hCX w H s₁ e s'
theorem tbOf {base : Heap} {mg : Str → Option Value} {c Pt : Addr} (t : LamX.TabB base mg c Pt) : GxR.TabB base mg c Pt := ⟨t.code, t.bm, t.gP⟩
theorem tabs_nil {T : List Addr} {H : Hp} (h : ∀ P ∈ T, H P = some (.tbl #[])) : Tabs T H := fun P hP => ⟨#[], h P hP, True.intro⟩
end SS
namespace SS
open PySem PySem.Spec PyProof.Rows L2
def cl16 (l : List Addr) (n : Nat) : Addr := l.getD n 0
def excOk (K : PySem.W.Frag) (C : Addr) : Bool :=
  PySem.W.excIn K C [.type "ValueError", .type "Exception", .type "BaseException", .type "object"] "ValueError.__new__" && PySem.W.keepIn K (.ref C) && decide (PySem.W.subIn K (.ref C) (.type "BaseException") = some true) && decide (PySem.W.typeIn K (.ref C) = some (.type "type")) &&
  decide (PySem.W.findIn K (.ref C) "__getattribute__" = some (some (.builtin "BaseException.__getattribute__"))) && decide (PySem.W.findIn K (.ref C) "__getattr__" = some none) && PySem.W.hasDictIn K C &&
  decide (PySem.W.findIn K (.ref C) "__class__" = some (some (.builtin "object.__class__"))) && decide (PySem.W.mroIn K C (.type "object") = some true) && decide (PySem.W.kitOne K (.ref C) (.type "ValueError") = some true)
def excAll (K : PySem.W.Frag) (l : List Addr) : Bool := (List.range 16).all fun i => excOk K (cl16 l i) && decide (PySem.W.exmOne K (.ref (cl16 l i)) (.ref (cl16 l 15)) = some true)
def kitAll (K : PySem.W.Frag) (l : List Addr) : Bool := (List.range 16).all fun i => (List.range 15).all fun j => decide (PySem.W.kitOne K (.ref (cl16 l i)) (.ref (cl16 l j)) = some (decide (i = j)))
theorem c16_mk {K : PySem.W.Frag} {mg : Str → Option Value} {l : List Addr} (hE : excAll K l = true) (hK : kitAll K l = true) (hg : ∀ i, i < 16 → mg (nms.getD i "") = some (.ref (cl16 l i)))
    (hn : PySem.W.specialIn K (.builtin "object.__class__") "__get__" = some (some (.builtin "getset_descriptor.__get__"))) (ht : PySem.W.takesIn K (.builtin "object.__class__") = some true) : C16 K mg (cl16 l) := by
  have all : ∀ i, i < 16 → excOk K (cl16 l i) = true ∧ PySem.W.exmOne K (.ref (cl16 l i)) (.ref (cl16 l 15)) = some true := fun i hi => by
    have z := List.all_eq_true.mp hE i (List.mem_range.mpr hi)
    rw [Bool.and_eq_true] at z
    exact ⟨z.1, of_decide_eq_true z.2⟩
  have sp : ∀ i, i < 16 → _ := fun i hi => by
    have z := (all i hi).1
    unfold excOk at z
    simp only [Bool.and_eq_true, decide_eq_true_eq] at z
    exact z
  refine ⟨fun i hi => ?_, fun i hi => ?_, fun i j hi hj => ?_, fun i hi => ?_, fun i hi => (all i hi).2⟩
  · obtain ⟨⟨⟨⟨⟨⟨⟨⟨⟨z1, z2⟩, z3⟩, z4⟩, z5⟩, z6⟩, z7⟩, z8⟩, z9⟩, z10⟩ := sp i hi
    exact ⟨hg i hi, z1, z2, z3, z4⟩
  · obtain ⟨⟨⟨⟨⟨⟨⟨⟨⟨z1, z2⟩, z3⟩, z4⟩, z5⟩, z6⟩, z7⟩, z8⟩, z9⟩, z10⟩ := sp i hi
    exact ⟨z5, z6, z3, z7, z8, hn, ht, z9⟩
  · have z := List.all_eq_true.mp hK i (List.mem_range.mpr hi)
    exact of_decide_eq_true (List.all_eq_true.mp z j (List.mem_range.mpr hj))
  · obtain ⟨⟨⟨⟨⟨⟨⟨⟨⟨z1, z2⟩, z3⟩, z4⟩, z5⟩, z6⟩, z7⟩, z8⟩, z9⟩, z10⟩ := sp i hi
    exact z10
end SS
namespace SS
open PySem PySem.Spec PyProof.Rows L2
/-! ### what the top leaves -/
set_option maxHeartbeats 4000000 in
theorem all_mk {l : PySem.W.OpenLaw} {w : World} {K : PySem.W.Frag} {h : Heap} {mg : Str → Option Value} {fa : Addr} (X : K.In h) (G : h.Ns mainGlobals mg) (hfa : mg "law" = some (.ref fa)) (tb : TabsOf K h ["rows_by_name"])
    {f0 : Addr} {od0 an0 : Option Addr} {sl0 : Array (Option Value)} {oc0 kV0 dc0 pm0 ct0 : Value}
    {cd0 : Value}
    {f1 : Addr} {od1 an1 : Option Addr} {sl1 : Array (Option Value)} {oc1 kV1 dc1 pm1 ct1 : Value}
    {T1 : Addr} {odT1 : Option Addr} {slT1 : Array (Option Value)} {ocT1 : Value} {nT1 : Nat} {tT1 : Tok}
    {cd1 : Value}
    {f2 : Addr} {od2 an2 : Option Addr} {sl2 : Array (Option Value)} {oc2 kV2 dc2 pm2 ct2 : Value}
    {cd2 : Value}
    {f3 : Addr} {od3 an3 : Option Addr} {sl3 : Array (Option Value)} {oc3 kV3 dc3 pm3 ct3 : Value}
    {cd3 : Value}
    {f4 : Addr} {od4 an4 : Option Addr} {sl4 : Array (Option Value)} {oc4 kV4 dc4 pm4 ct4 : Value}
    {cd4 : Value}
    {f5 : Addr} {od5 an5 : Option Addr} {sl5 : Array (Option Value)} {oc5 kV5 dc5 pm5 ct5 : Value}
    {cd5 : Value}
    {f6 : Addr} {od6 an6 : Option Addr} {sl6 : Array (Option Value)} {oc6 kV6 dc6 pm6 ct6 : Value}
    {cd6 : Value}
    {f7 : Addr} {od7 an7 : Option Addr} {sl7 : Array (Option Value)} {oc7 kV7 dc7 pm7 ct7 : Value}
    {cd7 : Value}
    {f8 : Addr} {od8 an8 : Option Addr} {sl8 : Array (Option Value)} {oc8 kV8 dc8 pm8 ct8 : Value}
    {cd8 : Value}
    {f9 : Addr} {od9 an9 : Option Addr} {sl9 : Array (Option Value)} {oc9 kV9 dc9 pm9 ct9 : Value}
    {cd9 : Value}
    {f10 : Addr} {od10 an10 : Option Addr} {sl10 : Array (Option Value)} {oc10 kV10 dc10 pm10 ct10 : Value}
    {cd10 : Value}
    {f11 : Addr} {od11 an11 : Option Addr} {sl11 : Array (Option Value)} {oc11 kV11 dc11 pm11 ct11 : Value}
    {cc11 PP11 : Addr} {ce11 : Value} {cdd11 : Option Addr} {cvs11 : Array Value} {csl11 : Array (Option Value)}
    {f12 : Addr} {od12 an12 : Option Addr} {sl12 : Array (Option Value)} {oc12 kV12 dc12 pm12 ct12 : Value}
    {cd12 : Value}
    {f13 : Addr} {od13 an13 : Option Addr} {sl13 : Array (Option Value)} {oc13 kV13 dc13 pm13 ct13 : Value}
    {cd13 : Value}
    {f14 : Addr} {od14 an14 : Option Addr} {sl14 : Array (Option Value)} {oc14 kV14 dc14 pm14 ct14 : Value}
    {cd14 : Value}
    {f15 : Addr} {od15 an15 : Option Addr} {sl15 : Array (Option Value)} {oc15 kV15 dc15 pm15 ct15 : Value}
    {cd15 : Value}
    {f16 : Addr} {od16 an16 : Option Addr} {sl16 : Array (Option Value)} {oc16 kV16 dc16 pm16 ct16 : Value}
    {cd16 : Value}
    {f17 : Addr} {od17 an17 : Option Addr} {sl17 : Array (Option Value)} {oc17 kV17 dc17 pm17 ct17 : Value}
    {cd17 : Value}
    {f18 : Addr} {od18 an18 : Option Addr} {sl18 : Array (Option Value)} {oc18 kV18 dc18 pm18 ct18 : Value}
    {cd18 : Value}
    {f19 : Addr} {od19 an19 : Option Addr} {sl19 : Array (Option Value)} {oc19 kV19 dc19 pm19 ct19 : Value}
    {cd19 : Value}
    {f20 : Addr} {od20 an20 : Option Addr} {sl20 : Array (Option Value)} {oc20 kV20 dc20 pm20 ct20 : Value}
    {cd20 : Value}
    {f21 : Addr} {od21 an21 : Option Addr} {sl21 : Array (Option Value)} {oc21 kV21 dc21 pm21 ct21 : Value}
    {cd21 : Value}
    {f22 : Addr} {od22 an22 : Option Addr} {sl22 : Array (Option Value)} {oc22 kV22 dc22 pm22 ct22 : Value}
    {cd22 : Value}
    {f23 : Addr} {od23 an23 : Option Addr} {sl23 : Array (Option Value)} {oc23 kV23 dc23 pm23 ct23 : Value}
    {cd23 : Value}
    {f24 : Addr} {od24 an24 : Option Addr} {sl24 : Array (Option Value)} {oc24 kV24 dc24 pm24 ct24 : Value}
    {cd24 : Value}
    {f25 : Addr} {od25 an25 : Option Addr} {sl25 : Array (Option Value)} {oc25 kV25 dc25 pm25 ct25 : Value}
    {cd25 : Value}
    {f26 : Addr} {od26 an26 : Option Addr} {sl26 : Array (Option Value)} {oc26 kV26 dc26 pm26 ct26 : Value}
    {cd26 : Value}
    {f27 : Addr} {od27 an27 : Option Addr} {sl27 : Array (Option Value)} {oc27 kV27 dc27 pm27 ct27 : Value}
    {cd27 : Value}
    {f28 : Addr} {od28 an28 : Option Addr} {sl28 : Array (Option Value)} {oc28 kV28 dc28 pm28 ct28 : Value}
    {cd28 : Value}
    {f29 : Addr} {od29 an29 : Option Addr} {sl29 : Array (Option Value)} {oc29 kV29 dc29 pm29 ct29 : Value}
    {cd29 : Value}
    {f30 : Addr} {od30 an30 : Option Addr} {sl30 : Array (Option Value)} {oc30 kV30 dc30 pm30 ct30 : Value}
    {cd30 : Value}
    {f31 : Addr} {od31 an31 : Option Addr} {sl31 : Array (Option Value)} {oc31 kV31 dc31 pm31 ct31 : Value}
    {cd31 : Value}
    {f32 : Addr} {od32 an32 : Option Addr} {sl32 : Array (Option Value)} {oc32 kV32 dc32 pm32 ct32 : Value}
    {cd32 : Value}
    {f33 : Addr} {od33 an33 : Option Addr} {sl33 : Array (Option Value)} {oc33 kV33 dc33 pm33 ct33 : Value}
    {cd33 : Value}
    {f34 : Addr} {od34 an34 : Option Addr} {sl34 : Array (Option Value)} {oc34 kV34 dc34 pm34 ct34 : Value}
    {cd34 : Value}
    {f35 : Addr} {od35 an35 : Option Addr} {sl35 : Array (Option Value)} {oc35 kV35 dc35 pm35 ct35 : Value}
    {cd35 : Value}
    {f36 : Addr} {od36 an36 : Option Addr} {sl36 : Array (Option Value)} {oc36 kV36 dc36 pm36 ct36 : Value}
    {cd36 : Value}
    {f37 : Addr} {od37 an37 : Option Addr} {sl37 : Array (Option Value)} {oc37 kV37 dc37 pm37 ct37 : Value}
    {cd37 : Value}
    {f38 : Addr} {od38 an38 : Option Addr} {sl38 : Array (Option Value)} {oc38 kV38 dc38 pm38 ct38 : Value}
    {cd38 : Value}
    {f39 : Addr} {od39 an39 : Option Addr} {sl39 : Array (Option Value)} {oc39 kV39 dc39 pm39 ct39 : Value}
    {cd39 : Value}
    {f40 : Addr} {od40 an40 : Option Addr} {sl40 : Array (Option Value)} {oc40 kV40 dc40 pm40 ct40 : Value}
    {cd40 : Value}
    {f41 : Addr} {od41 an41 : Option Addr} {sl41 : Array (Option Value)} {oc41 kV41 dc41 pm41 ct41 : Value}
    {cd41 : Value}
    {f42 : Addr} {od42 an42 : Option Addr} {sl42 : Array (Option Value)} {oc42 kV42 dc42 pm42 ct42 : Value}
    {cd42 : Value}
    {f43 : Addr} {od43 an43 : Option Addr} {sl43 : Array (Option Value)} {oc43 kV43 dc43 pm43 ct43 : Value}
    {cd43 : Value}
    {f44 : Addr} {od44 an44 : Option Addr} {sl44 : Array (Option Value)} {oc44 kV44 dc44 pm44 ct44 : Value}
    {cd44 : Value}
    {f45 : Addr} {od45 an45 : Option Addr} {sl45 : Array (Option Value)} {oc45 kV45 dc45 pm45 ct45 : Value}
    {cd45 : Value}
    {f46 : Addr} {od46 an46 : Option Addr} {sl46 : Array (Option Value)} {oc46 kV46 dc46 pm46 ct46 : Value}
    {cd46 : Value}
    {f47 : Addr} {od47 an47 : Option Addr} {sl47 : Array (Option Value)} {oc47 kV47 dc47 pm47 ct47 : Value}
    {cd47 : Value}
    {f48 : Addr} {od48 an48 : Option Addr} {sl48 : Array (Option Value)} {oc48 kV48 dc48 pm48 ct48 : Value}
    {cd48 : Value}
    {f49 : Addr} {od49 an49 : Option Addr} {sl49 : Array (Option Value)} {oc49 kV49 dc49 pm49 ct49 : Value}
    {cd49 : Value}
    {aN : Addr} {odN : Option Addr} {tN0 tN1 : Tok} {nN : Nat} {slN : Array (Option Value)}
    {tSb : Tok}
    {q0 : Addr}
    {q1 : Addr}
    {q2 : Addr}
    {q3 : Addr}
    {q4 : Addr}
    {q5 : Addr}
    {q6 : Addr}
    {q7 : Addr}
    {q8 : Addr}
    {q9 : Addr}
    {q10 : Addr}
    {q11 : Addr}
    {q12 : Addr}
    {q13 : Addr}
    {q14 : Addr}
    {q15 : Addr}
    (a0 : PySem.W.nsIn K mainGlobals "common_divisor" = some (some (.ref f0)))
    (l0 : K.lookup f0 = some ⟨oc0, od0, .func (PySem.W.fnOf "common_divisor" "common_divisor" (defArgs sCd) (defBody sCd) (defScope sCd) .none kV0 dc0 pm0 an0 cd0 ct0), sl0⟩)
    (c0 : PySem.W.codeIn K cd0 "common_divisor" = true)
    (k0 : PySem.W.keepIn K (.ref f0) = true)
    (a1 : PySem.W.nsIn K mainGlobals "fraction_of" = some (some (.ref f1)))
    (l1 : K.lookup f1 = some ⟨oc1, od1, .func (PySem.W.fnOf "fraction_of" "fraction_of" (defArgs sFo) (defBody sFo) (defScope sFo) (.ref T1) kV1 dc1 pm1 an1 cd1 ct1), sl1⟩)
    (t1 : K.lookup T1 = some ⟨ocT1, odT1, .seq #[.int 1 tT1] nT1, slT1⟩)
    (c1 : PySem.W.codeIn K cd1 "fraction_of" = true)
    (k1 : PySem.W.keepIn K (.ref f1) = true)
    (a2 : PySem.W.nsIn K mainGlobals "are_short" = some (some (.ref f2)))
    (l2 : K.lookup f2 = some ⟨oc2, od2, .func (PySem.W.fnOf "are_short" "are_short" (defArgs sAre) (defBody sAre) (defScope sAre) .none kV2 dc2 pm2 an2 cd2 ct2), sl2⟩)
    (c2 : PySem.W.codeIn K cd2 "are_short" = true)
    (k2 : PySem.W.keepIn K (.ref f2) = true)
    (a3 : PySem.W.nsIn K mainGlobals "plus" = some (some (.ref f3)))
    (l3 : K.lookup f3 = some ⟨oc3, od3, .func (PySem.W.fnOf "plus" "plus" (defArgs sPlus) (defBody sPlus) (defScope sPlus) .none kV3 dc3 pm3 an3 cd3 ct3), sl3⟩)
    (c3 : PySem.W.codeIn K cd3 "plus" = true)
    (k3 : PySem.W.keepIn K (.ref f3) = true)
    (a4 : PySem.W.nsIn K mainGlobals "times" = some (some (.ref f4)))
    (l4 : K.lookup f4 = some ⟨oc4, od4, .func (PySem.W.fnOf "times" "times" (defArgs sTimes) (defBody sTimes) (defScope sTimes) .none kV4 dc4 pm4 an4 cd4 ct4), sl4⟩)
    (c4 : PySem.W.codeIn K cd4 "times" = true)
    (k4 : PySem.W.keepIn K (.ref f4) = true)
    (a5 : PySem.W.nsIn K mainGlobals "fits_whole" = some (some (.ref f5)))
    (l5 : K.lookup f5 = some ⟨oc5, od5, .func (PySem.W.fnOf "fits_whole" "fits_whole" (defArgs sFitsW) (defBody sFitsW) (defScope sFitsW) .none kV5 dc5 pm5 an5 cd5 ct5), sl5⟩)
    (c5 : PySem.W.codeIn K cd5 "fits_whole" = true)
    (k5 : PySem.W.keepIn K (.ref f5) = true)
    (a6 : PySem.W.nsIn K mainGlobals "fits_fraction" = some (some (.ref f6)))
    (l6 : K.lookup f6 = some ⟨oc6, od6, .func (PySem.W.fnOf "fits_fraction" "fits_fraction" (defArgs sFitsF) (defBody sFitsF) (defScope sFitsF) .none kV6 dc6 pm6 an6 cd6 ct6), sl6⟩)
    (c6 : PySem.W.codeIn K cd6 "fits_fraction" = true)
    (k6 : PySem.W.keepIn K (.ref f6) = true)
    (a7 : PySem.W.nsIn K mainGlobals "without_noughts" = some (some (.ref f7)))
    (l7 : K.lookup f7 = some ⟨oc7, od7, .func (PySem.W.fnOf "without_noughts" "without_noughts" (defArgs sWn) (defBody sWn) (defScope sWn) .none kV7 dc7 pm7 an7 cd7 ct7), sl7⟩)
    (c7 : PySem.W.codeIn K cd7 "without_noughts" = true)
    (k7 : PySem.W.keepIn K (.ref f7) = true)
    (a8 : PySem.W.nsIn K mainGlobals "sum_of" = some (some (.ref f8)))
    (l8 : K.lookup f8 = some ⟨oc8, od8, .func (PySem.W.fnOf "sum_of" "sum_of" (defArgs sSumOf) (defBody sSumOf) (defScope sSumOf) .none kV8 dc8 pm8 an8 cd8 ct8), sl8⟩)
    (c8 : PySem.W.codeIn K cd8 "sum_of" = true)
    (k8 : PySem.W.keepIn K (.ref f8) = true)
    (a9 : PySem.W.nsIn K mainGlobals "sum_plus" = some (some (.ref f9)))
    (l9 : K.lookup f9 = some ⟨oc9, od9, .func (PySem.W.fnOf "sum_plus" "sum_plus" (defArgs sSumPlus) (defBody sSumPlus) (defScope sSumPlus) .none kV9 dc9 pm9 an9 cd9 ct9), sl9⟩)
    (c9 : PySem.W.codeIn K cd9 "sum_plus" = true)
    (k9 : PySem.W.keepIn K (.ref f9) = true)
    (a10 : PySem.W.nsIn K mainGlobals "sum_times" = some (some (.ref f10)))
    (l10 : K.lookup f10 = some ⟨oc10, od10, .func (PySem.W.fnOf "sum_times" "sum_times" (defArgs sSumTimes) (defBody sSumTimes) (defScope sSumTimes) .none kV10 dc10 pm10 an10 cd10 ct10), sl10⟩)
    (c10 : PySem.W.codeIn K cd10 "sum_times" = true)
    (k10 : PySem.W.keepIn K (.ref f10) = true)
    (a11 : PySem.W.nsIn K mainGlobals "rows_by_name" = some (some (.ref f11)))
    (l11 : K.lookup f11 = some ⟨oc11, od11, .func (PySem.W.fnOf "rows_by_name" "rows_by_name" (defArgs sRbn) (defBody sRbn) (defScope sRbn) .none kV11 dc11 pm11 an11 (.ref cc11) ct11), sl11⟩)
    (c11 : PySem.W.codeIn K (.ref cc11) "rows_by_name" = true)
    (k11 : PySem.W.keepIn K (.ref f11) = true)
    (lc11 : K.lookup cc11 = some ⟨ce11, cdd11, .fields cvs11, csl11⟩)
    (pp11 : cvs11[11]? = some (.ref PP11))
    (np11 : K.lookup PP11 = none)
    (a12 : PySem.W.nsIn K mainGlobals "equals_by_name" = some (some (.ref f12)))
    (l12 : K.lookup f12 = some ⟨oc12, od12, .func (PySem.W.fnOf "equals_by_name" "equals_by_name" (defArgs sEbn) (defBody sEbn) (defScope sEbn) .none kV12 dc12 pm12 an12 cd12 ct12), sl12⟩)
    (c12 : PySem.W.codeIn K cd12 "equals_by_name" = true)
    (k12 : PySem.W.keepIn K (.ref f12) = true)
    (a13 : PySem.W.nsIn K mainGlobals "names_row" = some (some (.ref f13)))
    (l13 : K.lookup f13 = some ⟨oc13, od13, .func (PySem.W.fnOf "names_row" "names_row" (defArgs sNamesRow) (defBody sNamesRow) (defScope sNamesRow) .none kV13 dc13 pm13 an13 cd13 ct13), sl13⟩)
    (c13 : PySem.W.codeIn K cd13 "names_row" = true)
    (k13 : PySem.W.keepIn K (.ref f13) = true)
    (a14 : PySem.W.nsIn K mainGlobals "fits_times" = some (some (.ref f14)))
    (l14 : K.lookup f14 = some ⟨oc14, od14, .func (PySem.W.fnOf "fits_times" "fits_times" (defArgs sFitsTm) (defBody sFitsTm) (defScope sFitsTm) .none kV14 dc14 pm14 an14 cd14 ct14), sl14⟩)
    (c14 : PySem.W.codeIn K cd14 "fits_times" = true)
    (k14 : PySem.W.keepIn K (.ref f14) = true)
    (a15 : PySem.W.nsIn K mainGlobals "fits_add" = some (some (.ref f15)))
    (l15 : K.lookup f15 = some ⟨oc15, od15, .func (PySem.W.fnOf "fits_add" "fits_add" (defArgs sFitsAdd) (defBody sFitsAdd) (defScope sFitsAdd) .none kV15 dc15 pm15 an15 cd15 ct15), sl15⟩)
    (c15 : PySem.W.codeIn K cd15 "fits_add" = true)
    (k15 : PySem.W.keepIn K (.ref f15) = true)
    (a16 : PySem.W.nsIn K mainGlobals "fits_step" = some (some (.ref f16)))
    (l16 : K.lookup f16 = some ⟨oc16, od16, .func (PySem.W.fnOf "fits_step" "fits_step" (defArgs sFitsStep) (defBody sFitsStep) (defScope sFitsStep) .none kV16 dc16 pm16 an16 cd16 ct16), sl16⟩)
    (c16 : PySem.W.codeIn K cd16 "fits_step" = true)
    (k16 : PySem.W.keepIn K (.ref f16) = true)
    (a17 : PySem.W.nsIn K mainGlobals "row_behind" = some (some (.ref f17)))
    (l17 : K.lookup f17 = some ⟨oc17, od17, .func (PySem.W.fnOf "row_behind" "row_behind" (defArgs sRowBehind) (defBody sRowBehind) (defScope sRowBehind) .none kV17 dc17 pm17 an17 cd17 ct17), sl17⟩)
    (c17 : PySem.W.codeIn K cd17 "row_behind" = true)
    (k17 : PySem.W.keepIn K (.ref f17) = true)
    (a18 : PySem.W.nsIn K mainGlobals "stepped" = some (some (.ref f18)))
    (l18 : K.lookup f18 = some ⟨oc18, od18, .func (PySem.W.fnOf "stepped" "stepped" (defArgs sStepped) (defBody sStepped) (defScope sStepped) .none kV18 dc18 pm18 an18 cd18 ct18), sl18⟩)
    (c18 : PySem.W.codeIn K cd18 "stepped" = true)
    (k18 : PySem.W.keepIn K (.ref f18) = true)
    (a19 : PySem.W.nsIn K mainGlobals "_law_fresh" = some (some (.ref f19)))
    (l19 : K.lookup f19 = some ⟨oc19, od19, .func (PySem.W.fnOf "_law_fresh" "_law_fresh" (defArgs sFresh) (defBody sFresh) (defScope sFresh) .none kV19 dc19 pm19 an19 cd19 ct19), sl19⟩)
    (c19 : PySem.W.codeIn K cd19 "_law_fresh" = true)
    (k19 : PySem.W.keepIn K (.ref f19) = true)
    (a20 : PySem.W.nsIn K mainGlobals "_law_mixed" = some (some (.ref f20)))
    (l20 : K.lookup f20 = some ⟨oc20, od20, .func (PySem.W.fnOf "_law_mixed" "_law_mixed" (defArgs sMixed) (defBody sMixed) (defScope sMixed) .none kV20 dc20 pm20 an20 cd20 ct20), sl20⟩)
    (c20 : PySem.W.codeIn K cd20 "_law_mixed" = true)
    (k20 : PySem.W.keepIn K (.ref f20) = true)
    (a21 : PySem.W.nsIn K mainGlobals "_law_fill" = some (some (.ref f21)))
    (l21 : K.lookup f21 = some ⟨oc21, od21, .func (PySem.W.fnOf "_law_fill" "_law_fill" (defArgs sFill) (defBody sFill) (defScope sFill) .none kV21 dc21 pm21 an21 cd21 ct21), sl21⟩)
    (c21 : PySem.W.codeIn K cd21 "_law_fill" = true)
    (k21 : PySem.W.keepIn K (.ref f21) = true)
    (a22 : PySem.W.nsIn K mainGlobals "_law_take" = some (some (.ref f22)))
    (l22 : K.lookup f22 = some ⟨oc22, od22, .func (PySem.W.fnOf "_law_take" "_law_take" (defArgs sTake) (defBody sTake) (defScope sTake) .none kV22 dc22 pm22 an22 cd22 ct22), sl22⟩)
    (c22 : PySem.W.codeIn K cd22 "_law_take" = true)
    (k22 : PySem.W.keepIn K (.ref f22) = true)
    (a23 : PySem.W.nsIn K mainGlobals "_law_whole" = some (some (.ref f23)))
    (l23 : K.lookup f23 = some ⟨oc23, od23, .func (PySem.W.fnOf "_law_whole" "_law_whole" (defArgs sWhole) (defBody sWhole) (defScope sWhole) .none kV23 dc23 pm23 an23 cd23 ct23), sl23⟩)
    (c23 : PySem.W.codeIn K cd23 "_law_whole" = true)
    (k23 : PySem.W.keepIn K (.ref f23) = true)
    (a24 : PySem.W.nsIn K mainGlobals "_law_shared" = some (some (.ref f24)))
    (l24 : K.lookup f24 = some ⟨oc24, od24, .func (PySem.W.fnOf "_law_shared" "_law_shared" (defArgs sSh) (defBody sSh) (defScope sSh) .none kV24 dc24 pm24 an24 cd24 ct24), sl24⟩)
    (c24 : PySem.W.codeIn K cd24 "_law_shared" = true)
    (k24 : PySem.W.keepIn K (.ref f24) = true)
    (a25 : PySem.W.nsIn K mainGlobals "_law_frac" = some (some (.ref f25)))
    (l25 : K.lookup f25 = some ⟨oc25, od25, .func (PySem.W.fnOf "_law_frac" "_law_frac" (defArgs sFrac) (defBody sFrac) (defScope sFrac) .none kV25 dc25 pm25 an25 cd25 ct25), sl25⟩)
    (c25 : PySem.W.codeIn K cd25 "_law_frac" = true)
    (k25 : PySem.W.keepIn K (.ref f25) = true)
    (a26 : PySem.W.nsIn K mainGlobals "_law_plus" = some (some (.ref f26)))
    (l26 : K.lookup f26 = some ⟨oc26, od26, .func (PySem.W.fnOf "_law_plus" "_law_plus" (defArgs sLPlus) (defBody sLPlus) (defScope sLPlus) .none kV26 dc26 pm26 an26 cd26 ct26), sl26⟩)
    (c26 : PySem.W.codeIn K cd26 "_law_plus" = true)
    (k26 : PySem.W.keepIn K (.ref f26) = true)
    (a27 : PySem.W.nsIn K mainGlobals "_law_times" = some (some (.ref f27)))
    (l27 : K.lookup f27 = some ⟨oc27, od27, .func (PySem.W.fnOf "_law_times" "_law_times" (defArgs sLTimes) (defBody sLTimes) (defScope sLTimes) .none kV27 dc27 pm27 an27 cd27 ct27), sl27⟩)
    (c27 : PySem.W.codeIn K cd27 "_law_times" = true)
    (k27 : PySem.W.keepIn K (.ref f27) = true)
    (a28 : PySem.W.nsIn K mainGlobals "_law_is_fraction" = some (some (.ref f28)))
    (l28 : K.lookup f28 = some ⟨oc28, od28, .func (PySem.W.fnOf "_law_is_fraction" "_law_is_fraction" (defArgs sIsf) (defBody sIsf) (defScope sIsf) .none kV28 dc28 pm28 an28 cd28 ct28), sl28⟩)
    (c28 : PySem.W.codeIn K cd28 "_law_is_fraction" = true)
    (k28 : PySem.W.keepIn K (.ref f28) = true)
    (a29 : PySem.W.nsIn K mainGlobals "_law_worth" = some (some (.ref f29)))
    (l29 : K.lookup f29 = some ⟨oc29, od29, .func (PySem.W.fnOf "_law_worth" "_law_worth" (defArgs sLWorth) (defBody sLWorth) (defScope sLWorth) .none kV29 dc29 pm29 an29 cd29 ct29), sl29⟩)
    (c29 : PySem.W.codeIn K cd29 "_law_worth" = true)
    (k29 : PySem.W.keepIn K (.ref f29) = true)
    (a30 : PySem.W.nsIn K mainGlobals "_law_add" = some (some (.ref f30)))
    (l30 : K.lookup f30 = some ⟨oc30, od30, .func (PySem.W.fnOf "_law_add" "_law_add" (defArgs sAdd) (defBody sAdd) (defScope sAdd) .none kV30 dc30 pm30 an30 cd30 ct30), sl30⟩)
    (c30 : PySem.W.codeIn K cd30 "_law_add" = true)
    (k30 : PySem.W.keepIn K (.ref f30) = true)
    (a31 : PySem.W.nsIn K mainGlobals "_law_some_name" = some (some (.ref f31)))
    (l31 : K.lookup f31 = some ⟨oc31, od31, .func (PySem.W.fnOf "_law_some_name" "_law_some_name" (defArgs sSname) (defBody sSname) (defScope sSname) .none kV31 dc31 pm31 an31 cd31 ct31), sl31⟩)
    (c31 : PySem.W.codeIn K cd31 "_law_some_name" = true)
    (k31 : PySem.W.keepIn K (.ref f31) = true)
    (a32 : PySem.W.nsIn K mainGlobals "_law_names" = some (some (.ref f32)))
    (l32 : K.lookup f32 = some ⟨oc32, od32, .func (PySem.W.fnOf "_law_names" "_law_names" (defArgs sNames) (defBody sNames) (defScope sNames) .none kV32 dc32 pm32 an32 cd32 ct32), sl32⟩)
    (c32 : PySem.W.codeIn K cd32 "_law_names" = true)
    (k32 : PySem.W.keepIn K (.ref f32) = true)
    (a33 : PySem.W.nsIn K mainGlobals "_law_number" = some (some (.ref f33)))
    (l33 : K.lookup f33 = some ⟨oc33, od33, .func (PySem.W.fnOf "_law_number" "_law_number" (defArgs sNumber) (defBody sNumber) (defScope sNumber) .none kV33 dc33 pm33 an33 cd33 ct33), sl33⟩)
    (c33 : PySem.W.codeIn K cd33 "_law_number" = true)
    (k33 : PySem.W.keepIn K (.ref f33) = true)
    (a34 : PySem.W.nsIn K mainGlobals "_law_some_sum" = some (some (.ref f34)))
    (l34 : K.lookup f34 = some ⟨oc34, od34, .func (PySem.W.fnOf "_law_some_sum" "_law_some_sum" (defArgs sSsum) (defBody sSsum) (defScope sSsum) .none kV34 dc34 pm34 an34 cd34 ct34), sl34⟩)
    (c34 : PySem.W.codeIn K cd34 "_law_some_sum" = true)
    (k34 : PySem.W.keepIn K (.ref f34) = true)
    (a35 : PySem.W.nsIn K mainGlobals "_law_short" = some (some (.ref f35)))
    (l35 : K.lookup f35 = some ⟨oc35, od35, .func (PySem.W.fnOf "_law_short" "_law_short" (defArgs sShort) (defBody sShort) (defScope sShort) .none kV35 dc35 pm35 an35 cd35 ct35), sl35⟩)
    (c35 : PySem.W.codeIn K cd35 "_law_short" = true)
    (k35 : PySem.W.keepIn K (.ref f35) = true)
    (a36 : PySem.W.nsIn K mainGlobals "_law_some_row" = some (some (.ref f36)))
    (l36 : K.lookup f36 = some ⟨oc36, od36, .func (PySem.W.fnOf "_law_some_row" "_law_some_row" (defArgs sSRow) (defBody sSRow) (defScope sSRow) .none kV36 dc36 pm36 an36 cd36 ct36), sl36⟩)
    (c36 : PySem.W.codeIn K cd36 "_law_some_row" = true)
    (k36 : PySem.W.keepIn K (.ref f36) = true)
    (a37 : PySem.W.nsIn K mainGlobals "_law_some_point" = some (some (.ref f37)))
    (l37 : K.lookup f37 = some ⟨oc37, od37, .func (PySem.W.fnOf "_law_some_point" "_law_some_point" (defArgs sSpoint) (defBody sSpoint) (defScope sSpoint) .none kV37 dc37 pm37 an37 cd37 ct37), sl37⟩)
    (c37 : PySem.W.codeIn K cd37 "_law_some_point" = true)
    (k37 : PySem.W.keepIn K (.ref f37) = true)
    (a38 : PySem.W.nsIn K mainGlobals "_law_copied" = some (some (.ref f38)))
    (l38 : K.lookup f38 = some ⟨oc38, od38, .func (PySem.W.fnOf "_law_copied" "_law_copied" (defArgs sCopied) (defBody sCopied) (defScope sCopied) .none kV38 dc38 pm38 an38 cd38 ct38), sl38⟩)
    (c38 : PySem.W.codeIn K cd38 "_law_copied" = true)
    (k38 : PySem.W.keepIn K (.ref f38) = true)
    (a39 : PySem.W.nsIn K mainGlobals "_law_done" = some (some (.ref f39)))
    (l39 : K.lookup f39 = some ⟨oc39, od39, .func (PySem.W.fnOf "_law_done" "_law_done" (defArgs sDoneL) (defBody sDoneL) (defScope sDoneL) .none kV39 dc39 pm39 an39 cd39 ct39), sl39⟩)
    (c39 : PySem.W.codeIn K cd39 "_law_done" = true)
    (k39 : PySem.W.keepIn K (.ref f39) = true)
    (a40 : PySem.W.nsIn K mainGlobals "_law_handed" = some (some (.ref f40)))
    (l40 : K.lookup f40 = some ⟨oc40, od40, .func (PySem.W.fnOf "_law_handed" "_law_handed" (defArgs sHanded) (defBody sHanded) (defScope sHanded) .none kV40 dc40 pm40 an40 cd40 ct40), sl40⟩)
    (c40 : PySem.W.codeIn K cd40 "_law_handed" = true)
    (k40 : PySem.W.keepIn K (.ref f40) = true)
    (a41 : PySem.W.nsIn K mainGlobals "_law_kind6" = some (some (.ref f41)))
    (l41 : K.lookup f41 = some ⟨oc41, od41, .func (PySem.W.fnOf "_law_kind6" "_law_kind6" (defArgs sKind6) (defBody sKind6) (defScope sKind6) .none kV41 dc41 pm41 an41 cd41 ct41), sl41⟩)
    (c41 : PySem.W.codeIn K cd41 "_law_kind6" = true)
    (k41 : PySem.W.keepIn K (.ref f41) = true)
    (a42 : PySem.W.nsIn K mainGlobals "_law_within" = some (some (.ref f42)))
    (l42 : K.lookup f42 = some ⟨oc42, od42, .func (PySem.W.fnOf "_law_within" "_law_within" (defArgs sWithin) (defBody sWithin) (defScope sWithin) .none kV42 dc42 pm42 an42 cd42 ct42), sl42⟩)
    (c42 : PySem.W.codeIn K cd42 "_law_within" = true)
    (k42 : PySem.W.keepIn K (.ref f42) = true)
    (a43 : PySem.W.nsIn K mainGlobals "_law_row_plus" = some (some (.ref f43)))
    (l43 : K.lookup f43 = some ⟨oc43, od43, .func (PySem.W.fnOf "_law_row_plus" "_law_row_plus" (defArgs sRowPlus) (defBody sRowPlus) (defScope sRowPlus) .none kV43 dc43 pm43 an43 cd43 ct43), sl43⟩)
    (c43 : PySem.W.codeIn K cd43 "_law_row_plus" = true)
    (k43 : PySem.W.keepIn K (.ref f43) = true)
    (a44 : PySem.W.nsIn K mainGlobals "_law_equals" = some (some (.ref f44)))
    (l44 : K.lookup f44 = some ⟨oc44, od44, .func (PySem.W.fnOf "_law_equals" "_law_equals" (defArgs sEquals) (defBody sEquals) (defScope sEquals) .none kV44 dc44 pm44 an44 cd44 ct44), sl44⟩)
    (c44 : PySem.W.codeIn K cd44 "_law_equals" = true)
    (k44 : PySem.W.keepIn K (.ref f44) = true)
    (a45 : PySem.W.nsIn K mainGlobals "_law_steps" = some (some (.ref f45)))
    (l45 : K.lookup f45 = some ⟨oc45, od45, .func (PySem.W.fnOf "_law_steps" "_law_steps" (defArgs sSteps) (defBody sSteps) (defScope sSteps) .none kV45 dc45 pm45 an45 cd45 ct45), sl45⟩)
    (c45 : PySem.W.codeIn K cd45 "_law_steps" = true)
    (k45 : PySem.W.keepIn K (.ref f45) = true)
    (a46 : PySem.W.nsIn K mainGlobals "_law_is_step" = some (some (.ref f46)))
    (l46 : K.lookup f46 = some ⟨oc46, od46, .func (PySem.W.fnOf "_law_is_step" "_law_is_step" (defArgs sIsStep) (defBody sIsStep) (defScope sIsStep) .none kV46 dc46 pm46 an46 cd46 ct46), sl46⟩)
    (c46 : PySem.W.codeIn K cd46 "_law_is_step" = true)
    (k46 : PySem.W.keepIn K (.ref f46) = true)
    (a47 : PySem.W.nsIn K mainGlobals "_law_odd" = some (some (.ref f47)))
    (l47 : K.lookup f47 = some ⟨oc47, od47, .func (PySem.W.fnOf "_law_odd" "_law_odd" (defArgs sOdd) (defBody sOdd) (defScope sOdd) .none kV47 dc47 pm47 an47 cd47 ct47), sl47⟩)
    (c47 : PySem.W.codeIn K cd47 "_law_odd" = true)
    (k47 : PySem.W.keepIn K (.ref f47) = true)
    (a48 : PySem.W.nsIn K mainGlobals "_law_asked_for" = some (some (.ref f48)))
    (l48 : K.lookup f48 = some ⟨oc48, od48, .func (PySem.W.fnOf "_law_asked_for" "_law_asked_for" (defArgs sAskedFor) (defBody sAskedFor) (defScope sAskedFor) .none kV48 dc48 pm48 an48 cd48 ct48), sl48⟩)
    (c48 : PySem.W.codeIn K cd48 "_law_asked_for" = true)
    (k48 : PySem.W.keepIn K (.ref f48) = true)
    (a49 : PySem.W.nsIn K mainGlobals "law" = some (some (.ref f49)))
    (l49 : K.lookup f49 = some ⟨oc49, od49, .func (PySem.W.fnOf "law" "law" (defArgs sLaw) (defBody sLaw) (defScope sLaw) .none kV49 dc49 pm49 an49 cd49 ct49), sl49⟩)
    (c49 : PySem.W.codeIn K cd49 "law" = true)
    (k49 : PySem.W.keepIn K (.ref f49) = true)
    (aNn : PySem.W.nsIn K mainGlobals "NOUGHT" = some (some (.ref aN)))
    (lN : K.lookup aN = some ⟨.type "tuple", odN, .seq #[.int 0 tN0, .int 1 tN1] nN, slN⟩)
    (aSb : PySem.W.nsIn K mainGlobals "SHORT_BITS" = some (some (.int 256 tSb)))
    (g_q0 : PySem.W.nsIn K mainGlobals "NoFraction" = some (some (.ref q0)))
    (g_q1 : PySem.W.nsIn K mainGlobals "NoRow" = some (some (.ref q1)))
    (g_q2 : PySem.W.nsIn K mainGlobals "NoName" = some (some (.ref q2)))
    (g_q3 : PySem.W.nsIn K mainGlobals "Stands" = some (some (.ref q3)))
    (g_q4 : PySem.W.nsIn K mainGlobals "Full" = some (some (.ref q4)))
    (g_q5 : PySem.W.nsIn K mainGlobals "NoLevel" = some (some (.ref q5)))
    (g_q6 : PySem.W.nsIn K mainGlobals "NoMark" = some (some (.ref q6)))
    (g_q7 : PySem.W.nsIn K mainGlobals "NothingDone" = some (some (.ref q7)))
    (g_q8 : PySem.W.nsIn K mainGlobals "NoPoint" = some (some (.ref q8)))
    (g_q9 : PySem.W.nsIn K mainGlobals "NoStep" = some (some (.ref q9)))
    (g_q10 : PySem.W.nsIn K mainGlobals "NoNumber" = some (some (.ref q10)))
    (g_q11 : PySem.W.nsIn K mainGlobals "NoNames" = some (some (.ref q11)))
    (g_q12 : PySem.W.nsIn K mainGlobals "NoText" = some (some (.ref q12)))
    (g_q13 : PySem.W.nsIn K mainGlobals "NoLine" = some (some (.ref q13)))
    (g_q14 : PySem.W.nsIn K mainGlobals "NoWord" = some (some (.ref q14)))
    (g_q15 : PySem.W.nsIn K mainGlobals "StoreError" = some (some (.ref q15)))
    (e_exc : excAll K [q0, q1, q2, q3, q4, q5, q6, q7, q8, q9, q10, q11, q12, q13, q14, q15] = true)
    (e_kit : kitAll K [q0, q1, q2, q3, q4, q5, q6, q7, q8, q9, q10, q11, q12, q13, q14, q15] = true)
    (i_hn : PySem.W.specialIn K (.builtin "object.__class__") "__get__" = some (some (.builtin "getset_descriptor.__get__")))
    (i_ht : PySem.W.takesIn K (.builtin "object.__class__") = some true)
    (z_ValueError : PySem.W.nsIn K mainGlobals "ValueError" = some none)
    (z_abs : PySem.W.nsIn K mainGlobals "abs" = some none)
    (z_all : PySem.W.nsIn K mainGlobals "all" = some none)
    (z_bool : PySem.W.nsIn K mainGlobals "bool" = some none)
    (z_dict : PySem.W.nsIn K mainGlobals "dict" = some none)
    (z_enumerate : PySem.W.nsIn K mainGlobals "enumerate" = some none)
    (z_int : PySem.W.nsIn K mainGlobals "int" = some none)
    (z_isinstance : PySem.W.nsIn K mainGlobals "isinstance" = some none)
    (z_len : PySem.W.nsIn K mainGlobals "len" = some none)
    (z_list : PySem.W.nsIn K mainGlobals "list" = some none)
    (z_max : PySem.W.nsIn K mainGlobals "max" = some none)
    (z_min : PySem.W.nsIn K mainGlobals "min" = some none)
    (z_range : PySem.W.nsIn K mainGlobals "range" = some none)
    (z_sorted : PySem.W.nsIn K mainGlobals "sorted" = some none)
    (z_str : PySem.W.nsIn K mainGlobals "str" = some none)
    (z_tuple : PySem.W.nsIn K mainGlobals "tuple" = some none)
    : LamX.LawAtS l w K CX0 9 63 "_law_script" mg fa h := by
  have e := hfa.symm.trans (PySem.W.mg_of X G a49)
  cases e
  have F0 := fun_mk (st := sCd) l0 c0 k0
  have b0 := F0.binds (ps := ["a", "b"]) fun _ _ _ _ _ _ us hl => match us, hl with | [_, _], _ => rfl
  have m0 := PySem.W.mg_of X G a0
  have F1 : FunD K "fraction_of" "fraction_of" (defArgs sFo) (defBody sFo) (defScope sFo) [.int 1] [] f1 _ := ⟨⟨oc1, od1, .ref T1, kV1, dc1, pm1, an1, cd1, ct1, sl1, rfl, l1, c1, .inr ⟨by decide, T1, _, [.int 1 tT1], nT1, rfl, t1, rfl, .cons ⟨_, rfl⟩ .nil⟩, .inl rfl⟩, k1⟩
  obtain ⟨ds1, vd1, b1⟩ := F1.binds1 (ps := ["top", "bottom"]) 2 1 (by decide) rfl fun T kV doc pm an cdv ct us its hl hi => match us, its, hl, hi with | [_, _], [_], _, _ => ⟨_, rfl, rfl⟩
  have m1 := PySem.W.mg_of X G a1
  have F2 := fun_mk (st := sAre) l2 c2 k2
  have b2 := F2.binds (ps := ["a", "b"]) fun _ _ _ _ _ _ us hl => match us, hl with | [_, _], _ => rfl
  have m2 := PySem.W.mg_of X G a2
  have F3 := fun_mk (st := sPlus) l3 c3 k3
  have b3 := F3.binds (ps := ["a", "b"]) fun _ _ _ _ _ _ us hl => match us, hl with | [_, _], _ => rfl
  have m3 := PySem.W.mg_of X G a3
  have F4 := fun_mk (st := sTimes) l4 c4 k4
  have b4 := F4.binds (ps := ["a", "b"]) fun _ _ _ _ _ _ us hl => match us, hl with | [_, _], _ => rfl
  have m4 := PySem.W.mg_of X G a4
  have F5 := fun_mk (st := sFitsW) l5 c5 k5
  have b5 := F5.binds (ps := ["thing"]) fun _ _ _ _ _ _ us hl => match us, hl with | [_], _ => rfl
  have m5 := PySem.W.mg_of X G a5
  have F6 := fun_mk (st := sFitsF) l6 c6 k6
  have b6 := F6.binds (ps := ["thing"]) fun _ _ _ _ _ _ us hl => match us, hl with | [_], _ => rfl
  have m6 := PySem.W.mg_of X G a6
  have F7 := fun_mk (st := sWn) l7 c7 k7
  have b7 := F7.binds (ps := ["numbers"]) fun _ _ _ _ _ _ us hl => match us, hl with | [_], _ => rfl
  have m7 := PySem.W.mg_of X G a7
  have F8 := fun_mk (st := sSumOf) l8 c8 k8
  have b8 := F8.binds (ps := ["pairs"]) fun _ _ _ _ _ _ us hl => match us, hl with | [_], _ => rfl
  have m8 := PySem.W.mg_of X G a8
  have F9 := fun_mk (st := sSumPlus) l9 c9 k9
  have b9 := F9.binds (ps := ["one", "other"]) fun _ _ _ _ _ _ us hl => match us, hl with | [_, _], _ => rfl
  have m9 := PySem.W.mg_of X G a9
  have F10 := fun_mk (st := sSumTimes) l10 c10 k10
  have b10 := F10.binds (ps := ["one", "number"]) fun _ _ _ _ _ _ us hl => match us, hl with | [_, _], _ => rfl
  have m10 := PySem.W.mg_of X G a10
  have F11 := fun_mk (st := sRbn) l11 c11 k11
  have b11 := F11.binds (ps := ["rows"]) fun _ _ _ _ _ _ us hl => match us, hl with | [_], _ => rfl
  have m11 := PySem.W.mg_of X G a11
  have F12 := fun_mk (st := sEbn) l12 c12 k12
  have b12 := F12.binds (ps := ["rows"]) fun _ _ _ _ _ _ us hl => match us, hl with | [_], _ => rfl
  have m12 := PySem.W.mg_of X G a12
  have F13 := fun_mk (st := sNamesRow) l13 c13 k13
  have b13 := F13.binds (ps := ["equals", "thing"]) fun _ _ _ _ _ _ us hl => match us, hl with | [_, _], _ => rfl
  have m13 := PySem.W.mg_of X G a13
  have F14 := fun_mk (st := sFitsTm) l14 c14 k14
  have b14 := F14.binds (ps := ["equals", "step"]) fun _ _ _ _ _ _ us hl => match us, hl with | [_, _], _ => rfl
  have m14 := PySem.W.mg_of X G a14
  have F15 := fun_mk (st := sFitsAdd) l15 c15 k15
  have b15 := F15.binds (ps := ["equals", "step"]) fun _ _ _ _ _ _ us hl => match us, hl with | [_, _], _ => rfl
  have m15 := PySem.W.mg_of X G a15
  have F16 := fun_mk (st := sFitsStep) l16 c16 k16
  have b16 := F16.binds (ps := ["equals", "step"]) fun _ _ _ _ _ _ us hl => match us, hl with | [_, _], _ => rfl
  have m16 := PySem.W.mg_of X G a16
  have F17 := fun_mk (st := sRowBehind) l17 c17 k17
  have b17 := F17.binds (ps := ["equals", "step"]) fun _ _ _ _ _ _ us hl => match us, hl with | [_, _], _ => rfl
  have m17 := PySem.W.mg_of X G a17
  have F18 := fun_mk (st := sStepped) l18 c18 k18
  have b18 := F18.binds (ps := ["rows", "steps"]) fun _ _ _ _ _ _ us hl => match us, hl with | [_, _], _ => rfl
  have m18 := PySem.W.mg_of X G a18
  have F19 := fun_mk (st := sFresh) l19 c19 k19
  have b19 := F19.binds (ps := ["_law_script"]) fun _ _ _ _ _ _ us hl => match us, hl with | [_], _ => rfl
  have m19 := PySem.W.mg_of X G a19
  have F20 := fun_mk (st := sMixed) l20 c20 k20
  have b20 := F20.binds (ps := ["_law_seed"]) fun _ _ _ _ _ _ us hl => match us, hl with | [_], _ => rfl
  have m20 := PySem.W.mg_of X G a20
  have F21 := fun_mk (st := sFill) l21 c21 k21
  have b21 := F21.binds (ps := ["_law_state"]) fun _ _ _ _ _ _ us hl => match us, hl with | [_], _ => rfl
  have m21 := PySem.W.mg_of X G a21
  have F22 := fun_mk (st := sTake) l22 c22 k22
  have b22 := F22.binds (ps := ["_law_state", "_law_many"]) fun _ _ _ _ _ _ us hl => match us, hl with | [_, _], _ => rfl
  have m22 := PySem.W.mg_of X G a22
  have F23 := fun_mk (st := sWhole) l23 c23 k23
  have b23 := F23.binds (ps := ["_law_thing"]) fun _ _ _ _ _ _ us hl => match us, hl with | [_], _ => rfl
  have m23 := PySem.W.mg_of X G a23
  have F24 := fun_mk (st := sSh) l24 c24 k24
  have b24 := F24.binds (ps := ["_law_one", "_law_other"]) fun _ _ _ _ _ _ us hl => match us, hl with | [_, _], _ => rfl
  have m24 := PySem.W.mg_of X G a24
  have F25 := fun_mk (st := sFrac) l25 c25 k25
  have b25 := F25.binds (ps := ["_law_top", "_law_bottom"]) fun _ _ _ _ _ _ us hl => match us, hl with | [_, _], _ => rfl
  have m25 := PySem.W.mg_of X G a25
  have F26 := fun_mk (st := sLPlus) l26 c26 k26
  have b26 := F26.binds (ps := ["_law_a", "_law_b"]) fun _ _ _ _ _ _ us hl => match us, hl with | [_, _], _ => rfl
  have m26 := PySem.W.mg_of X G a26
  have F27 := fun_mk (st := sLTimes) l27 c27 k27
  have b27 := F27.binds (ps := ["_law_a", "_law_b"]) fun _ _ _ _ _ _ us hl => match us, hl with | [_, _], _ => rfl
  have m27 := PySem.W.mg_of X G a27
  have F28 := fun_mk (st := sIsf) l28 c28 k28
  have b28 := F28.binds (ps := ["_law_thing"]) fun _ _ _ _ _ _ us hl => match us, hl with | [_], _ => rfl
  have m28 := PySem.W.mg_of X G a28
  have F29 := fun_mk (st := sLWorth) l29 c29 k29
  have b29 := F29.binds (ps := ["_law_one", "_law_point"]) fun _ _ _ _ _ _ us hl => match us, hl with | [_, _], _ => rfl
  have m29 := PySem.W.mg_of X G a29
  have F30 := fun_mk (st := sAdd) l30 c30 k30
  have b30 := F30.binds (ps := ["_law_one", "_law_other", "_law_number_here"]) fun _ _ _ _ _ _ us hl => match us, hl with | [_, _, _], _ => rfl
  have m30 := PySem.W.mg_of X G a30
  have F31 := fun_mk (st := sSname) l31 c31 k31
  have b31 := F31.binds (ps := ["_law_state"]) fun _ _ _ _ _ _ us hl => match us, hl with | [_], _ => rfl
  have m31 := PySem.W.mg_of X G a31
  have F32 := fun_mk (st := sNames) l32 c32 k32
  have b32 := F32.binds (ps := ["_law_state", "_law_many"]) fun _ _ _ _ _ _ us hl => match us, hl with | [_, _], _ => rfl
  have m32 := PySem.W.mg_of X G a32
  have F33 := fun_mk (st := sNumber) l33 c33 k33
  have b33 := F33.binds (ps := ["_law_state"]) fun _ _ _ _ _ _ us hl => match us, hl with | [_], _ => rfl
  have m33 := PySem.W.mg_of X G a33
  have F34 := fun_mk (st := sSsum) l34 c34 k34
  have b34 := F34.binds (ps := ["_law_state", "_law_unknowns"]) fun _ _ _ _ _ _ us hl => match us, hl with | [_, _], _ => rfl
  have m34 := PySem.W.mg_of X G a34
  have F35 := fun_mk (st := sShort) l35 c35 k35
  have b35 := F35.binds (ps := ["_law_number_here"]) fun _ _ _ _ _ _ us hl => match us, hl with | [_], _ => rfl
  have m35 := PySem.W.mg_of X G a35
  have F36 := fun_mk (st := sSRow) l36 c36 k36
  have b36 := F36.binds (ps := ["_law_state", "_law_unknowns", "_law_point"]) fun _ _ _ _ _ _ us hl => match us, hl with | [_, _, _], _ => rfl
  have m36 := PySem.W.mg_of X G a36
  have F37 := fun_mk (st := sSpoint) l37 c37 k37
  have b37 := F37.binds (ps := ["_law_state", "_law_unknowns"]) fun _ _ _ _ _ _ us hl => match us, hl with | [_, _], _ => rfl
  have m37 := PySem.W.mg_of X G a37
  have F38 := fun_mk (st := sCopied) l38 c38 k38
  have b38 := F38.binds (ps := ["_law_rows"]) fun _ _ _ _ _ _ us hl => match us, hl with | [_], _ => rfl
  have m38 := PySem.W.mg_of X G a38
  have F39 := fun_mk (st := sDoneL) l39 c39 k39
  have b39 := F39.binds (ps := ["_law_rows", "_law_steps_here"]) fun _ _ _ _ _ _ us hl => match us, hl with | [_, _], _ => rfl
  have m39 := PySem.W.mg_of X G a39
  have F40 := fun_mk (st := sHanded) l40 c40 k40
  have b40 := F40.binds (ps := ["_law_state", "_law_rows"]) fun _ _ _ _ _ _ us hl => match us, hl with | [_, _], _ => rfl
  have m40 := PySem.W.mg_of X G a40
  have F41 := fun_mk (st := sKind6) l41 c41 k41
  have b41 := F41.binds (ps := ["_law_e"]) fun _ _ _ _ _ _ us hl => match us, hl with | [_], _ => rfl
  have m41 := PySem.W.mg_of X G a41
  have F42 := fun_mk (st := sWithin) l42 c42 k42
  have b42 := F42.binds (ps := ["_law_row"]) fun _ _ _ _ _ _ us hl => match us, hl with | [_], _ => rfl
  have m42 := PySem.W.mg_of X G a42
  have F43 := fun_mk (st := sRowPlus) l43 c43 k43
  have b43 := F43.binds (ps := ["_law_row", "_law_other", "_law_number_here"]) fun _ _ _ _ _ _ us hl => match us, hl with | [_, _, _], _ => rfl
  have m43 := PySem.W.mg_of X G a43
  have F44 := fun_mk (st := sEquals) l44 c44 k44
  have b44 := F44.binds (ps := ["_law_state", "_law_most"]) fun _ _ _ _ _ _ us hl => match us, hl with | [_, _], _ => rfl
  have m44 := PySem.W.mg_of X G a44
  have F45 := fun_mk (st := sSteps) l45 c45 k45
  have b45 := F45.binds (ps := ["_law_state", "_law_names_here", "_law_many"]) fun _ _ _ _ _ _ us hl => match us, hl with | [_, _, _], _ => rfl
  have m45 := PySem.W.mg_of X G a45
  have F46 := fun_mk (st := sIsStep) l46 c46 k46
  have b46 := F46.binds (ps := ["_law_step", "_law_names_here"]) fun _ _ _ _ _ _ us hl => match us, hl with | [_, _], _ => rfl
  have m46 := PySem.W.mg_of X G a46
  have F47 := fun_mk (st := sOdd) l47 c47 k47
  have b47 := F47.binds (ps := ["_law_state", "_law_step"]) fun _ _ _ _ _ _ us hl => match us, hl with | [_, _], _ => rfl
  have m47 := PySem.W.mg_of X G a47
  have F48 := fun_mk (st := sAskedFor) l48 c48 k48
  have b48 := F48.binds (ps := ["_law_rows", "_law_steps_here"]) fun _ _ _ _ _ _ us hl => match us, hl with | [_, _], _ => rfl
  have m48 := PySem.W.mg_of X G a48
  have F49 := fun_mk (st := sLaw) l49 c49 k49
  have n_ValueError := PySem.W.mg_none_of X G z_ValueError
  have n_abs := PySem.W.mg_none_of X G z_abs
  have n_all := PySem.W.mg_none_of X G z_all
  have n_bool := PySem.W.mg_none_of X G z_bool
  have n_dict := PySem.W.mg_none_of X G z_dict
  have n_enumerate := PySem.W.mg_none_of X G z_enumerate
  have n_int := PySem.W.mg_none_of X G z_int
  have n_isinstance := PySem.W.mg_none_of X G z_isinstance
  have n_len := PySem.W.mg_none_of X G z_len
  have n_list := PySem.W.mg_none_of X G z_list
  have n_max := PySem.W.mg_none_of X G z_max
  have n_min := PySem.W.mg_none_of X G z_min
  have n_range := PySem.W.mg_none_of X G z_range
  have n_sorted := PySem.W.mg_none_of X G z_sorted
  have n_str := PySem.W.mg_none_of X G z_str
  have n_tuple := PySem.W.mg_none_of X G z_tuple
  have tt11 := tb "rows_by_name" (by decide +kernel) cc11 PP11 (tabIn_of a11 l11 rfl lc11 pp11)
  have hT : ∀ p ∈ ([(cc11, PP11)] : List (Addr × Addr)), h.get? p.2 = some { cls := .none, data := .fields #[] } ∧ K.lookup p.2 = none ∧ PySem.W.CodeHd h p.1 p.2 := fun p hp => by
    simp only [List.mem_cons, List.not_mem_nil, or_false] at hp
    rcases hp with rfl
    · exact ⟨tt11.2, np11, tt11.1⟩
  refine ⟨PySem.W.fnOf "law" "law" (defArgs sLaw) (defBody sLaw) (defScope sLaw) .none kV49 dc49 pm49 an49 cd49 ct49, [(cc11, PP11)], spLaw16 K [(PP11, Str.ofString "rows_by_name" ++ ".<locals>." ++ "<lambda>")], fun p hp => (hT p hp).1, fun p hp => (hT p hp).2.1, fun p hp => (hT p hp).2.2, fun s v => .of_eq rfl, fun H a ns _ _ hH hS => ⟨a, ns, rfl, hS, fun p hp => ?_, fun _ => rfl⟩, fun base _ _ TB => ?_⟩
  · have z : ∃ c, (c, p.1) ∈ ([(cc11, PP11)] : List (Addr × Addr)) := by
      simp only [List.mem_cons, List.not_mem_nil, or_false] at hp
      rcases hp with rfl
      · exact ⟨cc11, by simp⟩
    obtain ⟨c, hc⟩ := z
    exact LamX.TabS.nil (hH (c, p.1) hc)
  · have hN : ∀ H, FrT K H aN 0 1 := fun H => ⟨.inr ⟨_, _, _, lN, rfl, rfl, (by show 2 ≤ sizeLine; decide), .cons ⟨_, rfl⟩ (.cons ⟨_, rfl⟩ .nil)⟩, .kTuple lN rfl⟩
    have gN := PySem.W.mg_of X G aNn
    have gSb := PySem.W.mg_of X G aSb
    have T16 : C16 K mg (cl16 [q0, q1, q2, q3, q4, q5, q6, q7, q8, q9, q10, q11, q12, q13, q14, q15]) := c16_mk e_exc e_kit (fun i hi => match i, hi with | 0, _ => PySem.W.mg_of X G g_q0 | 1, _ => PySem.W.mg_of X G g_q1 | 2, _ => PySem.W.mg_of X G g_q2 | 3, _ => PySem.W.mg_of X G g_q3 | 4, _ => PySem.W.mg_of X G g_q4 | 5, _ => PySem.W.mg_of X G g_q5 | 6, _ => PySem.W.mg_of X G g_q6 | 7, _ => PySem.W.mg_of X G g_q7 | 8, _ => PySem.W.mg_of X G g_q8 | 9, _ => PySem.W.mg_of X G g_q9 | 10, _ => PySem.W.mg_of X G g_q10 | 11, _ => PySem.W.mg_of X G g_q11 | 12, _ => PySem.W.mg_of X G g_q12 | 13, _ => PySem.W.mg_of X G g_q13 | 14, _ => PySem.W.mg_of X G g_q14 | 15, _ => PySem.W.mg_of X G g_q15 | n + 16, hh => absurd hh (by omega)) i_hn i_ht
    have T_C : ExT K mg "NoFraction" (cl16 [q0, q1, q2, q3, q4, q5, q6, q7, q8, q9, q10, q11, q12, q13, q14, q15] 0) := T16.ext 0 (by decide)
    have T_S : ExT K mg "NoStep" (cl16 [q0, q1, q2, q3, q4, q5, q6, q7, q8, q9, q10, q11, q12, q13, q14, q15] 9) := T16.ext 9 (by decide)
    have cd := Cl.mk0 (P := l.prog) (w := w) (base := base) (ok_cd (k := 0) F0 n_abs) m0 k0 b0
    cases vd1
    have fo := Cl.mk0 (P := l.prog) (w := w) (base := base) (ok_fo F1 T_C cd) m1 k1 b1
    have ar := Cl.mk0 (P := l.prog) (w := w) (base := base) (ok_are (k := 0) F2 gSb) m2 k2 b2
    have pl := Cl.mk0 (P := l.prog) (w := w) (base := base) (ok_plus F3 fo cd ar) m3 k3 b3
    have tm := Cl.mk0 (P := l.prog) (w := w) (base := base) (ok_times F4 fo cd ar) m4 k4 b4
    have fw := Cl.mk0 (P := l.prog) (w := w) (base := base) (ok_fitsw (k := 0) F5 n_isinstance n_int n_bool) m5 k5 b5
    have ff := Cl.mk0 (P := l.prog) (w := w) (base := base) (ok_fitsfE (k := 0) F6 n_isinstance n_tuple n_len fw cd) m6 k6 b6
    have wn := Cl.mk0 (P := l.prog) (w := w) (base := base) (ok_wn (k := 0) F7 gN hN) m7 k7 b7
    have su := Cl.mk0 (P := l.prog) (w := w) (base := base) (ok_sumof F8 gN hN pl wn) m8 k8 b8
    have spl := Cl.mk0 (P := l.prog) (w := w) (base := base) (ok_sumplus F9 n_list su) m9 k9 b9
    have sti := Cl.mk0 (P := l.prog) (w := w) (base := base) (ok_sumtimes F10 tm wn) m10 k10 b10
    have rbn := Cl.mk0 (P := l.prog) (w := w) (base := base) (ok_rbn (T := [(PP11, Str.ofString "rows_by_name" ++ ".<locals>." ++ "<lambda>")]) F11 rfl (TB (cc11, PP11) (by simp)) (by simp) (fun p hp _ => by simp only [List.mem_cons, List.not_mem_nil, or_false] at hp; rw [hp]) n_sorted) m11 k11 b11
    have ebn := Cl.mk0 (P := l.prog) (w := w) (base := base) (ok_ebn (T := [(PP11, Str.ofString "rows_by_name" ++ ".<locals>." ++ "<lambda>")]) F12 rbn) m12 k12 b12
    have nrw := Cl.mk0 (P := l.prog) (w := w) (base := base) (ok_namesrowB (k := 0) F13 n_isinstance n_str) m13 k13 b13
    have ftm := Cl.mk0 (P := l.prog) (w := w) (base := base) (ok_fitstmB F14 gN hN nrw ff) m14 k14 b14
    have fad := Cl.mk0 (P := l.prog) (w := w) (base := base) (ok_fitsaddB F15 nrw ff) m15 k15 b15
    have fst := Cl.mk0 (P := l.prog) (w := w) (base := base) (ok_fitsstepB F16 n_isinstance n_tuple n_len ftm fad) m16 k16 b16
    have rbh := Cl.mk0 (P := l.prog) (w := w) (base := base) (ok_rowbehind F17 sti spl tm pl) m17 k17 b17
    have stp := Cl.mk0 (P := l.prog) (w := w) (base := base) (ok_steppedB (T := [(PP11, Str.ofString "rows_by_name" ++ ".<locals>." ++ "<lambda>")]) T_S F18 n_list ebn fst rbh) m18 k18 b18
    have fs := Cl.mk0 (P := l.prog) (w := w) (base := base) (ok_fresh (k := 0) F19 ) m19 k19 b19
    have mx := Cl.mk0 (P := l.prog) (w := w) (base := base) (ok_mixed (k := 0) F20 n_enumerate) m20 k20 b20
    have fl := Cl.mk0 (P := l.prog) (w := w) (base := base) (ok_fill F21 n_len mx) m21 k21 b21
    have tk := Cl.mk0 (P := l.prog) (w := w) (base := base) (ok_take F22 fl) m22 k22 b22
    have wh := Cl.mk0 (P := l.prog) (w := w) (base := base) (ok_wholeB (k := 0) F23 n_isinstance n_int n_bool) m23 k23 b23
    have sh := Cl.mk0 (P := l.prog) (w := w) (base := base) (ok_sh (k := 0) F24 n_abs) m24 k24 b24
    have fc := Cl.mk0 (P := l.prog) (w := w) (base := base) (ok_frac F25 sh) m25 k25 b25
    have lpl := Cl.mk0 (P := l.prog) (w := w) (base := base) (ok_lplus F26 fc) m26 k26 b26
    have ltm := Cl.mk0 (P := l.prog) (w := w) (base := base) (ok_ltimes F27 fc) m27 k27 b27
    have isf := Cl.mk0 (P := l.prog) (w := w) (base := base) (ok_isfE F28 n_isinstance n_tuple n_len n_all wh sh) m28 k28 b28
    have lw := Cl.mk0 (P := l.prog) (w := w) (base := base) (ok_lworth F29 lpl ltm) m29 k29 b29
    have ad := Cl.mk0 (P := l.prog) (w := w) (base := base) (ok_add F30 n_dict lpl ltm) m30 k30 b30
    have sn := Cl.mk0 (P := l.prog) (w := w) (base := base) (ok_sname F31 n_range tk) m31 k31 b31
    have nn := Cl.mk0 (P := l.prog) (w := w) (base := base) (ok_names F32 n_range sn) m32 k32 b32
    have nm := Cl.mk0 (P := l.prog) (w := w) (base := base) (ok_number F33 tk fc) m33 k33 b33
    have ss := Cl.mk0 (P := l.prog) (w := w) (base := base) (ok_ssum F34 n_len tk nm) m34 k34 b34
    have sho := Cl.mk0 (P := l.prog) (w := w) (base := base) (ok_short (k := 0) F35 n_abs) m35 k35 b35
    have sr := Cl.mk0 (P := l.prog) (w := w) (base := base) (ok_srow F36 ss tk nm lw lpl sho) m36 k36 b36
    have spt := Cl.mk0 (P := l.prog) (w := w) (base := base) (ok_spoint F37 n_dict tk) m37 k37 b37
    have cpd := Cl.mk0 (P := l.prog) (w := w) (base := base) (ok_copied (k := 0) F38 n_dict) m38 k38 b38
    have rpl := Cl.mk0 (P := l.prog) (w := w) (base := base) (ok_rowplus F43 ad ltm lpl) m43 k43 b43
    have don := Cl.mk0 (P := l.prog) (w := w) (base := base) (ok_done15 F39 n_dict n_sorted lpl rpl) m39 k39 b39
    have hnd := Cl.mk0 (P := l.prog) (w := w) (base := base) (ok_handed15 F40 n_tuple cpd tk) m40 k40 b40
    have kd6 : ∀ (a : Addr) (oe : Obj), Zc (.ref (cl16 [q0, q1, q2, q3, q4, q5, q6, q7, q8, q9, q10, q11, q12, q13, q14, q15] 9)) none oe → (∃ vs, oe.data = .fields vs) → ClP l.prog w K mg base 1 "_law_kind6" (spKind6 a) (a, oe) := fun a oe hz hf => ⟨⟨_, _, _, ok_kind6 (k := 0) F41 T16 n_isinstance n_ValueError hz hf, m41, k41, b41⟩⟩
    have wit := Cl.mk0 (P := l.prog) (w := w) (base := base) (ok_within (k := 0) F42 n_all n_abs n_list) m42 k42 b42
    have eqs := Cl.mk0 (P := l.prog) (w := w) (base := base) (ok_equals F44 n_len n_dict tk nn spt sr ss lw rpl lpl wit) m44 k44 b44
    have sts := Cl.mk0 (P := l.prog) (w := w) (base := base) (ok_steps16 F45 n_range n_len n_max n_min tk fc) m45 k45 b45
    have iss := Cl.mk0 (P := l.prog) (w := w) (base := base) (ok_isstep F46 n_isinstance n_tuple n_str n_len n_all isf) m46 k46 b46
    have odd := Cl.mk0 (P := l.prog) (w := w) (base := base) (ok_odd F47 n_len n_list tk) m47 k47 b47
    have afr := Cl.mk0 (P := l.prog) (w := w) (base := base) (ok_askedfor (T := [(PP11, Str.ofString "rows_by_name" ++ ".<locals>." ++ "<lambda>")]) F48 T16 stp kd6) m48 k48 b48
    exact ok_law F49 n_range n_len n_sorted n_list n_tuple n_all fs tk eqs sts odd hnd cpd iss don afr
end SS
open PySem PySem.W PyProof.Rows
set_option maxRecDepth 100000 in
set_option maxHeartbeats 0 in
theorem PySem.Challenge.cw_scopestore_k16_no_steps_holds : PySem.Challenge.rw_scopestore_k16_no_steps.Holds := by
  w_on; o_law; k_head; (case hw => w_witness2)
  k_fill
  refine SS.walk_ofN (l := PySem.Challenge.rw_scopestore_k16_no_steps) (n := 63) (k := 9) (x := "_law_script") (CX := fun _ => L2.CX0) ["rows_by_name"] rfl (by decide) rfl ⟨rfl, by decide, by decide⟩ ?R (fun w h Y => PySem.W.km_in_of Y) ?F (fun _ _ _ _ _ h => h)
  case R => first | decide +kernel | (intro x hx; simp only [List.mem_cons, List.not_mem_nil, or_false] at hx; rcases hx with rfl <;> first | rfl | decide +kernel)
  case F =>
    intro w mg fa h KX G hmg tb
    refine' SS.all_mk KX G hmg tb ?a0 ?l0 ?c0 ?k0 ?a1 ?l1 ?t1 ?c1 ?k1 ?a2 ?l2 ?c2 ?k2 ?a3 ?l3 ?c3 ?k3 ?a4 ?l4 ?c4 ?k4 ?a5 ?l5 ?c5 ?k5 ?a6 ?l6 ?c6 ?k6 ?a7 ?l7 ?c7 ?k7 ?a8 ?l8 ?c8 ?k8 ?a9 ?l9 ?c9 ?k9 ?a10 ?l10 ?c10 ?k10 ?a11 ?l11 ?c11 ?k11 ?lc11 ?pp11 ?np11 ?a12 ?l12 ?c12 ?k12 ?a13 ?l13 ?c13 ?k13 ?a14 ?l14 ?c14 ?k14 ?a15 ?l15 ?c15 ?k15 ?a16 ?l16 ?c16 ?k16 ?a17 ?l17 ?c17 ?k17 ?a18 ?l18 ?c18 ?k18 ?a19 ?l19 ?c19 ?k19 ?a20 ?l20 ?c20 ?k20 ?a21 ?l21 ?c21 ?k21 ?a22 ?l22 ?c22 ?k22 ?a23 ?l23 ?c23 ?k23 ?a24 ?l24 ?c24 ?k24 ?a25 ?l25 ?c25 ?k25 ?a26 ?l26 ?c26 ?k26 ?a27 ?l27 ?c27 ?k27 ?a28 ?l28 ?c28 ?k28 ?a29 ?l29 ?c29 ?k29 ?a30 ?l30 ?c30 ?k30 ?a31 ?l31 ?c31 ?k31 ?a32 ?l32 ?c32 ?k32 ?a33 ?l33 ?c33 ?k33 ?a34 ?l34 ?c34 ?k34 ?a35 ?l35 ?c35 ?k35 ?a36 ?l36 ?c36 ?k36 ?a37 ?l37 ?c37 ?k37 ?a38 ?l38 ?c38 ?k38 ?a39 ?l39 ?c39 ?k39 ?a40 ?l40 ?c40 ?k40 ?a41 ?l41 ?c41 ?k41 ?a42 ?l42 ?c42 ?k42 ?a43 ?l43 ?c43 ?k43 ?a44 ?l44 ?c44 ?k44 ?a45 ?l45 ?c45 ?k45 ?a46 ?l46 ?c46 ?k46 ?a47 ?l47 ?c47 ?k47 ?a48 ?l48 ?c48 ?k48 ?a49 ?l49 ?c49 ?k49 ?aNn ?lN ?aSb ?g_q0 ?g_q1 ?g_q2 ?g_q3 ?g_q4 ?g_q5 ?g_q6 ?g_q7 ?g_q8 ?g_q9 ?g_q10 ?g_q11 ?g_q12 ?g_q13 ?g_q14 ?g_q15 ?e_exc ?e_kit ?i_hn ?i_ht ?z_ValueError ?z_abs ?z_all ?z_bool ?z_dict ?z_enumerate ?z_int ?z_isinstance ?z_len ?z_list ?z_max ?z_min ?z_range ?z_sorted ?z_str ?z_tuple
    (case a0 => k_is)
    (case l0 => k_is)
    (case c0 => k_is)
    (case k0 => k_is)
    (case a1 => k_is)
    (case l1 => k_is)
    (case t1 => k_is)
    (case c1 => k_is)
    (case k1 => k_is)
    (case a2 => k_is)
    (case l2 => k_is)
    (case c2 => k_is)
    (case k2 => k_is)
    (case a3 => k_is)
    (case l3 => k_is)
    (case c3 => k_is)
    (case k3 => k_is)
    (case a4 => k_is)
    (case l4 => k_is)
    (case c4 => k_is)
    (case k4 => k_is)
    (case a5 => k_is)
    (case l5 => k_is)
    (case c5 => k_is)
    (case k5 => k_is)
    (case a6 => k_is)
    (case l6 => k_is)
    (case c6 => k_is)
    (case k6 => k_is)
    (case a7 => k_is)
    (case l7 => k_is)
    (case c7 => k_is)
    (case k7 => k_is)
    (case a8 => k_is)
    (case l8 => k_is)
    (case c8 => k_is)
    (case k8 => k_is)
    (case a9 => k_is)
    (case l9 => k_is)
    (case c9 => k_is)
    (case k9 => k_is)
    (case a10 => k_is)
    (case l10 => k_is)
    (case c10 => k_is)
    (case k10 => k_is)
    (case a11 => k_is)
    (case l11 => k_is)
    (case c11 => k_is)
    (case k11 => k_is)
    (case lc11 => k_is)
    (case pp11 => rfl)
    (case np11 => first | k_is | rfl | (with_unfolding_all rfl) | decide +kernel)
    (case a12 => k_is)
    (case l12 => k_is)
    (case c12 => k_is)
    (case k12 => k_is)
    (case a13 => k_is)
    (case l13 => k_is)
    (case c13 => k_is)
    (case k13 => k_is)
    (case a14 => k_is)
    (case l14 => k_is)
    (case c14 => k_is)
    (case k14 => k_is)
    (case a15 => k_is)
    (case l15 => k_is)
    (case c15 => k_is)
    (case k15 => k_is)
    (case a16 => k_is)
    (case l16 => k_is)
    (case c16 => k_is)
    (case k16 => k_is)
    (case a17 => k_is)
    (case l17 => k_is)
    (case c17 => k_is)
    (case k17 => k_is)
    (case a18 => k_is)
    (case l18 => k_is)
    (case c18 => k_is)
    (case k18 => k_is)
    (case a19 => k_is)
    (case l19 => k_is)
    (case c19 => k_is)
    (case k19 => k_is)
    (case a20 => k_is)
    (case l20 => k_is)
    (case c20 => k_is)
    (case k20 => k_is)
    (case a21 => k_is)
    (case l21 => k_is)
    (case c21 => k_is)
    (case k21 => k_is)
    (case a22 => k_is)
    (case l22 => k_is)
    (case c22 => k_is)
    (case k22 => k_is)
    (case a23 => k_is)
    (case l23 => k_is)
    (case c23 => k_is)
    (case k23 => k_is)
    (case a24 => k_is)
    (case l24 => k_is)
    (case c24 => k_is)
    (case k24 => k_is)
    (case a25 => k_is)
    (case l25 => k_is)
    (case c25 => k_is)
    (case k25 => k_is)
    (case a26 => k_is)
    (case l26 => k_is)
    (case c26 => k_is)
    (case k26 => k_is)
    (case a27 => k_is)
    (case l27 => k_is)
    (case c27 => k_is)
    (case k27 => k_is)
    (case a28 => k_is)
    (case l28 => k_is)
    (case c28 => k_is)
    (case k28 => k_is)
    (case a29 => k_is)
    (case l29 => k_is)
    (case c29 => k_is)
    (case k29 => k_is)
    (case a30 => k_is)
    (case l30 => k_is)
    (case c30 => k_is)
    (case k30 => k_is)
    (case a31 => k_is)
    (case l31 => k_is)
    (case c31 => k_is)
    (case k31 => k_is)
    (case a32 => k_is)
    (case l32 => k_is)
    (case c32 => k_is)
    (case k32 => k_is)
    (case a33 => k_is)
    (case l33 => k_is)
    (case c33 => k_is)
    (case k33 => k_is)
    (case a34 => k_is)
    (case l34 => k_is)
    (case c34 => k_is)
    (case k34 => k_is)
    (case a35 => k_is)
    (case l35 => k_is)
    (case c35 => k_is)
    (case k35 => k_is)
    (case a36 => k_is)
    (case l36 => k_is)
    (case c36 => k_is)
    (case k36 => k_is)
    (case a37 => k_is)
    (case l37 => k_is)
    (case c37 => k_is)
    (case k37 => k_is)
    (case a38 => k_is)
    (case l38 => k_is)
    (case c38 => k_is)
    (case k38 => k_is)
    (case a39 => k_is)
    (case l39 => k_is)
    (case c39 => k_is)
    (case k39 => k_is)
    (case a40 => k_is)
    (case l40 => k_is)
    (case c40 => k_is)
    (case k40 => k_is)
    (case a41 => k_is)
    (case l41 => k_is)
    (case c41 => k_is)
    (case k41 => k_is)
    (case a42 => k_is)
    (case l42 => k_is)
    (case c42 => k_is)
    (case k42 => k_is)
    (case a43 => k_is)
    (case l43 => k_is)
    (case c43 => k_is)
    (case k43 => k_is)
    (case a44 => k_is)
    (case l44 => k_is)
    (case c44 => k_is)
    (case k44 => k_is)
    (case a45 => k_is)
    (case l45 => k_is)
    (case c45 => k_is)
    (case k45 => k_is)
    (case a46 => k_is)
    (case l46 => k_is)
    (case c46 => k_is)
    (case k46 => k_is)
    (case a47 => k_is)
    (case l47 => k_is)
    (case c47 => k_is)
    (case k47 => k_is)
    (case a48 => k_is)
    (case l48 => k_is)
    (case c48 => k_is)
    (case k48 => k_is)
    (case a49 => k_is)
    (case l49 => k_is)
    (case c49 => k_is)
    (case k49 => k_is)
    (case aNn => k_is)
    (case lN => k_is)
    (case aSb => k_is)
    (case g_q0 => k_is)
    (case g_q1 => k_is)
    (case g_q2 => k_is)
    (case g_q3 => k_is)
    (case g_q4 => k_is)
    (case g_q5 => k_is)
    (case g_q6 => k_is)
    (case g_q7 => k_is)
    (case g_q8 => k_is)
    (case g_q9 => k_is)
    (case g_q10 => k_is)
    (case g_q11 => k_is)
    (case g_q12 => k_is)
    (case g_q13 => k_is)
    (case g_q14 => k_is)
    (case g_q15 => k_is)
    (case e_exc => first | kernel_rfl | rfl)
    (case e_kit => first | kernel_rfl | rfl)
    (case i_hn => first | k_is | k_exc | rfl | decide +kernel)
    (case i_ht => first | k_is | k_exc | rfl | decide +kernel)
    (case z_ValueError => k_is)
    (case z_abs => k_is)
    (case z_all => k_is)
    (case z_bool => k_is)
    (case z_dict => k_is)
    (case z_enumerate => k_is)
    (case z_int => k_is)
    (case z_isinstance => k_is)
    (case z_len => k_is)
    (case z_list => k_is)
    (case z_max => k_is)
    (case z_min => k_is)
    (case z_range => k_is)
    (case z_sorted => k_is)
    (case z_str => k_is)
    (case z_tuple => k_is)
