import PyProof.Rows.All
import Wide.All
import OpenK.AllK
import Wide.FinOn
import KE.GoesEnum
import HandS.ForMost
import HandS.ForExc
import HandS.Wide
import HandS.IsInst
import HandS.ExcIs
import HandS.Defaults
import HandS.DeepEq
import HandS.DictComp
import KE.KEqDict
import KE.KEqNest
import HandS.AnyAll
import HandS.Nested
import HandS.GenOver
import HandS.EndTab
import PyProof.NeKinds
import HandS.HotCalls
import HandS.SetFor
import HandS.IsInst
import HandS.ExcIs
import PyProof.Rows.StrMeet
import PyProof.Rows.StrRules
import PyProof.MinMaxWalk
import KE.KUnpackStar
import HandS.StrSplit
import PyProof.Rows.StrSplitMax
import PyProof.StrLawsOccR
import HandS.Text
import HandS.FStr
import HandS.DictTup
import HandS.Sort
import HandS.SortKw
import HandS.Dict
import KE.KDictPairs
import HandS.Strs
import HandS.SetTxt0
import HandS.SetTxtIn
import HandS.SetBool
import HandS.Finally
import HandS.Walk
import HandS.Conv
import HandS.ListItems
import HandS.Style
import HandS.More
import HandS.StrMore
import HandS.NoneIn
import HandS.Small
import HandS.Iter
import HandS.TupAny
import KE.SortKeyHeap
import KE.KRevSl
import PySem.Challenge.RW_scopestore_k18_whole_lines_of_rows_put_o
set_option Elab.async false
set_option linter.all false
set_option maxRecDepth 100000
set_option exponentiation.threshold 10000
namespace SS
open PySem PySem.Spec PyProof.Rows L2
section
/-! ### enumerate over a tuple: one new pair a turn -/
def ItE (K : PySem.W.Frag) (a : Addr) : It where
  go := fun i H => ∃ (ys : List V) (y : V), SqT K H a ys ∧ ys[i]? = some y
  yld := fun i H v H' => ∃ T y, v = .ref T ∧ H T = none ∧ H' = upd H T (.tup [.int (i : Nat), y]) ∧ ∀ ys, SqT K H a ys → ys[i]? = some y
  stop := fun i H => ∃ ys : List V, SqT K H a ys ∧ ys.length = i
theorem turnE {P : Program} {w : World} {K : PySem.W.Frag} {es : List Expr} {kk : Nat} {tp : Pos} (a e q : Addr) :
    Turn P w K (.Tuple es kk tp) (ItE K a) [e, q] e (fun i h => (∃ old, IsEnum h e q ((i : Nat) : Int) old) ∧ h.IsTupleIter q a i ∧ e ≠ q ∧ a ≠ q ∧ e ≠ a) where
  mem := by simp
  obj := fun i h st b hb => by
    obtain ⟨⟨old, h1⟩, ⟨o, h2, _, h3⟩, _⟩ := st
    rcases (show b = e ∨ b = q by simpa using hb) with z | z
    · subst z
      exact ⟨_, h1, fun v w => nomatch w⟩
    · subst z
      exact ⟨o, h2, fun v w => by rw [h3] at w; cases w⟩
  keep := fun i h h' st k => by
    obtain ⟨⟨old, h1⟩, h2, h3⟩ := st
    exact ⟨⟨old, k e (by simp) _ h1⟩, h2.at (fun o z => k q (by simp) o z), h3⟩
  item := by
    intro X e1 e2 e3 calm i pins s σ H E I free st go
    subst e1 e2 e3
    obtain ⟨⟨old, h1⟩, h2, n1, n2, n3⟩ := st
    obtain ⟨ys, y, sq, gy⟩ := go
    obtain ⟨us, rl, at_, _⟩ := I.tuple sq
    obtain ⟨u, gu, ru⟩ := rl.get gy
    have lt : i < us.toArray.size := by
      have z := (List.getElem?_eq_some_iff.mp gu).1
      simpa using z
    have le : e < s.heap.objs.size := Heap.lt_size h1
    have lq : q < s.heap.objs.size := by
      obtain ⟨_, z, _⟩ := h2
      exact Heap.lt_size z
    refine wpAny_pyNext_enum_itemD (Draws.tuple (A := X.A.in1) (I.ok.hd calm) q a n2 us.toArray) h1
      ⟨h2, at_⟩ lt n1 (by simp [n1, n3]) fun u' h' tk pu ho st' hT hsz hk => ?_
    have eu : u' = u := by
      have z : us[i]? = some u' := by simpa using pu
      rw [gu] at z
      exact (Option.some.inj z).symm
    subst eu
    refine ⟨_, rfl, wpAny_letOwnedTupleGo_enum
      (s := { s with heap := h', toks := tk + 1 }) ho fun h2' he' sb => ?_⟩
    have T2 : h2'.get? s.heap.objs.size = some { cls := .type "tuple", data := .seq #[.int i tk, u'] } :=
      (sb.2 _ (Nat.ne_of_gt le)).trans hT
    have nw : ObjOk X.prog X.w (upd H s.heap.objs.size (.tup [.int (i : Nat), y])) h2' s.heap.objs.size (.tup [.int (i : Nat), y]) :=
      ⟨(by show 2 ≤ sizeLine; decide), [.int i tk, u'], .cons ⟨_, rfl⟩ (.cons ru .nil), ⟨_, T2, rfl, _, rfl⟩⟩
    have J : Inv X pins σ (upd H s.heap.objs.size (.tup [.int (i : Nat), y])) { s with heap := h2', toks := tk + 1 } :=
      I.turnedNew (ch := [e, q]) (fun b ob nb z => (sb.2 b (fun c => nb (by simp [c]))).trans (hk b ob (fun c => nb (by simp [c])) (fun c => nb (by simp [c])) z)) free (Nat.le_refl _) nw
    refine ⟨.ref s.heap.objs.size, _, J, rfl, ⟨_, y, rfl, I.hok.fresh (Nat.le_refl _), rfl, fun zs hz => by rw [I.tuple_inj hz sq]; exact gy⟩,
      ⟨⟨u', ?_⟩, st'.1.at (fun o z => (sb.2 q (Ne.symm n1)).trans z), n1, n2, n3⟩, fun b hb => ?_⟩
    · rw [show ((i + 1 : Nat) : Int) = (i : Int) + 1 by omega]
      exact he'
    · have lb : b < s.heap.objs.size := by
        rcases (show b = e ∨ b = q by simpa using hb) with z | z
        · rw [z]; exact le
        · rw [z]; exact lq
      rw [upd_ne (Nat.ne_of_lt lb)]
      exact (free b hb).1
  done := by
    intro X e1 e2 e3 calm i pins s σ H E I free st stp
    subst e1 e2 e3
    obtain ⟨⟨old, h1⟩, h2, n1, n2, n3⟩ := st
    obtain ⟨ys, sq, ly⟩ := stp
    obtain ⟨us, rl, at_, _⟩ := I.tuple sq
    obtain ⟨f0, f1, f2, f3, f4, f5⟩ := free q (by simp)
    have ll := rl.length
    have ei : us.toArray.size = i := by
      rw [List.size_toArray, ← ll]
      exact ly
    refine wpAny_pyNext_enum_endD (Draws.tuple (A := X.A.in1) (I.ok.hd calm) q a n2 us.toArray) h1 ⟨by rw [ei]; exact h2, at_⟩ fun h' ext => ?_
    exact ⟨rfl, I.turned (t' := s.toks) (fun b o hb z => ext b o hb z) f0 f1 f3 f4 f5⟩
  self := fun A i s Q E st h => by
    obtain ⟨⟨_, h1⟩, _⟩ := st
    exact wpAny_pyIter_enum h1 h

set_option maxHeartbeats 1000000 in
theorem meets_enumT (t : Addr) (items : Array Value) (n : Nat) (dct : Option Addr) (sl : Array (Option Value)) :
    Meets (Builtin.«enumerate.__new__» ⟨[.type "enumerate", .ref t], []⟩) (fun _ R s => s.heap.get? t = some { cls := .type "tuple", dict := dct, data := .seq items n, slots := sl } ∧
      R (.ok (.ret (.ref (s.heap.push { cls := .type "tuple_iterator", data := .fields #[.ref t, .int 0 0] }).objs.size)))
        { s with heap := (s.heap.push { cls := .type "tuple_iterator", data := .fields #[.ref t, .int 0 0] }).push { cls := .type "enumerate", data := .fields #[.none, .bool false, .ref s.heap.objs.size, rawInt 0, .none, .none] } }) :=
  .of_wp fun prog w A R s h => by
    obtain ⟨hp, g, d, tk, os⟩ := s
    obtain ⟨hl, h⟩ := h
    have hsub := sub_enumerate
    have hT : Heap.IsTuple (Shared.heap ⟨hp, g, d, tk, os⟩) t items := ⟨_, hl, rfl, n, rfl⟩
    wp_walk using AutoSeq1.wpAny_loadPart' hl
    refine wpAny_stack_any fun st => wpAny_pure ?_
    split
    · rename_i c _ _ _ _ _
      cases (c == Value.type "enumerate")
      · wp_walk using AutoSeq1.wpAny_loadPart' hl, wpAny_pyIter_tuple hT
        exact ⟨_, rfl, h⟩
      · wp_walk using AutoSeq1.wpAny_loadPart' hl, wpAny_pyIter_tuple hT
        exact ⟨_, rfl, h⟩
    · wp_walk using AutoSeq1.wpAny_loadPart' hl, wpAny_pyIter_tuple hT
      exact ⟨_, rfl, h⟩
theorem call_enumT {prog : Program} {w : World} {A : Around} {E : Value → Shared → Prop} {s : Shared} {t : Addr} {items : Array Value} {Q : Value → Shared → Prop} (hL : s.heap.IsTuple t items)
    (h : ∀ h', IsEnum h' (s.heap.objs.size + 1) s.heap.objs.size 0 .none → h'.IsTupleIter s.heap.objs.size t 0 →
      (∀ b o, s.heap.get? b = some o → h'.get? b = some o) → Q (.ref (s.heap.objs.size + 1)) { s with heap := h' }) :
    wpAny (model prog w) A (call (.type "enumerate") [.ref t]) Q E s := by
  obtain ⟨⟨c, dct, dt, sl⟩, hl, hc, n, hd⟩ := hL
  have hc' : c = .type "tuple" := hc
  have hd' : dt = .seq items n := hd
  subst hc' hd'
  refine callType_new F.called_enumerate (by decide) (F.typeCall_enumerate_1 _) (F.newCall_enumerate_1 _)
    (fun obj => F.args_object_init_2 obj _) F.entry_enumerate_new (meets_enumT t items n dct sl) ⟨hl, ?_⟩
  have z1 : (s.heap.push { cls := .type "tuple_iterator", data := .fields #[.ref t, .int 0 0] }).objs.size = s.heap.objs.size + 1 := Heap.size_push ..
  show _ ∧ _
  rw [z1]
  have en : IsEnum ((s.heap.push { cls := .type "tuple_iterator", data := .fields #[.ref t, .int 0 0] }).push
      { cls := .type "enumerate", data := .fields #[.none, .bool false, .ref s.heap.objs.size, rawInt 0, .none, .none] }) (s.heap.objs.size + 1) s.heap.objs.size 0 .none := by
    have z := Heap.get?_push_size (s.heap.push { cls := .type "tuple_iterator", data := .fields #[.ref t, .int 0 0] })
      (o := { cls := .type "enumerate", data := .fields #[.none, .bool false, .ref s.heap.objs.size, rawInt 0, .none, .none] }) rfl
    rw [z1] at z
    exact z
  exact ⟨⟨_, en, rfl⟩, h _ en ⟨_, Heap.get?_push_of_some _ (Heap.get?_push_size _ rfl), rfl, rfl⟩
    fun b o z => Heap.get?_push_of_some _ (Heap.get?_push_of_some _ z)⟩
def iEnT (K : PySem.W.Frag) (ta : TA) : TI := fun σ H R => ta σ H fun vs H1 => ∃ a ys, vs = [.ref a] ∧ SqT K H1 a ys ∧ R (ItE K a) H1
theorem pi_enT {X : Cx} {e : Expr} {ta : TA} {p pos tpos : Pos} {es : List Expr} {kk : Nat} (hg : Gl X "enumerate") (hm : X.mg "enumerate" = none) (ha : PA X [e] ta) (hs : starEach [e] X.env = [(false, eval e X.env)] := by rfl) :
    PI X (.Tuple es kk tpos) (.Call (.Name "enumerate" p) [e] [] pos) (iEnT X.K ta) := by
  refine ⟨fun pins s σ H R I h => ?_⟩
  refine Call_ (ld_blt I hg hm boot_enumerate (PyProof.Rows.callWith_type1
    (thn (ha.run pos pins s σ H _ I h) fun us s1 ⟨vs, H1, I1, r1, q1⟩ => ?_) hs rfl))
  obtain ⟨a, ys, ex, sq, q⟩ := q1
  subst ex
  cases r1 with
  | cons r rr =>
    cases rr
    cases r
    obtain ⟨us, rl, at_, _⟩ := I1.tuple sq
    have la : a < s1.heap.objs.size := by
      obtain ⟨_, z, _⟩ := at_
      exact Heap.lt_size z
    refine call_enumT (items := us.toArray) at_ fun h' he hit hk => wpAny_pyIter_enum he ?_
    have I2 : Inv X pins σ H1 { s1 with heap := h' } := I1.kept (t' := s1.toks) hk
    refine ⟨s1.heap.objs.size + 1, [s1.heap.objs.size + 1, s1.heap.objs.size], _, _, H1, rfl, I2,
      turnE a (s1.heap.objs.size + 1) s1.heap.objs.size, ⟨⟨.none, he⟩, hit, Nat.succ_ne_self _, Nat.ne_of_lt la, Nat.ne_of_gt (Nat.lt_succ_of_lt la)⟩, fun b hb => ?_, q⟩
    have lb : s1.heap.objs.size ≤ b := by
      rcases (show b = s1.heap.objs.size + 1 ∨ b = s1.heap.objs.size by simpa using hb) with z | z
      · rw [z]; exact Nat.le_add_right _ _
      · rw [z]; exact Nat.le_refl _
    exact I1.fpOk lb (I1.hok.fresh lb)
/-! ### // by a great divisor of either sign -/
def CDivG (_ j : Int) : Prop := j ≠ 0 ∧ j.natAbs.log2 < 9000
theorem op_fdivG {X : Cx} : OpR X (binaryOp .FloorDiv) (rI CDivG fun i j => .int (i.fdiv j)) :=
  opI fun i j _ _ _ _ _ hc q => floordiv_int hc.1 q (.inl (PyProof.noPylong_of_log2 hc.2))
end
end SS
namespace SS
def sgd (t b : Int) : Int := if b < 0 then -((Int.gcd t b : Nat) : Int) else ((Int.gcd t b : Nat) : Int)
def fr1 (t b : Int) : Int := t.fdiv (sgd t b)
def fr2 (t b : Int) : Int := b.fdiv (sgd t b)
theorem gcdP {t b : Int} (h : b ≠ 0) : 0 < Int.gcd t b := Nat.pos_of_ne_zero fun e => h (Int.gcd_eq_zero_iff.mp e).2
theorem sgd_abs (t b : Int) : (sgd t b).natAbs = Int.gcd t b := by
  unfold sgd
  split <;> omega
theorem sgd_ne {t b : Int} (h : b ≠ 0) : sgd t b ≠ 0 := fun e => by
  have := gcdP (t := t) h
  rw [← sgd_abs, e] at this
  exact absurd this (by decide)
theorem sgd_dvd1 (t b : Int) : sgd t b ∣ t := by
  rw [← Int.natAbs_dvd_natAbs, sgd_abs, ← Int.natCast_dvd_natCast, Int.dvd_natAbs]
  exact Int.gcd_dvd_left ..
theorem sgd_dvd2 (t b : Int) : sgd t b ∣ b := by
  rw [← Int.natAbs_dvd_natAbs, sgd_abs, ← Int.natCast_dvd_natCast, Int.dvd_natAbs]
  exact Int.gcd_dvd_right ..
theorem fr1_eq {t b : Int} (h : b ≠ 0) : fr1 t b * sgd t b = t := by
  obtain ⟨k, e⟩ := sgd_dvd1 t b
  have z : fr1 t b = k := by
    unfold fr1
    have q : t.fdiv (sgd t b) = (sgd t b * k).fdiv (sgd t b) := congrArg (·.fdiv (sgd t b)) e
    rw [q]
    exact Int.mul_fdiv_cancel_left _ (sgd_ne h)
  rw [z, Int.mul_comm]
  exact e.symm
theorem fr2_eq {t b : Int} (h : b ≠ 0) : fr2 t b * sgd t b = b := by
  obtain ⟨k, e⟩ := sgd_dvd2 t b
  have z : fr2 t b = k := by
    unfold fr2
    have q : b.fdiv (sgd t b) = (sgd t b * k).fdiv (sgd t b) := congrArg (·.fdiv (sgd t b)) e
    rw [q]
    exact Int.mul_fdiv_cancel_left _ (sgd_ne h)
  rw [z, Int.mul_comm]
  exact e.symm
theorem fr2_pos {t b : Int} (h : b ≠ 0) : 0 < fr2 t b := by
  have e := fr2_eq (t := t) h
  have g := gcdP (t := t) h
  unfold sgd at e
  by_cases c : b < 0
  · rw [if_pos c] at e
    refine Int.lt_of_not_ge fun z => ?_
    have : 0 ≤ fr2 t b * -((Int.gcd t b : Nat) : Int) := Int.mul_nonneg_of_nonpos_of_nonpos z (by omega)
    omega
  · rw [if_neg c] at e
    refine Int.lt_of_not_ge fun z => ?_
    have : fr2 t b * ((Int.gcd t b : Nat) : Int) ≤ 0 := Int.mul_nonpos_of_nonpos_of_nonneg z (by omega)
    omega
theorem fr_gcd {t b : Int} (h : b ≠ 0) : Int.gcd (fr1 t b) (fr2 t b) = 1 := by
  have g := gcdP (t := t) h
  have e : Int.gcd (fr1 t b * sgd t b) (fr2 t b * sgd t b) = Int.gcd t b := by rw [fr1_eq h, fr2_eq h]
  rw [Int.gcd_mul_right, sgd_abs] at e
  exact Nat.eq_of_mul_eq_mul_right g (by rw [e, Nat.one_mul])
theorem fr_cross {t b : Int} (h : b ≠ 0) : fr1 t b * b = t * fr2 t b := by
  have e1 := fr1_eq (t := t) h
  have e2 := fr2_eq (t := t) h
  calc fr1 t b * b = fr1 t b * (fr2 t b * sgd t b) := by rw [e2]
    _ = (fr1 t b * sgd t b) * fr2 t b := by rw [Int.mul_comm (fr2 t b), Int.mul_assoc]
    _ = t * fr2 t b := by rw [e1]
theorem fr1_le {t b : Int} (h : b ≠ 0) : (fr1 t b).natAbs ≤ t.natAbs := by
  have e := congrArg Int.natAbs (fr1_eq (t := t) h)
  rw [Int.natAbs_mul, sgd_abs] at e
  rw [← e]
  exact Nat.le_mul_of_pos_right _ (gcdP h)
theorem fr2_le {t b : Int} (h : b ≠ 0) : (fr2 t b).natAbs ≤ b.natAbs := by
  have e := congrArg Int.natAbs (fr2_eq (t := t) h)
  rw [Int.natAbs_mul, sgd_abs] at e
  rw [← e]
  exact Nat.le_mul_of_pos_right _ (gcdP h)
/-- one turn of the walk down -/
theorem gcd_turn {a b : Int} (ha : 0 ≤ a) (hb : 0 < b) : Int.gcd b (a % b) = Int.gcd a b := by
  obtain ⟨m, rfl⟩ := Int.eq_ofNat_of_zero_le ha
  obtain ⟨n, rfl⟩ := Int.eq_ofNat_of_zero_le (Int.le_of_lt hb)
  rw [← Int.natCast_emod]
  show Nat.gcd n (m % n) = Nat.gcd m n
  rw [Nat.gcd_comm n, ← Nat.gcd_rec, Nat.gcd_comm]
theorem gcd_end (a : Int) (h : 0 ≤ a) : ((Int.gcd a 0 : Nat) : Int) = a := by
  rw [Int.gcd_zero_right]
  omega
theorem gcd_abs (a b : Int) : Int.gcd (if a < 0 then -a else a) (if b < 0 then -b else b) = Int.gcd a b := by
  have n : ∀ x : Int, (if x < 0 then -x else x).natAbs = x.natAbs := fun x => by split <;> omega
  unfold Int.gcd
  rw [n, n]
end SS
namespace SS
theorem dvdCop {a b c : Int} (z : a ∣ b * c) (h : Int.gcd a b = 1) : a ∣ c := by
  rw [← Int.natAbs_dvd_natAbs] at z ⊢
  rw [Int.natAbs_mul] at z
  exact Nat.Coprime.dvd_of_dvd_mul_left h z
/-- in lowest terms there is one pair -/
theorem lowUniq {x y x' y' : Int} (hy : 0 < y) (hy' : 0 < y') (g : Int.gcd x y = 1) (g' : Int.gcd x' y' = 1) (e : x * y' = x' * y) : x = x' ∧ y = y' := by
  have d1 : y ∣ y' := dvdCop (b := x) ⟨x', by rw [e, Int.mul_comm]⟩ (by rw [Int.gcd_comm]; exact g)
  have d2 : y' ∣ y := dvdCop (b := x') ⟨x, by rw [← e, Int.mul_comm]⟩ (by rw [Int.gcd_comm]; exact g')
  have e2 : y = y' := Int.dvd_antisymm (Int.le_of_lt hy) (Int.le_of_lt hy') d1 d2
  refine ⟨?_, e2⟩
  rw [← e2] at e
  exact Int.eq_of_mul_eq_mul_right (Int.ne_of_gt hy) e
theorem frIs {x y t b : Int} (hb : b ≠ 0) (hy : 0 < y) (g : Int.gcd x y = 1) (e : x * b = t * y) : x = fr1 t b ∧ y = fr2 t b := by
  refine lowUniq hy (fr2_pos hb) g (fr_gcd hb) ?_
  have c := fr_cross (t := t) hb
  refine Int.eq_of_mul_eq_mul_right hb ?_
  calc x * fr2 t b * b = x * b * fr2 t b := by rw [Int.mul_assoc, Int.mul_comm (fr2 t b), ← Int.mul_assoc]
    _ = t * y * fr2 t b := by rw [e]
    _ = t * fr2 t b * y := by rw [Int.mul_assoc, Int.mul_comm y, ← Int.mul_assoc]
    _ = fr1 t b * b * y := by rw [c]
    _ = fr1 t b * y * b := by rw [Int.mul_assoc, Int.mul_comm b, ← Int.mul_assoc]
theorem gcdDvdMul {g k : Int} (h : g ≠ 0) : (g * k).fdiv g = k := Int.mul_fdiv_cancel_left _ h
theorem copDvd {a b c : Int} (h : Int.gcd a b = 1) (z : c ∣ b) : Int.gcd a c = 1 := by
  obtain ⟨k, rfl⟩ := z
  have q : Int.gcd a c ∣ Int.gcd a (c * k) := Int.gcd_dvd_gcd_mul_right_right a c k
  rw [h] at q
  exact Nat.dvd_one.mp q
theorem copDvdL {a b c : Int} (h : Int.gcd a b = 1) (z : c ∣ a) : Int.gcd c b = 1 := by
  rw [Int.gcd_comm] at h ⊢
  exact copDvd h z
theorem copMul {a b c : Int} (h1 : Int.gcd a b = 1) (h2 : Int.gcd a c = 1) : Int.gcd a (b * c) = 1 := by
  rw [Int.gcd_mul_right_right_of_gcd_eq_one h1]
  exact h2
theorem copMulL {a b c : Int} (h1 : Int.gcd a c = 1) (h2 : Int.gcd b c = 1) : Int.gcd (a * b) c = 1 := by
  rw [Int.gcd_mul_right_left_of_gcd_eq_one h1]
  exact h2
/-- both divided by their greatest divisor -/
theorem gcdParts {a b : Int} (h : b ≠ 0) : ∃ u v : Int, a = ((Int.gcd a b : Nat) : Int) * u ∧ b = ((Int.gcd a b : Nat) : Int) * v ∧ Int.gcd u v = 1 := by
  obtain ⟨u, hu⟩ := Int.gcd_dvd_left a b
  obtain ⟨v, hv⟩ := Int.gcd_dvd_right a b
  refine ⟨u, v, hu, hv, ?_⟩
  have g := gcdP (t := a) h
  have e : Int.gcd (((Int.gcd a b : Nat) : Int) * u) (((Int.gcd a b : Nat) : Int) * v) = Int.gcd a b := by rw [← hu, ← hv]
  rw [Int.gcd_mul_left] at e
  have e2 : Int.gcd a b * Int.gcd u v = Int.gcd a b * 1 := by
    rw [Nat.mul_one]
    exact e
  exact Nat.eq_of_mul_eq_mul_left g e2
theorem pos_ne' {a b : Int} (h1 : 0 < a) (h2 : 0 < b) : a * b ≠ 0 := Int.ne_of_gt (Int.mul_pos h1 h2)
theorem posMul {a b : Int} (ha : 0 < a) (h : 0 < a * b) : 0 < b := by
  refine Int.lt_of_not_ge fun z => ?_
  have : a * b ≤ 0 := Int.mul_nonpos_of_nonneg_of_nonpos (Int.le_of_lt ha) z
  omega
/-- the sum of two fractions by the divisor of their bottoms -/
def plD (d1 d2 : Int) : Int := ((Int.gcd d1 d2 : Nat) : Int)
def plT (n1 d1 n2 d2 : Int) : Int := n1 * d2.fdiv (plD d1 d2) + n2 * d1.fdiv (plD d1 d2)
def plG (n1 d1 n2 d2 : Int) : Int := ((Int.gcd (plT n1 d1 n2 d2) (plD d1 d2) : Nat) : Int)
theorem plus_long {n1 d1 n2 d2 : Int} (h1 : 0 < d1) (h2 : 0 < d2) (g1 : Int.gcd n1 d1 = 1) (g2 : Int.gcd n2 d2 = 1) :
    (plT n1 d1 n2 d2).fdiv (plG n1 d1 n2 d2) = fr1 (n1 * d2 + n2 * d1) (d1 * d2) ∧ d1.fdiv (plD d1 d2) * d2.fdiv (plG n1 d1 n2 d2) = fr2 (n1 * d2 + n2 * d1) (d1 * d2) := by
  obtain ⟨u, v, hu, hv, uv⟩ := gcdParts (a := d1) (b := d2) (Int.ne_of_gt h2)
  have s0 : 0 < plD d1 d2 := by
    have := gcdP (t := d1) (Int.ne_of_gt h2)
    unfold plD
    omega
  have hu : d1 = plD d1 d2 * u := hu
  have hv : d2 = plD d1 d2 * v := hv
  have e1 : d1.fdiv (plD d1 d2) = u := by
    have q : d1.fdiv (plD d1 d2) = (plD d1 d2 * u).fdiv (plD d1 d2) := congrArg (·.fdiv (plD d1 d2)) hu
    rw [q]
    exact gcdDvdMul (Int.ne_of_gt s0)
  have e2 : d2.fdiv (plD d1 d2) = v := by
    have q : d2.fdiv (plD d1 d2) = (plD d1 d2 * v).fdiv (plD d1 d2) := congrArg (·.fdiv (plD d1 d2)) hv
    rw [q]
    exact gcdDvdMul (Int.ne_of_gt s0)
  have eT : plT n1 d1 n2 d2 = n1 * v + n2 * u := by
    unfold plT
    rw [e1, e2]
  have eG : plG n1 d1 n2 d2 = ((Int.gcd (plT n1 d1 n2 d2) (plD d1 d2) : Nat) : Int) := rfl
  rw [e1]
  generalize plG n1 d1 n2 d2 = G at *
  generalize plT n1 d1 n2 d2 = T at *
  generalize plD d1 d2 = s at *
  have up : 0 < u := posMul s0 (by rw [← hu]; exact h1)
  have vp : 0 < v := posMul s0 (by rw [← hv]; exact h2)
  obtain ⟨t, s', ht, hs, ts⟩ := gcdParts (a := T) (b := s) (Int.ne_of_gt s0)
  rw [← eG] at ht hs
  have G0 : 0 < G := by
    have := gcdP (t := T) (Int.ne_of_gt s0)
    rw [eG]
    omega
  have sp : 0 < s' := posMul G0 (by rw [← hs]; exact s0)
  have f1 : T.fdiv G = t := by
    rw [ht]
    exact gcdDvdMul (Int.ne_of_gt G0)
  have f2 : d2.fdiv G = s' * v := by
    rw [hv, hs, Int.mul_assoc]
    exact gcdDvdMul (Int.ne_of_gt G0)
  rw [f1, f2]
  have tT : t ∣ T := ⟨G, by rw [ht, Int.mul_comm]⟩
  have c1 : Int.gcd t u = 1 := by
    refine copDvdL (a := T) ?_ tT
    rw [eT, Int.add_comm, Int.gcd_mul_right_add_left]
    refine copMulL ?_ (by rw [Int.gcd_comm]; exact uv)
    exact copDvd g1 ⟨s, by rw [hu, Int.mul_comm]⟩
  have c2 : Int.gcd t v = 1 := by
    refine copDvdL (a := T) ?_ tT
    rw [eT, Int.gcd_mul_right_add_left]
    refine copMulL ?_ uv
    exact copDvd g2 ⟨s, by rw [hv, Int.mul_comm]⟩
  refine frIs (pos_ne' h1 h2) (Int.mul_pos up (Int.mul_pos sp vp)) (copMul c1 (copMul ts c2)) ?_
  have E : n1 * d2 + n2 * d1 = s * (G * t) := by
    rw [← ht, eT, hu, hv, Int.mul_add]
    congr 1 <;> rw [Int.mul_left_comm]
  rw [E, hu, hv]
  have hs2 := hs
  generalize G = G at *
  grind
/-- the product of two fractions, one's top and the other's bottom made less -/
theorem times_long {n1 d1 n2 d2 : Int} (h1 : 0 < d1) (h2 : 0 < d2) (g1 : Int.gcd n1 d1 = 1) (g2 : Int.gcd n2 d2 = 1) :
    n1.fdiv ((Int.gcd n1 d2 : Nat) : Int) * n2.fdiv ((Int.gcd n2 d1 : Nat) : Int) = fr1 (n1 * n2) (d1 * d2) ∧ d1.fdiv ((Int.gcd n2 d1 : Nat) : Int) * d2.fdiv ((Int.gcd n1 d2 : Nat) : Int) = fr2 (n1 * n2) (d1 * d2) := by
  obtain ⟨u, v, hu, hv, uv⟩ := gcdParts (a := n1) (b := d2) (Int.ne_of_gt h2)
  obtain ⟨x, y, hx, hy, xy⟩ := gcdParts (a := n2) (b := d1) (Int.ne_of_gt h1)
  have a0 : 0 < ((Int.gcd n1 d2 : Nat) : Int) := by
    have := gcdP (t := n1) (Int.ne_of_gt h2)
    omega
  have b0 : 0 < ((Int.gcd n2 d1 : Nat) : Int) := by
    have := gcdP (t := n2) (Int.ne_of_gt h1)
    omega
  generalize ((Int.gcd n1 d2 : Nat) : Int) = a at *
  generalize ((Int.gcd n2 d1 : Nat) : Int) = b at *
  subst hu hv hx hy
  rw [gcdDvdMul (Int.ne_of_gt a0), gcdDvdMul (Int.ne_of_gt a0), gcdDvdMul (Int.ne_of_gt b0), gcdDvdMul (Int.ne_of_gt b0)]
  have vp : 0 < v := posMul a0 h2
  have yp : 0 < y := posMul b0 h1
  have uy : Int.gcd u y = 1 := copDvdL (copDvd g1 ⟨b, by rw [Int.mul_comm]⟩) ⟨a, by rw [Int.mul_comm]⟩
  have xv : Int.gcd x v = 1 := copDvdL (copDvd g2 ⟨a, by rw [Int.mul_comm]⟩) ⟨b, by rw [Int.mul_comm]⟩
  refine frIs (pos_ne' h1 h2) (Int.mul_pos yp vp) (copMul (copMulL uy xy) (copMulL uv xv)) ?_
  grind
end SS
namespace SS
open PySem PySem.Spec PyProof.Rows L2
/-! ### heaps -/
/-- all but st is as it was -/
def But (st : Addr) (H H' : Hp) : Prop := ∀ b o, b ≠ st → H b = some o → H' b = some o
theorem But.refl (st : Addr) (H : Hp) : But st H H := fun _ _ _ h => h
theorem But.trans {st : Addr} {H H1 H2 : Hp} (x : But st H H1) (y : But st H1 H2) : But st H H2 := fun b o n h => y b o n (x b o n h)
theorem Same.but {st : Addr} {H H' : Hp} (x : Same H H') : But st H H' := fun b o _ h => x b o h
theorem same_new {H : Hp} {p : Addr} {o : HO} (h : H p = none) : Same H (upd H p o) := fun b x e => by
  rw [upd_ne (ne_of_none e h)]
  exact e
theorem But.upd {st : Addr} {H : Hp} {o : HO} : But st H (upd H st o) := fun b x n e => by
  rw [upd_ne n]
  exact e
/-- the law's own state: its cells, where it stands, what is left, whether that is mixed -/
def StA (st c : Addr) (H : Hp) : Prop := ∃ (i n : Int) (f : Bool) (xs : List Int),
  H st = some (.lst [.ref c, .int i, .int n, .bl f]) ∧ H c = some (.lst (xs.map V.int)) ∧ xs.length ≤ 63 ∧ c ≠ st
theorem StA.same {st c : Addr} {H H' : Hp} (s : StA st c H) (x : Same H H') : StA st c H' := by
  obtain ⟨i, n, f, xs, h1, h2, h3, h4⟩ := s
  exact ⟨i, n, f, xs, x _ _ h1, x _ _ h2, h3, h4⟩
theorem StA.tup {st c p : Addr} {H : Hp} {xs : List V} (s : StA st c H) (h : H p = some (.tup xs)) : p ≠ st := fun e => by
  obtain ⟨i, n, f, ys, h1, _⟩ := s
  rw [e, h1] at h
  cases h
theorem StA.fresh {st c p : Addr} {H : Hp} (s : StA st c H) (h : H p = none) : p ≠ st := fun e => by
  obtain ⟨i, n, f, ys, h1, _⟩ := s
  rw [e, h1] at h
  cases h
theorem But.tup {st c p : Addr} {H H' : Hp} {xs : List V} (b : But st H H') (s : StA st c H) (h : H p = some (.tup xs)) : H' p = some (.tup xs) := b _ _ (s.tup h) h
/-- another object, made since, changes: the state stands -/
theorem StA.other {st c l : Addr} {H : Hp} {o : HO} (s : StA st c H) (h1 : l ≠ st) (h2 : l ≠ c) : StA st c (upd H l o) := by
  obtain ⟨i, n, f, xs, a1, a2, a3, a4⟩ := s
  exact ⟨i, n, f, xs, by rw [upd_ne h1.symm]; exact a1, by rw [upd_ne h2.symm]; exact a2, a3, a4⟩
theorem StA.fresh2 {st c p : Addr} {H : Hp} (s : StA st c H) (h : H p = none) : p ≠ c := fun e => by
  obtain ⟨i, n, f, ys, _, h1, _⟩ := s
  rw [e, h1] at h
  cases h
/-- a tuple (n, d) with d above 0 and few bits -/
def Fra (k : Nat) (H : Hp) (p : Addr) : Prop := ∃ n d : Int, H p = some (.tup [.int n, .int d]) ∧ 0 < d ∧ n.natAbs < 2 ^ k ∧ d.natAbs < 2 ^ k
theorem Fra.same {k : Nat} {p : Addr} {H H' : Hp} (s : Fra k H p) (x : Same H H') : Fra k H' p := by
  obtain ⟨n, d, h1, h2⟩ := s
  exact ⟨n, d, x _ _ h1, h2⟩
theorem Fra.but {k : Nat} {st c p : Addr} {H H' : Hp} (s : Fra k H p) (x : But st H H') (y : StA st c H) : Fra k H' p := by
  obtain ⟨n, d, h1, h2⟩ := s
  exact ⟨n, d, x.tup y h1, h2⟩
theorem Fra.mono {k j : Nat} {p : Addr} {H : Hp} (s : Fra k H p) (h : k ≤ j) : Fra j H p := by
  obtain ⟨n, d, h1, h2, h3, h4⟩ := s
  have z : 2 ^ k ≤ 2 ^ j := Nat.pow_le_pow_right (by decide) h
  exact ⟨n, d, h1, h2, Nat.lt_of_lt_of_le h3 z, Nat.lt_of_lt_of_le h4 z⟩
/-! ### a def of the module, as its callers know it -/
structure Cl (P : Program) (w : World) (K : PySem.W.Frag) (mg : Str → Option Value) (base : Heap) (CX : CXT) (k : Nat) (x : Str) (sp : Sp) (dvs : List V) : Prop where
  ex : ∃ (f : Addr) (fd : FuncData) (ps : List Str) (ds : List Value), FnOk P w K mg base CX k f fd ps sp ∧ mg x = some (.ref f) ∧ PySem.W.keepIn K (.ref f) = true ∧ Binds K fd ps ds ∧ Vals dvs ds
section
variable {X : Cx} {k j : Nat} {x : Str} {sp : Sp} {dvs : List V} {e : Expr} {es : List Expr} {t : TA} {p pos : Pos}
theorem pc0 (c : Cl X.prog X.w X.K X.mg X.base CX0 k x sp dvs) (hr : Room j X.A) (hk : k ≤ j) (ha : PA X (e :: es) t) (hg : Gl X x := by rfl)
    (hdb : (x == ("__debug__" : Str)) = false := by decide) (he : starEach (e :: es) X.env = (false, eval e X.env) :: starEach es X.env := by rfl) (hpl : (backTo pos (starEach es X.env)).any (·.1) = false := by rfl) :
    PE X (.Call (.Name x p) (e :: es) [] pos) (tCall sp dvs E0 t) := by
  obtain ⟨f, fd, ps, ds, F, gm, kp, b, d⟩ := c.ex
  exact pe_call F (hr.mono hk) hg gm kp b d pass0 ha hdb he hpl
theorem pcX (c : Cl X.prog X.w X.K X.mg X.base (L2.CX X.prog X.w) k x sp dvs) (hr : Room j X.A) (hk : k ≤ j) (ha : PA X (e :: es) t) (hg : Gl X x := by rfl)
    (hdb : (x == ("__debug__" : Str)) = false := by decide) (he : starEach (e :: es) X.env = (false, eval e X.env) :: starEach es X.env := by rfl) (hpl : (backTo pos (starEach es X.env)).any (·.1) = false := by rfl) :
    PE X (.Call (.Name x p) (e :: es) [] pos) (tCall sp dvs E0 t) := by
  obtain ⟨f, fd, ps, ds, F, gm, kp, b, d⟩ := c.ex
  exact pe_call F (hr.mono hk) hg gm kp b d passL ha hdb he hpl
/-- where what it raises is wished for: in a try, or let out of the def -/
theorem pcS {E : L2.St → XK} (c : Cl X.prog X.w X.K X.mg X.base (L2.CX X.prog X.w) k x sp []) (hr : Room j X.A) (hk : k ≤ j) (hx : ∀ σ, PassesAt (L2.CX X.prog X.w) X σ (E σ)) (ha : PA X (e :: es) t) (hg : Gl X x := by rfl)
    (hdb : (x == ("__debug__" : Str)) = false := by decide) (he : starEach (e :: es) X.env = (false, eval e X.env) :: starEach es X.env := by rfl) (hpl : (backTo pos (starEach es X.env)).any (·.1) = false := by rfl) :
    PE X (.Call (.Name x p) (e :: es) [] pos) (tCallS sp E t) := by
  obtain ⟨f, fd, ps, ds, F, gm, kp, b, d⟩ := c.ex
  cases d
  exact pe_callS F (hr.mono hk) hg gm kp b hx ha hdb he hpl
end
section
variable {P : Program} {w : World} {K : PySem.W.Frag} {mg : Str → Option Value} {base : Heap}
theorem Cl.mk0 {CX : CXT} {k : Nat} {x : Str} {sp : Sp} {f : Addr} {fd : FuncData} {ps : List Str} (F : FnOk P w K mg base CX k f fd ps sp) (g : mg x = some (.ref f)) (kp : PySem.W.keepIn K (.ref f) = true) (b : Binds K fd ps []) : Cl P w K mg base CX k x sp [] :=
  ⟨⟨f, fd, ps, [], F, g, kp, b, .nil⟩⟩
end
theorem small2 : 2 ≤ sizeLine := by decide
end SS
namespace SS
open PySem PySem.Spec PyProof.Rows L2
/-! ### dicts of fractions compared; tuples of such -/
/-- two tuples of the same two numbers -/
def VEq (H : Hp) (x y : V) : Prop := ∃ (a b : Addr) (n d : Int), x = .ref a ∧ y = .ref b ∧ H a = some (.tup [.int n, .int d]) ∧ H b = some (.tup [.int n, .int d])
def DEq (H : Hp) (x y : V) : Prop := ∃ (a b : Addr) (ks ls : List (Key × V)), x = .ref a ∧ y = .ref b ∧ H a = some (.dK ks) ∧ H b = some (.dK ls) ∧ ks.length = ls.length ∧ ∀ p ∈ ks, ∃ u, valV ls p.1 = some u ∧ VEq H p.2 u
section
variable {X : Cx} {pins : List (Addr × Obj)} {σ : L2.St} {H : Hp} {s : Shared}
theorem veq_run (I : Inv X pins σ H s) {A : Around} (hu : A.in1.units + 10 < cLine) {x y : V} {v u : Value} (h : VEq H x y) (rx : RelV x v) (ry : RelV y u) : SeqAt.EqAt A.in1 s v u true := by
  obtain ⟨a, b, n, d, rfl, rfl, h1, h2⟩ := h
  have D1 : Dp X.K H (.ref a) (.tuple [.int n, .int d]) := .tup (SqT.of h1) (.cons (.int _) (.cons (.int _) .nil))
  have D2 : Dp X.K H (.ref b) (.tuple [.int n, .int d]) := .tup (SqT.of h2) (.cons (.int _) (.cons (.int _) .nil))
  obtain ⟨as, r1⟩ := Dp.reads I _ _ v D1 rx
  obtain ⟨bs, r2⟩ := Dp.reads I _ _ u D2 ry
  have z := SeqAt.eqAt_reads _ _ A.in1 s v u as bs r1 r2 rfl rfl (Nat.lt_of_le_of_lt (Nat.add_le_add_left (Nat.le_trans (Nat.min_le_left _ _) (by show PyData.depth (.tuple [.int n, .int d]) ≤ 10; simp [PyData.depth, PyData.depthAll])) _) hu)
  rw [SeqAt.eqv_refl _ rfl] at z
  exact z
theorem hits_x (I : Inv X pins σ H s) {A : Around} (hu : A.in1.units + 10 < cLine) {ls : List (Key × V)} {vb : List (Key × Value)} (rb : KV ls vb) {ks : List (Key × V)} {va : List (Key × Value)}
    (ra : KV ks va) : (∀ p ∈ ks, ∃ u, valV ls p.1 = some u ∧ VEq H p.2 u) → PySem.W.KeqHits A.in1 s vb va true := by
  unfold KV at ra
  induction ra with
  | nil =>
    intro _
    exact .nil
  | @cons p q ps qs hd tl ih =>
    intro hp
    obtain ⟨e1, e2⟩ := hd
    obtain ⟨u, eu, fu⟩ := hp p List.mem_cons_self
    have ro : RelO (some u) (valueAt vb p.1) := by
      rw [← eu]
      exact rb.val p.1
    obtain ⟨y, hy, ry⟩ := ro.some_of
    obtain ⟨key, v⟩ := q
    have ek : p.1 = key := e1
    rw [ek] at hy
    exact PySem.W.KeqHits.hit (e := true) (b := true) hy (veq_run I hu fu e2 ry) (ih fun p' hm => hp p' (List.mem_cons_of_mem _ hm))
theorem KeqHits.toP {P : Program} {w : World} {A : Around} {kb : List (Key × Value)} : ∀ {ka : List (Key × Value)} {r : Bool}, PySem.W.KeqHits A s kb ka r → PySem.W.KeqHitsP P w A s kb ka r
  | _, _, .nil => .nil
  | _, _, .miss h => .miss h
  | _, _, .hit h1 h2 h3 => .hit h1 h2.eqP (KeqHits.toP h3)
/-- d != e of dicts that are alike -/
def rNeX : R2 := fun x y H Q => DEq H x y ∧ Q (.bl false) H
theorem op_neX (hu : X.A.units + 64 < cLine) : OpR X (compareOp .NotEq) rNeX := by
  intro pins s σ H x y v u Q I rx ry h
  obtain ⟨⟨a, b, ks, ls, rfl, rfl, h1, h2, hl, hp⟩, q⟩ := h
  obtain rfl : v = Value.ref a := rx
  obtain rfl : u = Value.ref b := ry
  obtain ⟨_, ya, va, ra, da⟩ := (show ObjOk X.prog X.w H s.heap a (.dK ks) from I.hok a _ h1)
  obtain ⟨_, yb, vb, rb, db⟩ := (show ObjOk X.prog X.w H s.heap b (.dK ls) from I.hok b _ h2)
  have el : va.length = vb.length := by
    rw [← ra.length, ← rb.length]
    exact hl
  refine PySem.W.keq_ne (knd := mixKind X.prog X.w) (r := true) ya yb da db (by omega) (fun _ => hits_x I (by show X.A.units + 1 + 10 < cLine; omega) rb ra hp) ?_
  exact ⟨.bl false, H, I, (by rw [el]; simp; rfl), q⟩
/-- d == {} -/
def rEq0 : R2 := fun x y H Q => ∃ (a b : Addr) (ks : List (Key × V)), x = .ref a ∧ y = .ref b ∧ H a = some (.dK ks) ∧ H b = some (.dK []) ∧ Q (.bl (ks.length == 0)) H
theorem op_eq0 (hu : X.A.units + 64 < cLine) : OpR X (compareOp .Eq) rEq0 := by
  intro pins s σ H x y v u Q I rx ry h
  obtain ⟨a, b, ks, rfl, rfl, h1, h2, q⟩ := h
  obtain rfl : v = Value.ref a := rx
  obtain rfl : u = Value.ref b := ry
  obtain ⟨_, ya, va, ra, da⟩ := (show ObjOk X.prog X.w H s.heap a (.dK ks) from I.hok a _ h1)
  obtain ⟨_, yb, vb, rb, db⟩ := (show ObjOk X.prog X.w H s.heap b (.dK []) from I.hok b _ h2)
  have e1 : va.length = ks.length := ra.length.symm
  have e2 : vb.length = 0 := rb.length.symm
  refine PySem.W.keq_eq (knd := mixKind X.prog X.w) (r := true) ya yb da db (by omega) (fun z => ?_) ?_
  · rw [e2] at z
    have ez : va = [] := List.eq_nil_of_length_eq_zero z
    rw [ez]
    exact .nil
  · exact ⟨.bl (ks.length == 0), H, I, (by rw [e1, e2, Bool.and_true]; rfl), q⟩
/-- the same of two addresses, within another thing -/
theorem deq_run (I : Inv X pins σ H s) {A : Around} (hu : A.units + 20 < cLine) {x y : V} {v u : Value} (h : DEq H x y) (rx : RelV x v) (ry : RelV y u) : SeqAt.EqP X.prog X.w A s v u true := by
  obtain ⟨a, b, ks, ls, rfl, rfl, h1, h2, hl, hp⟩ := h
  obtain rfl : v = Value.ref a := rx
  obtain rfl : u = Value.ref b := ry
  by_cases e : a = b
  · subst e
    exact (SeqAt.EqAt.same _).eqP
  · obtain ⟨_, ya, va, ra, da⟩ := (show ObjOk X.prog X.w H s.heap a (.dK ks) from I.hok a _ h1)
    obtain ⟨_, yb, vb, rb, db⟩ := (show ObjOk X.prog X.w H s.heap b (.dK ls) from I.hok b _ h2)
    have el : va.length = vb.length := by
      rw [← ra.length, ← rb.length]
      exact hl
    refine SeqAt.eqP_refs e fun E Q q => PySem.W.rcP_dicts (knd := mixKind X.prog X.w) (r := true) ya yb da db (by omega) (fun _ => SS.KeqHits.toP (hits_x I (by show A.units + 1 + 10 < cLine; omega) rb ra hp)) E Q ?_
    rw [el]
    simpa using q
open MeetsSeq MeetsSeq2 MeetsSeq3 SeqRoads2 in
theorem tupNe_in {P : Program} {w : World} (l b : Addr) (it it2 : Array Value) (n n2 : Nat) (dd dd2 : Option Addr) (sl sl2 : Array (Option Value)) (hz : it.size = it2.size) :
    MeetsIn P w (Builtin.«tuple.__ne__» ⟨[.ref l, .ref b], []⟩)
      (fun A R s => s.heap.get? l = some { cls := .type "tuple", dict := dd, data := .seq it n, slots := sl } ∧ s.heap.get? b = some { cls := .type "tuple", dict := dd2, data := .seq it2 n2, slots := sl2 } ∧
        (∀ j (h1 : j < it.size) (h2 : j < it2.size), SeqAt.EqP P w A.in1 s it[j] it2[j] true) ∧ R (.ok (.ret (.bool false))) s) := by
  intro A R s h
  refine wpAny_mono (Q := fun fin s' => ∃ f, fin = .done f ∧ R (.ok f) s') ?_ (fun fin s' z => by obtain ⟨f, rfl, z⟩ := z; exact z) (fun _ _ z => z)
  obtain ⟨hp, g, d, tk, os⟩ := s
  obtain ⟨hl, hb, he, h⟩ := h
  have f2 := AutoSeq1.sub_tuple_tuple
  have zl : (it.toList.zip it2.toList).length = it.size := by
    rw [List.length_zip, Array.length_toList, Array.length_toList, hz, Nat.min_self]
  wp_walk using AutoSeq1.wpAny_loadPart' hl, AutoSeq1.wpAny_loadPart' hb, wpAny_forIn_list _ (fun rest c s' => c.1 = none ∧ s' = ⟨hp, g, d, tk, os⟩ ∧ ∃ i, rest = (it.toList.zip it2.toList).drop i) _
  case turn =>
    rintro ⟨y, x⟩ rest c s' ⟨hc, rfl, i, zi⟩
    have hlt : i < (it.toList.zip it2.toList).length := Nat.lt_of_not_le fun hh => by
      rw [List.drop_of_length_le hh] at zi
      cases zi
    have h1 : i < it.size := by omega
    have h2 : i < it2.size := by omega
    rw [List.drop_eq_getElem_cons hlt] at zi
    injection zi with za zb
    have ey : y = it[i] := by
      have q := congrArg Prod.fst za
      simpa using q
    have ex : x = it2[i] := by
      have q := congrArg Prod.snd za
      simpa using q
    subst ey ex
    refine wpAny_bind (he i h1 h2 _ _ ?_)
    wp_walk
    exact ⟨rfl, rfl, i + 1, zb⟩
  case fin =>
    rintro ⟨c1, c2⟩ s' ⟨hc, rfl, i, zi⟩
    simp only at hc
    subst hc
    wp_walk
    exact ⟨_, rfl, by simpa [Builtin.Tuple.tupleCompareSizes, bne, hz] using h⟩
  case h =>
    exact ⟨rfl, rfl, 0, rfl⟩
/-- (d, e) != (f, g), dicts alike in their places -/
def rNeT (K : PySem.W.Frag) : R2 := fun x y H Q => ∃ (p q : Addr) (xs ys : List V), x = .ref p ∧ y = .ref q ∧ SqT K H p xs ∧ SqT K H q ys ∧ Paired (DEq H) xs ys ∧ Q (.bl false) H
theorem op_neT (hu : X.A.units + 64 < cLine) : OpR X (compareOp .NotEq) (rNeT X.K) := by
  intro pins s σ H x y v u Q I rx ry h
  obtain ⟨p, r, xs, ys, rfl, rfl, h1, h2, hp, q⟩ := h
  obtain rfl : v = Value.ref p := rx
  obtain rfl : u = Value.ref r := ry
  obtain ⟨us, r1, ⟨⟨c1, d1, e1, g1⟩, o1, o2, n1, o3⟩, _⟩ := I.tuple h1
  obtain ⟨ws, r2, ⟨⟨c2, d2, e2, g2⟩, t1, t2, n2, t3⟩, _⟩ := I.tuple h2
  have o2' : c1 = .type "tuple" := o2
  have o3' : e1 = .seq us.toArray n1 := o3
  have t2' : c2 = .type "tuple" := t2
  have t3' : e2 = .seq ws.toArray n2 := t3
  subst o2' o3' t2' t3'
  have hz : us.toArray.size = ws.toArray.size := by
    rw [List.size_toArray, List.size_toArray, ← r1.length, ← r2.length]
    exact Paired.length hp
  have ta : s.TypeIs (.ref p) "tuple" := ⟨_, o1, rfl⟩
  have tb : s.TypeIs (.ref r) "tuple" := ⟨_, t1, rfl⟩
  refine wpAny_richCompare_same_room (op := .NotEq) ta tb F.slot_tuple_ne (call_meetsIn F.slot_tuple_ne ta F.entry_tuple_ne (F.args_tuple_ne_2 _ _) (tupNe_in p r us.toArray ws.toArray n1 n2 d1 d2 g1 g2 hz)
    ⟨o1, t1, fun j j1 j2 => ?_, ⟨(fun z => nomatch z), ⟨.bl false, H, I, rfl, q⟩⟩⟩) (by omega)
  have k := items_run (P := X.prog) (w := X.w) (A := X.A.in1) (s := s) (F := DEq H) (fun x y v u hd rv ru => deq_run I (by show X.A.units + 1 + 20 < cLine; omega) hd rv ru) hp r1 r2 j (by simpa using j1) (by simpa using j2)
  simpa using k
end
end SS
namespace SS
open PySem PySem.Spec PyProof.Rows L2
/-! ### things within things compared: lists, tuples and dicts, to any depth -/
/-- one step: two lists, two tuples or two dicts, alike in their places -/
def XR (K : PySem.W.Frag) (H : Hp) (E : V → V → Prop) (x y : V) : Prop :=
  EqR K H E x y ∨ ∃ a b xs ys, x = .ref a ∧ y = .ref b ∧ SqT K H a xs ∧ SqT K H b ys ∧ Paired E xs ys
def XV (K : PySem.W.Frag) (H : Hp) : Nat → V → V → Prop
  | 0 => fun _ _ => False
  | n + 1 => fun x y => (x = y ∧ flatB x = true) ∨ (∃ a, x = .ref a ∧ y = .ref a) ∨ XR K H (XV K H n) x y
section
variable {X : Cx} {pins : List (Addr × Obj)} {σ : L2.St} {H : Hp} {s : Shared}
theorem xr_run (I : Inv X pins σ H s) {A : Around} {F : V → V → Prop} (hu : A.units < cLine) (ih : ∀ x y v u, F x y → RelV x v → RelV y u → SeqAt.EqP X.prog X.w A.in1 s v u true) {x y : V} {v u : Value} (h : XR X.K H F x y) (rx : RelV x v) (ry : RelV y u)
    (E Q : Value → Shared → Prop) (q : Q (.bool true) s) : wpAny (model X.prog X.w) A (richCompare .Eq v u) Q E s := by
  rcases h with h | ⟨a, b, xs, ys, rfl, rfl, ha, hb, hp⟩
  · exact eqR_run I hu ih h rx ry E Q q
  · cases (show v = Value.ref a from rx)
    cases (show u = Value.ref b from ry)
    obtain ⟨us, r1, p1, _⟩ := I.tuple ha
    obtain ⟨ws, r2, p2, _⟩ := I.tuple hb
    have hsz : us.toArray.size = ws.toArray.size := by
      rw [List.size_toArray, List.size_toArray, ← r1.length, ← r2.length]
      exact Paired.length hp
    refine SeqAt.rcIn_tuples (e := fun _ => true) p1 p2 hu (fun j h1 h2 => ?_) ?_
    · have k := items_run ih hp r1 r2 j (by simpa using h1) (by simpa using h2)
      have k' : SeqAt.EqP X.prog X.w A.in1 s us.toArray[j] ws.toArray[j] true := by simpa using k
      exact k'
    · rw [show ((List.range (min us.toArray.size ws.toArray.size)).all fun _ => true) = true from List.all_eq_true.mpr fun _ _ => rfl, hsz]
      simpa using q
theorem xv_run (I : Inv X pins σ H s) : ∀ (n : Nat) (A : Around), A.units + n < cLine → ∀ (x y : V) (v u : Value), XV X.K H n x y → RelV x v → RelV y u → SeqAt.EqP X.prog X.w A s v u true
  | 0, _, _, _, _, _, _, h, _, _ => (show False from h).elim
  | n + 1, A, hu, x, y, v, u, h, rx, ry => by
    rcases h with ⟨rfl, f⟩ | ⟨a, rfl, rfl⟩ | h
    · exact (eqAt_same rx ry f).eqP
    · cases (show v = Value.ref a from rx)
      cases (show u = Value.ref a from ry)
      exact (SeqAt.EqAt.same _).eqP
    · have step := xr_run I (A := A) (by omega) (xv_run I n A.in1 (by show A.units + 1 + n < cLine; omega)) h rx ry
      obtain ⟨a, b, rfl, rfl⟩ : ∃ a b, x = .ref a ∧ y = .ref b := by
        rcases h with (⟨a, b, _, _, e1, e2, _⟩ | ⟨a, b, _, _, e1, e2, _⟩) | ⟨a, b, _, _, e1, e2, _⟩ <;> exact ⟨a, b, e1, e2⟩
      cases (show v = Value.ref a from rx)
      cases (show u = Value.ref b from ry)
      by_cases e : a = b
      · subst e
        exact (SeqAt.EqAt.same _).eqP
      · exact SeqAt.eqP_refs e step
/-- a == b, equal things -/
def rEqXV (K : PySem.W.Frag) : R2 := fun x y H Q => ∃ n, n ≤ 60 ∧ XR K H (XV K H n) x y ∧ Q (.bl true) H
theorem op_eqXV (hu : X.A.units + 64 < cLine) : OpR X (compareOp .Eq) (rEqXV X.K) := by
  intro pins s σ H x y v u Q I rx ry h
  obtain ⟨n, hn, h, q⟩ := h
  exact xr_run I (A := X.A) (by omega) (xv_run I n X.A.in1 (by show X.A.units + 1 + n < cLine; omega)) h rx ry _ _ ⟨.bl true, H, I, rfl, q⟩
/-- (..) != (..), two tuples that are equal -/
def rNeXT (K : PySem.W.Frag) : R2 := fun x y H Q => ∃ (n : Nat) (p q : Addr) (xs ys : List V), n ≤ 50 ∧ x = .ref p ∧ y = .ref q ∧ SqT K H p xs ∧ SqT K H q ys ∧ Paired (XV K H n) xs ys ∧ Q (.bl false) H
theorem op_neXT (hu : X.A.units + 64 < cLine) : OpR X (compareOp .NotEq) (rNeXT X.K) := by
  intro pins s σ H x y v u Q I rx ry h
  obtain ⟨n, p, r, xs, ys, hn, rfl, rfl, h1, h2, hp, q⟩ := h
  obtain rfl : v = Value.ref p := rx
  obtain rfl : u = Value.ref r := ry
  obtain ⟨us, r1, ⟨⟨c1, d1, e1, g1⟩, o1, o2, n1, o3⟩, _⟩ := I.tuple h1
  obtain ⟨ws, r2, ⟨⟨c2, d2, e2, g2⟩, t1, t2, n2, t3⟩, _⟩ := I.tuple h2
  have o2' : c1 = .type "tuple" := o2
  have o3' : e1 = .seq us.toArray n1 := o3
  have t2' : c2 = .type "tuple" := t2
  have t3' : e2 = .seq ws.toArray n2 := t3
  subst o2' o3' t2' t3'
  have hz : us.toArray.size = ws.toArray.size := by
    rw [List.size_toArray, List.size_toArray, ← r1.length, ← r2.length]
    exact Paired.length hp
  have ta : s.TypeIs (.ref p) "tuple" := ⟨_, o1, rfl⟩
  have tb : s.TypeIs (.ref r) "tuple" := ⟨_, t1, rfl⟩
  refine wpAny_richCompare_same_room (op := .NotEq) ta tb F.slot_tuple_ne (call_meetsIn F.slot_tuple_ne ta F.entry_tuple_ne (F.args_tuple_ne_2 _ _) (tupNe_in p r us.toArray ws.toArray n1 n2 d1 d2 g1 g2 hz)
    ⟨o1, t1, fun j j1 j2 => ?_, ⟨(fun z => nomatch z), ⟨.bl false, H, I, rfl, q⟩⟩⟩) (by omega)
  have k := items_run (P := X.prog) (w := X.w) (A := X.A.in1) (s := s) (F := XV X.K H n) (fun x y v u hd rv ru => xv_run I n _ (by show X.A.units + 1 + n < cLine; omega) _ _ _ _ hd rv ru) hp r1 r2 j (by simpa using j1) (by simpa using j2)
  simpa using k
end
end SS
namespace GxA
open PySem PySem.Spec PyProof.Rows L2
/-! ### all(elt for x in iter): any element, a frame of its own -/
/-- the context of a generator expression's frame -/
def gx (X : Cx) (scope : Scope) (A : Around) (s : Shared) (H : Hp) (C : Addr) (code : Value) (cl : List (Str × Addr)) (fp : List Addr) : Cx where
  prog := X.prog
  w := X.w
  K := X.K
  mg := X.mg
  base := X.base
  A := A
  N := X.N
  s_0 := s
  H_0 := H
  env := genEnv scope cl C code builtinsNs X.env
  outer := X.stack
  stack := genEnv scope cl C code builtinsNs X.env :: X.stack
  ex := fp
  fn := fun _ => false
  calm := true
  pn := []
  xe := fun _ _ => False
/-- the names of a generator expression and of the def around it -/
structure GxS (N : List Str) (sc scope : Scope) (x : Str) (ix : Nat) : Prop where
  kind : scope.kind = .function
  co : scope.isCoroutine = false
  cell : ∀ y ∈ scope.names, y.2 ≠ .cell
  dot : scope.names.lookup (".0" : Str) = some NameKind.local
  loc : scope.names.lookup x = some .local
  locs : ∀ y ∈ scope.names, y.2 = .local → y.1 = x ∨ y.1 = (".0" : Str)
  free : ∀ y ∈ scope.names, y.2 = .free → sc.names.lookup y.1 = some .cell ∨ sc.names.lookup y.1 = some .free
  ix : N[ix]? = some x
  nodot : (".0" : Str) ∉ N
  nd : N.Nodup
section
variable {X : Cx} {pins : List (Addr × Obj)} {σ : L2.St} {H : Hp} {s : Shared}
theorem GxS.cells {scope : Scope} {x : Str} {ix : Nat} (S : GxS X.N X.env.scope scope x ix) (ok : X.Ok) : ∀ y ∈ scope.names, y.2 = .free → ∃ c, X.env.cells.lookup y.1 = some c := fun y hy hf => by
  exact ok.has y.1 (S.free y hy hf)
theorem inv_gx {scope : Scope} {x : Str} {ix : Nat} {A : Around} {code : Value} {fp : List Addr} {a : Addr} {go : Obj} {g' : Array GenState} {tk : Nat} {h' : Heap} {m : Str → Option Value}
    (I : Inv X pins σ H s) (S : GxS X.N X.env.scope scope x ix) (hfp : ∀ b ∈ fp, FpOk X pins H b) (hob : ∀ b ∈ fp, ∃ o, s.heap.get? b = some o) (hA : A.handled = none)
    (hAf : A.frames = some (genEnv scope (cloFrom X.env.cells scope.names []) s.heap.objs.size code builtinsNs X.env :: X.stack)) (hk : ∀ b o, s.heap.get? b = some o → h'.get? b = some o) (hns : h'.Ns s.heap.objs.size m)
    (hg : AllBare g') (ha : h'.get? a = some go) (hsz : s.heap.objs.size < a) (hgo : ∀ v, go.data ≠ .cell v) :
    Inv (gx X scope A s H s.heap.objs.size code (cloFrom X.env.cells scope.names []) fp) [(a, go)] (σ.set ix none) H { s with gens := g', toks := tk, heap := h' } := by
  have hfree := S.cells I.ok
  have cm : ∀ {y : Str} {c : Addr}, (cloFrom X.env.cells scope.names []).lookup y = some c → X.env.cells.lookup y = some c := fun e => NdefX.clo_cm hfree e
  have lt : ∀ b o, s.heap.get? b = some o → b < s.heap.objs.size := fun b o e => Heap.lt_size e
  refine ⟨⟨I.ok.mod, S.kind, I.ok.glob, rfl, Nat.le_refl _, fun y z c h1 h2 => I.ok.inj y z c (cm h1) (cm h2), fun y hy => ?_, fun y c z => (by cases z), fun _ => hA, hAf, .inr ⟨rfl, rfl⟩, fun b hb => ⟨?_, fun y c e => (hfp b hb).2.2.2.2.1 y c (cm e)⟩, I.bs, Nat.le_trans I.ok.bsz I.sz, fun b o e hb => ?_, fun b hb hm => ?_, I.stack, I.stkFree⟩,
    rfl, hg, Un.kept hk, ⟨m, hns, fun i y v h1 h2 h3 => ?_⟩, fun y c e => ?_, I.hok.fresh (Nat.le_refl _), fun y c e => I.freeC y c (cm e), fun p hp => ?_, I.hok.kept hk, ?_⟩
  · have hy : scope.names.lookup y = some .cell ∨ scope.names.lookup y = some .free := hy
    rcases hy with hy | hy
    · exact absurd rfl (S.cell _ (PySem.mem_of_lookup hy))
    · obtain ⟨c, hc⟩ := hfree _ (PySem.mem_of_lookup hy) rfl
      exact ⟨c, NdefX.clo_has hfree (PySem.mem_of_lookup hy) hc⟩
  · obtain ⟨o, e⟩ := hob b hb
    exact Nat.ne_of_lt (lt b o e)
  · rcases (hfp b hb).2.2.2.1 with z | z
    · exact I.ok.noex b o e z
    · exact absurd (Nat.lt_of_lt_of_le (Nat.lt_of_lt_of_le (Heap.lt_size e) I.ok.bsz) z) (Nat.lt_irrefl _)
  · rcases List.mem_cons.mp (I.stkSub b hm) with z | z
    · exact (hfp b hb).2.1 z
    · exact (hfp b hb).2.2.1 z
  · have ne : i ≠ ix := fun e => by
      subst e
      by_cases c : i < σ.length
      · rw [List.getElem?_set_self c] at h2
        cases h2
      · rw [List.getElem?_eq_none (by rw [List.length_set]; omega)] at h2
        cases h2
    rw [List.getElem?_set_ne (Ne.symm ne)] at h2
    have hv : scope.names.lookup y = some .local ∨ scope.names.lookup y = some .cell ∨ scope.names.lookup y = some .free := h3
    have h1' : X.N[i]? = some y := h1
    rcases hv with z | z | z
    · rcases S.locs _ (PySem.mem_of_lookup z) rfl with e | e
      · have e' : y = x := e
        rw [e'] at h1'
        have hi := (List.getElem?_eq_some_iff.mp h1').1
        exact absurd ((List.getElem?_inj hi S.nd).mp (h1'.trans S.ix.symm)) ne
      · have e' : y = (".0" : Str) := e
        rw [e'] at h1'
        exact absurd (List.mem_of_getElem? h1') S.nodot
    · exact absurd rfl (S.cell _ (PySem.mem_of_lookup z))
    · have hx := S.free _ (PySem.mem_of_lookup z) rfl
      have hx' : X.env.scope.names.lookup y = some .cell ∨ X.env.scope.names.lookup y = some .free := hx
      obtain ⟨m', _, hl⟩ := I.loc
      obtain ⟨u, ru, lk⟩ := hl i y v h1' h2 (.inr hx')
      refine ⟨u, ru, .inr ⟨.inr z, ?_⟩⟩
      rcases lk with ⟨k, _⟩ | ⟨_, c, ec, ⟨oc, eo, ed⟩⟩
      · have k' : X.env.scope.names.lookup y = some .local := k
        rw [k'] at hx'
        rcases hx' with q | q <;> cases q
      · exact ⟨c, NdefX.clo_has hfree (PySem.mem_of_lookup z) ec, oc, hk _ _ eo, ed⟩
  · obtain ⟨v, o, ho, hd⟩ := I.cell y c (cm e)
    exact ⟨v, o, hk _ _ ho, hd⟩
  · have hp' : p ∈ [(a, go)] := hp
    rw [List.mem_singleton.mp hp']
    exact ⟨ha, I.hok.fresh (Nat.le_of_lt hsz), Nat.ne_of_gt hsz, fun hm => by
      rcases List.mem_cons.mp (I.stkSub a hm) with z | z
      · have h1 := I.lt
        rw [← z] at h1
        exact Nat.lt_asymm h1 hsz
      · exact I.nofs (Nat.le_of_lt hsz) z, hgo⟩
  · show (σ.set ix none).length = X.N.length
    rw [List.length_set]
    exact I.len
/-- back in the def's own frame -/
theorem inv_back {scope : Scope} {A : Around} {C : Addr} {code : Value} {cl : List (Str × Addr)} {fp : List Addr} {pz : List (Addr × Obj)} {σ' : L2.St} {H' : Hp} {s1 s' : Shared} (I : Inv X pins σ H s) (hfp : ∀ b ∈ fp, FpOk X pins H b)
    (J : Inv (gx X scope A s H C code cl fp) pz σ' H' s1) (ho : s'.os = s1.os) (hk : ∀ b o, s1.heap.get? b = some o → s'.heap.get? b = some o) (hg : AllBare s'.gens) : Inv X pins σ H' s' := by
  have u : Un (frs X.stack) fp H H' s.heap s1.heap := J.base
  refine I.call' (ch := fp) (ho.trans J.os) (u.trans (Un.kept hk)) (J.hok.kept hk) hg fun b hb => ?_
  obtain ⟨_, f1, _, f3, f4, f5⟩ := hfp b hb
  exact ⟨f3, f1, f4, f5⟩
end
/-- the consumer does nothing but look at the value -/
structure Again (s s' : Shared) : Prop where
  heap : s'.heap = s.heap
  os : s'.os = s.os
  bare : AllBare s'.gens
section
variable {X : Cx} {pins : List (Addr × Obj)} {σ : L2.St} {H : Hp} {s : Shared}
/-- the end of the walk; an element handed out -/
def RA (Y : Cx) (pz : List (Addr × Obj)) (Q : VK) : GenEnd := fun _ _ r s1 => r = .ok .next ∧ ∃ σ' H', Inv Y pz σ' H' s1 ∧ Q (.bl true) H'
def YA (Y : Cx) (pz : List (Addr × Obj)) (Q : VK) : Protocol := fun _ _ v s1 kap =>
  ∃ b σ' H', v = .bool b ∧ Inv Y pz σ' H' s1 ∧ (b = false → Q (.bl false) H') ∧ (b = true → ∀ s', Again s1 s' → kap (.send .none) s')
theorem Inv.again {Y : Cx} {pz : List (Addr × Obj)} {σ' : L2.St} {H' : Hp} {s1 s2 : Shared} (J : Inv Y pz σ' H' s1) (z : Again s1 s2) : Inv Y pz σ' H' s2 := by
  refine J.call' (ch := []) z.os (Un.kept fun b o e => by rw [z.heap]; exact e) (by rw [z.heap]; exact J.hok) z.bare fun b hb => by cases hb
/-- one turn's question, and what follows -/
def AllW (J : It) (te : TE) (σ : L2.St) (ix : Nat) (Q : VK) (W : Nat → Nat → Hp → Prop) : Prop := ∀ i m H', W i m H' →
  (J.stop i H' ∧ Q (.bl true) H') ∨ (J.go i H' ∧ ∃ N : Hp → Prop, (∀ H'', N H'' → ∃ m', m' < m ∧ W (i + 1) m' H'') ∧
    ∀ x H'', J.yld i H' x H'' → te (σ.set ix (some x)) H'' fun v H3 => ∃ b, v = .bl b ∧ (b = true → N H3) ∧ (b = false → Q (.bl false) H3))
theorem seg_all {elt iter : Expr} {x : Str} {px gpos : Pos} {scope : Scope} {B : Around} {C : Addr} {code : Value} {cl : List (Str × Addr)} {fp : List Addr} {it : Addr} {tn : Nat → Heap → Prop} {J : It} {te : TE} {ix : Nat} {Q : VK} {W : Nat → Nat → Hp → Prop} {pz : List (Addr × Obj)}
    (S : GxS X.N X.env.scope scope x ix) (T : Turn X.prog X.w X.K (.Name x px) J fp it tn)
    (hY : (B.over (.compLoop (.GeneratorExp elt [⟨.Name x px, iter, [], 0⟩] scope gpos) 0 (.ref it) .none (genEnv scope cl C code builtinsNs X.env)) []) = B.deeper (genEnv scope cl C code builtinsNs X.env))
    (he : PE (gx X scope (B.deeper (genEnv scope cl C code builtinsNs X.env)) s H C code cl fp) elt te) (hW : AllW J te σ ix Q W)
    (hpz : ∀ p ∈ pz, ∀ b ∈ fp, p.1 ≠ b) (hex : ∀ b ∈ fp, b ≠ C ∧ b ∉ frs X.stack ∧ ∀ y c, cl.lookup y = some c → c ≠ b) :
    ∀ (m n i : Nat) (o : Option V) (H' : Hp) (s₀ s1 : Shared), m < n → W i m H' → Inv (gx X scope (B.deeper (genEnv scope cl C code builtinsNs X.env)) s H C code cl fp) pz (σ.set ix o) H' s1 → tn i s1.heap → (∀ b ∈ fp, H' b = none) →
      Seg (model X.prog X.w) B (RA (gx X scope (B.deeper (genEnv scope cl C code builtinsNs X.env)) s H C code cl fp) pz Q) (YA (gx X scope (B.deeper (genEnv scope cl C code builtinsNs X.env)) s H C code cl fp) pz Q) n s₀
        (.compLoop (.GeneratorExp elt [⟨.Name x px, iter, [], 0⟩] scope gpos) 0 (.ref it) .none (genEnv scope cl C code builtinsNs X.env))
        ((model X.prog X.w).den (.compLoop (.GeneratorExp elt [⟨.Name x px, iter, [], 0⟩] scope gpos) 0 (.ref it) .none (genEnv scope cl C code builtinsNs X.env))) [] s1 := by
  intro m
  induction m using Nat.strongRecOn with
  | ind m ih =>
    intro n i o H' s₀ s1 hmn w I1 st1 fr1
    have fpok : ∀ {H1 : Hp}, (∀ b ∈ fp, H1 b = none) → ∀ b ∈ fp, FpOk (gx X scope (B.deeper (genEnv scope cl C code builtinsNs X.env)) s H C code cl fp) pz H1 b := fun hn b hb =>
      ⟨hn b hb, (hex b hb).1, (hex b hb).2.1, .inl hb, (hex b hb).2.2, fun p hp => hpz p (by simpa [gx] using hp) b hb⟩
    show Seg _ B _ _ n s₀ _ ((compTurn (.GeneratorExp elt [⟨.Name x px, iter, [], 0⟩] scope gpos) 0 (.ref it) .none (genEnv scope cl C code builtinsNs X.env)).onRaise (leaving (genEnv scope cl C code builtinsNs X.env))) [] s1
    rw [compTurn_gen, Sem.onRaise_eq_wrap]
    refine seg_bind_wrap (wpAny_standAt ?_)
    rcases hW i m H' w with ⟨stop, q⟩ | ⟨go, N, hN, step⟩
    · refine seg_bind_wrap ?_
      rw [hY]
      refine wpAny_mono (T.done (gx X scope (B.deeper (genEnv scope cl C code builtinsNs X.env)) s H C code cl fp) rfl rfl rfl rfl i pz s1 _ H' (fun _ _ => False) I1 (fpok fr1) st1 stop) (fun r s2 h2 => ?_) fun _ _ e => e.elim
      obtain ⟨rfl, I2⟩ := h2
      exact seg_end (.ok .next) ⟨rfl, _, H', I2, q⟩
    · obtain ⟨n, rfl⟩ : ∃ n', n = n' + 1 := ⟨n - 1, by omega⟩
      refine seg_bind_wrap ?_
      rw [hY]
      refine wpAny_mono (T.item (gx X scope (B.deeper (genEnv scope cl C code builtinsNs X.env)) s H C code cl fp) rfl rfl rfl rfl i pz s1 _ H' (fun _ _ => False) I1 (fpok fr1) st1 go) (fun r s2 h2 => ?_) fun _ _ e => e.elim
      obtain ⟨u, rfl, h2⟩ := h2
      refine seg_bind_wrap ?_
      rw [hY]
      refine wpAny_mono h2 (fun _ s3 h3 => ?_) fun _ _ e => e.elim
      obtain ⟨xv, H3, I3, r3, y3, st3, fr3⟩ := h3
      have I3' := Inv.pinned I3 (fpok fr3) (T.obj _ _ st3)
      refine seg_bind_wrap ?_
      rw [hY]
      have hpg : PG (gx X scope (B.deeper (genEnv scope cl C code builtinsNs X.env)) s H C code cl fp) (.Name x px) (gName ix) := pg_name S.nd S.ix (.inl S.loc) (.inr S.loc)
      refine wpAny_mono (hpg.run _ s3 _ H3 xv u (fun σ' H'' => σ' = σ.set ix (some xv) ∧ H'' = H3) I3' r3 ⟨by rw [List.set_set], rfl⟩) (fun _ s4 h4 => ?_) fun _ _ e => e.elim
      obtain ⟨σ4, H4, I4, rfl, rfl⟩ := h4
      refine seg_bind_wrap (wpAny_pure ?_)
      simp only [if_true]
      have hy : ∀ v, yieldOut (genEnv scope cl C code builtinsNs X.env) v = yieldValue v := fun v => by simp only [yieldOut, genEnv, S.co, Bool.false_eq_true, if_false]
      simp only [hy]
      rw [Sem.bind_eq_wrap', Sem.bind_eq_wrap', Sem.wrap_wrap, Sem.wrap_wrap]
      refine seg_wrap ?_
      rw [hY]
      refine wpAny_mono (he.run _ s4 _ H4 _ I4 (step xv H4 y3)) (fun v s5 h5 => ?_) fun _ _ e => e.elim
      obtain ⟨ve, H5, I5, r5, b, rfl, hb1, hb2⟩ := h5
      obtain rfl : v = Value.bool b := r5
      refine seg_at (seg_yield rfl rfl rfl ⟨b, _, H5, rfl, I5.unpinned, hb2, fun hb s6 z => ?_⟩)
      obtain ⟨m', hm', w'⟩ := hN H5 (hb1 hb)
      have I6 := Inv.again I5 z
      refine seg_again rfl (ih m' hm' n (i + 1) _ H5 s6 s6 (by omega) w' I6.unpinned ?_ fun b' hb' => ?_)
      · exact T.keep _ _ _ st3 fun b' hb' o' e' => (I6.pin (b', o') (List.mem_append_right _ (List.mem_append_right _ (mem_pinsAt hb' e')))).1
      · obtain ⟨o', e', d'⟩ := T.obj _ _ st3 b' hb'
        exact (I6.pin (b', o') (List.mem_append_right _ (List.mem_append_right _ (mem_pinsAt hb' e')))).2.1
end
end GxA
namespace GxA
open PySem PySem.Spec PyProof.Rows L2
theorem all_loop {prog : Program} {w : World} {A : Around} {a : Addr} {R : Result → Shared → Prop} {Rt : Bool → Shared → Prop} (St : Nat → Shared → Prop) (hR : ∀ b s', Rt b s' → R (.ok (.ret (.bool b))) s')
    (turn : ∀ n s E, St n s → wpAny (model prog w) A.in1 (pyNext (.ref a)) (fun r s' => (r = none ∧ Rt true s') ∨ ∃ b, r = some (.bool b) ∧ (b = true → ∃ n', n' < n ∧ St n' s') ∧ (b = false → Rt false s')) E s) :
    ∀ n s, St n s → codeAny (model prog w) A (.builtin "all.loop" ⟨[.ref a], []⟩) R s := by
  intro n
  induction n using Nat.strongRecOn with
  | ind n ih =>
    intro s hst
    refine codeAny_builtin F.entry_all_loop ?_
    rw [Around.under_plainId F.plain_all_loop _]
    show wpAny _ A.in1 (pyNext (.ref a) >>= _) _ _ s
    refine wpAny_bind (wpAny_mono (turn n s _ hst) (fun r s' h => ?_) fun _ _ e => e)
    rcases h with ⟨rfl, h⟩ | ⟨b, rfl, h1, h2⟩
    · refine wpAny_bind (wpAny_rule (wpAny_pure ?_))
      exact hR true s' h
    · refine wpAny_bind (wpAny_holding (wpAny_truthy_bool ?_))
      refine wpAny_bind (wpAny_letGo ?_)
      cases b with
      | true =>
        simp only [if_true]
        obtain ⟨n', hn, hst'⟩ := h1 rfl
        exact wpAny_pure ⟨plainId_quiet F.plain_all_loop _, ih n' hn s' hst'⟩
      | false =>
        simp only [Bool.false_eq_true, if_false]
        refine wpAny_bind (wpAny_rule (wpAny_pure ?_))
        exact hR false s' (h2 rfl)
theorem bare_set {s : Shared} {g : Nat} {x : GenState} (h : AllBare s.gens) (hx : x.bare = true) : AllBare (s.setGen g x).gens := fun y hy => by
  have hy' : y ∈ s.gens.setIfInBounds g x := hy
  obtain ⟨i, hi, rfl⟩ := Array.mem_iff_getElem.mp hy'
  have hi' : i < s.gens.size := by simpa using hi
  rw [Array.getElem_setIfInBounds hi']
  split
  · exact hx
  · exact h _ (Array.getElem_mem _)
def tAllG (P : Addr) (ix : Nat) (wi : TI) (te : TE) : TE := fun σ H Q => wi σ H fun J H1 => GxR.TabG H1 P ∧ ∀ H2, GxR.Tabbed P H1 H2 → ∃ W : Nat → Nat → Hp → Prop, (∃ m, W 0 m H2) ∧ AllW J te σ ix Q W
section
variable {X : Cx} {pins : List (Addr × Obj)} {σ : L2.St} {H : Hp} {s : Shared}
theorem over_deeper {B : Around} {elt : Expr} {gs : List Comprehension} {scope : Scope} {pos : Pos} {it : Value} {env : Env} : B.over (.compLoop (.GeneratorExp elt gs scope pos) 0 it .none env) [] = B.deeper env := by
  first
    | rfl
    | (obtain ⟨hd, d, fr, gd, u⟩ := B; simp [Around.over, Around.deeper, marksOver, frameCount, unitsOf, envsOf, guardsOf, pushEnvs, pushGuards, Code.envs, Code.env?, Code.isFrame, Code.guards, Code.isGuard, Code.weight, Code.frames, Code.isCreation, Code.isCaller, Code.cUnits])
set_option maxHeartbeats 4000000 in
theorem pe_allG {c P : Addr} {elt iter : Expr} {x : Str} {px p pos gpos : Pos} {scope : Scope} {wi : TI} {te : TE} {ix k : Nat}
    (hr : Room (k + 2) X.A) (hg : Gl X "all") (hm : X.mg "all" = none) (hb : bootBuiltins "all" = some (.builtin "all")) (TB : GxR.TabB X.base X.mg c P) (hcode : X.env.code = .ref c) (S : GxS X.N X.env.scope scope x ix) (hi : PI X (.Name x px) iter wi)
    (he : ∀ (s : Shared) (H : Hp) (C : Addr) (code : Value) (cl : List (Str × Addr)) (fp : List Addr), PE (gx X scope (X.A.in1.in1.deeper (genEnv scope cl C code builtinsNs X.env)) s H C code cl fp) elt te)
    (hs : ∀ v, genFold iter X.env v = pure v)
    (hst : starEach [.GeneratorExp elt [⟨.Name x px, iter, [], 0⟩] scope gpos] X.env = (false, eval (.GeneratorExp elt [⟨.Name x px, iter, [], 0⟩] scope gpos) X.env) :: starEach [] X.env := by rfl) :
    PE X (.Call (.Name "all" p) [.GeneratorExp elt [⟨.Name x px, iter, [], 0⟩] scope gpos] [] pos) (tAllG P ix wi te) := by
  refine ⟨fun pins s σ H Q I h => ?_⟩
  refine wpAny_Call_Name_kw (ld_blt I hg hm hb ?_)
  refine PyProof.Rows.callWith_builtin1 ?_ hst (by rfl)
  rw [hst]
  show wpAny _ _ (spliced ((false, eval (.GeneratorExp elt [⟨.Name x px, iter, [], 0⟩] scope gpos) X.env) :: backTo pos (starEach [] X.env))) _ _ s
  refine Calls.spliced_cons (wpAny_GeneratorExp_make S.co (closure_ok (S.cells I.ok)) S.cell S.dot S.kind (by have := hr.dp; omega) ?_ hs)
  refine thn (hi.run pins s σ H _ I h) fun xv s1 h1 => thn h1 fun itv s2 h2 => ?_
  obtain ⟨it, fp, tn, J, H2, rfl, I2, T, st2, f2, ⟨ps, hP, ht⟩, q2⟩ := h2
  refine ⟨I2.nolimit, ?_⟩
  have hPs : s2.heap.get? P = some { cls := .none, data := .fields ps } := I2.hok P _ hP
  have cd : PySem.W.CodeHd s2.heap c P := TB.code.keeps fun b u e => I2.bk b u e
  have nfP : ∀ b ∈ fp, b ≠ P := fun b hb e => by
    have z := (f2 b hb).1
    rw [e, hP] at z
    cases z
  have cont : ∀ (code : Value) (h3 : Heap) (tk : Nat) (ps' : Array Value), Heap.ExtBut P s2.heap h3 → h3.get? P = some { cls := .none, data := .fields ps' } → (∃ more, ps' = ps ++ more) → TriplesOk ps'.toList →
      wpAny (model X.prog X.w) X.A (builtinsFor X.env.globals X.env.builtins) (fun bi s₄ =>
        ∀ h', h'.Ns s₄.heap.objs.size (fun y => if y = ".0" then some (.ref it) else none) → Heap.SameBut s₄.heap.objs.size (s₄.heap.push { cls := .type "frame", data := .dict #[] }) h' →
          (fun v s' => wpAny (model X.prog X.w) X.A (spliced (backTo pos (starEach [] X.env))) (fun vs s'' => wpAny (model X.prog X.w) X.A (call (.builtin "all") (v :: vs)) (EP X pins σ Q) X.xe s'') X.xe s') (.ref h'.objs.size) { s₄ with
            gens := s₄.gens.push (.fresh (.compStart (.GeneratorExp elt [⟨.Name x px, iter, [], 0⟩] scope gpos) 0 (.ref it) .none (genEnv scope (cloFrom X.env.cells scope.names []) s₄.heap.objs.size code bi X.env))),
            toks := s₄.toks + 1 + 1 + 1,
            heap := h'.push { cls := .type "generator", data := .fields #[.int s₄.gens.size 0, .str "<genexpr>" (s₄.toks + 1), .str (X.env.qual ++ "<genexpr>") (s₄.toks + 1 + 1)] } }) X.xe { s2 with heap := h3, toks := tk } := by
    intro code h3 tk ps' hx hP3 hmore ht3
    obtain ⟨more, em⟩ := hmore
    subst em
    have I3 : Inv X pins σ (upd H2 P (.tbl (ps ++ more))) { s2 with heap := h3, toks := tk } := GxR.inv_tab (g' := s2.gens) (d' := s2.drawn) I2 hP (fun b o hb e => hx b o hb e) hP3 I2.bare
    have hTb : GxR.Tabbed P H2 (upd H2 P (.tbl (ps ++ more))) := ⟨⟨_, upd_same, ht3⟩, fun b hb => upd_ne hb⟩
    have f3 : ∀ b ∈ fp, FpOk X pins (upd H2 P (.tbl (ps ++ more))) b := fun b hb => ⟨by rw [upd_ne (nfP b hb)]; exact (f2 b hb).1, (f2 b hb).2⟩
    have st3 : tn 0 h3 := T.keep _ _ _ st2 fun b hb o e => hx b o (nfP b hb) e
    obtain ⟨W, ⟨m0, w0⟩, hW⟩ := q2 _ hTb
    generalize upd H2 P (.tbl (ps ++ more)) = H3 at I3 hTb f3 w0
    generalize hs4 : ({ s2 with heap := h3, toks := tk } : Shared) = s4 at I3
    have st4 : tn 0 s4.heap := by rw [← hs4]; exact st3
    obtain ⟨bm, ob, e1, e2, e3, e4, e5, e6, e7, e8⟩ := TB.bm
    refine wpAny_builtinsFor (m := X.mg) (by rw [I3.ok.glob]; exact I3.mod.glob.keeps I3.bk) e1 e2 (I3.bk _ _ e5) e6 e7 e8 ?_
    intro h' hn' hs'
    refine Calls.spliced_nil ?_
    have hsz : h'.objs.size = s4.heap.objs.size + 1 := by rw [hs'.1, Heap.size_push]
    have keep' : ∀ b o, s4.heap.get? b = some o → h'.get? b = some o := fun b o e => hs'.extBut b o (Nat.ne_of_lt (Heap.lt_size e)) (Heap.get?_push_of_some _ e)
    generalize hgo : ({ cls := .type "generator", data := .fields #[.int s4.gens.size 0, .str "<genexpr>" (s4.toks + 1), .str (X.env.qual ++ "<genexpr>") (s4.toks + 1 + 1)] } : Obj) = go
    have keep5 : ∀ b o, s4.heap.get? b = some o → (h'.push go).get? b = some o := fun b o e => Heap.get?_push_of_some _ (keep' b o e)
    have hgi : ∀ hh : Heap, hh.get? h'.objs.size = some go → hh.IsGen h'.objs.size s4.gens.size := fun hh e => ⟨go, _, _, e, by rw [← hgo], by rw [← hgo], by rw [← hgo]⟩
    have ha5 : (h'.push go).get? h'.objs.size = some go := Heap.get?_push_size _ (by rw [← hgo]; rfl)
    have hob : ∀ b ∈ fp, ∃ o, s4.heap.get? b = some o := fun b hb => let ⟨o, e, _⟩ := T.obj _ _ st4 b hb; ⟨o, e⟩
    have hgc : ∀ v, go.data ≠ .cell v := fun v z => by
      rw [← hgo] at z
      cases z
    generalize hcl : cloFrom X.env.cells scope.names [] = cl
    have hA : (X.A.in1.in1.deeper (genEnv scope cl s4.heap.objs.size code builtinsNs X.env)).handled = none := hr.hd
    have hAf : (X.A.in1.in1.deeper (genEnv scope cl s4.heap.objs.size code builtinsNs X.env)).frames = some (genEnv scope cl s4.heap.objs.size code builtinsNs X.env :: X.stack) := Around.frames_deeper (A := X.A.in1.in1) I3.ok.frames
    have hex : ∀ b ∈ fp, b ≠ s4.heap.objs.size ∧ b ∉ frs X.stack ∧ ∀ y c, cl.lookup y = some c → c ≠ b := fun b hb => by
      obtain ⟨o, e⟩ := hob b hb
      refine ⟨Nat.ne_of_lt (Heap.lt_size e), fun hm => ?_, fun y c e => ?_⟩
      · rcases List.mem_cons.mp (I3.stkSub b hm) with z | z
        · exact (f3 b hb).2.1 z
        · exact (f3 b hb).2.2.1 z
      · rw [← hcl] at e
        exact (f3 b hb).2.2.2.2.1 y c (NdefX.clo_cm (S.cells I3.ok) e)
    have hpz : ∀ p ∈ [(h'.objs.size, go)], ∀ b ∈ fp, p.1 ≠ b := fun p hp b hb z => by
      rw [List.mem_singleton.mp hp] at z
      obtain ⟨o, e⟩ := hob b hb
      have h1 := Heap.lt_size e
      have z' : h'.objs.size = b := z
      rw [← z', hsz] at h1
      exact Nat.lt_irrefl _ (Nat.lt_trans (Nat.lt_succ_self _) h1)
    have J0 : ∀ (G : Array GenState) (t : Nat), AllBare G → Inv (gx X scope (X.A.in1.in1.deeper (genEnv scope cl s4.heap.objs.size code builtinsNs X.env)) s4 H3 s4.heap.objs.size code cl fp) [(h'.objs.size, go)] (σ.set ix none) H3 { s4 with gens := G, toks := t, heap := h'.push go } := fun G t hG => by
      subst hcl
      exact inv_gx I3 S f3 hob hA hAf keep5 (hn'.push _) hG ha5 (by rw [hsz]; exact Nat.lt_succ_self _) hgc
    have back : ∀ {σ' : L2.St} {H' : Hp} {s5 s6 : Shared}, Inv (gx X scope (X.A.in1.in1.deeper (genEnv scope cl s4.heap.objs.size code builtinsNs X.env)) s4 H3 s4.heap.objs.size code cl fp) [(h'.objs.size, go)] σ' H' s5 → s6.os = s5.os → (∀ b o, s5.heap.get? b = some o → s6.heap.get? b = some o) → AllBare s6.gens → Inv X pins σ H' s6 := fun J5 ho hk hg => inv_back I3 f3 J5 ho hk hg
    have loop := seg_all (s := s4) (H := H3) (elt := elt) (iter := iter) (gpos := gpos) (B := X.A.in1.in1) (C := s4.heap.objs.size) (code := code) (cl := cl) (pz := [(h'.objs.size, go)]) S T over_deeper (he s4 H3 _ code cl fp) hW hpz hex
    refine call_function_tree F.kind_all F.plain_all F.entry_all (F.args_all1 _) ?_
    unfold Builtin.«all»
    refine wpAny_bind (m := oneArg "all" _) (wpAny_pure ?_)
    refine wpAny_bind (wpAny_pyIter_gen (hgi _ ha5) ?_)
    refine wpAny_pure ⟨plainId_quiet F.plain_all_loop _, ?_⟩
    refine all_loop (Rt := fun b s' => EP X pins σ Q (.bool b) s')
      (fun n s' => s'.heap.IsGen h'.objs.size s4.gens.size ∧ s'.heap.NoLimit ∧ AllBare s'.gens ∧ ∃ gs, s'.gens[s4.gens.size]? = some gs ∧
        ∀ s'', Again s' s'' → gs.Goes (model X.prog X.w) X.A.in1.in1 (RA (gx X scope (X.A.in1.in1.deeper (genEnv scope cl s4.heap.objs.size code builtinsNs X.env)) s4 H3 s4.heap.objs.size code cl fp) [(h'.objs.size, go)] Q) (YA (gx X scope (X.A.in1.in1.deeper (genEnv scope cl s4.heap.objs.size code builtinsNs X.env)) s4 H3 s4.heap.objs.size code cl fp) [(h'.objs.size, go)] Q) n (.send .none) s'')
      (fun b s' h => h) (fun n s' E hS => ?_) (m0 + 1) _ ?_
    · obtain ⟨g1, g2, g3, gs, g4, g5⟩ := hS
      have glt : s4.gens.size < s'.gens.size := (Array.getElem?_eq_some_iff.mp g4).1
      refine GenW.wpAny_gsz (n := s4.gens.size + 1) glt ?_
      refine wpAny_pyNext_genexpQ (P := fun _ _ s1 => ∃ σ' H', Inv (gx X scope (X.A.in1.in1.deeper (genEnv scope cl s4.heap.objs.size code builtinsNs X.env)) s4 H3 s4.heap.objs.size code cl fp) [(h'.objs.size, go)] σ' H' s1 ∧ Q (.bl true) H') hr.hd g2 hr.depth g1 g4
        (g5 _ ⟨rfl, rfl, bare_set g3 rfl⟩) (fun v s1 gs' hb hv => ?_) (fun s1 hp h6 hk6 => ?_)
      · intro hsz1
        obtain ⟨b, σ', H', rfl, J1, k1, k2⟩ := hv
        refine .inr ⟨b, rfl, fun hb1 => ?_, fun hb0 => ?_⟩
        · have k2' := k2 hb1
          cases n with
          | zero => exact absurd (k2' s1 ⟨rfl, rfl, J1.bare⟩) id
          | succ n =>
            refine ⟨n, Nat.lt_succ_self n, hgi _ (J1.pin (h'.objs.size, go) (List.mem_append_right _ (List.mem_singleton.mpr rfl))).1, J1.nolimit, bare_set J1.bare hb, gs', ?_, fun s'' z => ?_⟩
            · have hlt : s4.gens.size < s1.gens.size := by
                have z : s4.gens.size + 1 ≤ (s1.setGen s4.gens.size gs').gens.size := hsz1
                rw [GenW.setGen_size] at z
                exact z
              simp [Shared.setGen, hlt]
            · exact k2' s'' ⟨z.heap, z.os, z.bare⟩
        · exact ⟨.bl false, H', back J1 rfl (fun _ _ e => e) (bare_set J1.bare hb), rfl, k1 hb0⟩
      · intro _
        obtain ⟨σ', H', J1, qq⟩ := hp
        exact .inl ⟨rfl, .bl true, H', back J1 rfl hk6 (bare_set J1.bare rfl), rfl, qq⟩
    · refine ⟨hgi _ ha5, I3.nolimit.keeps keep5, AllBare.push I3.bare rfl, _, Array.getElem?_push_size .., fun s'' z => ⟨rfl, ?_⟩⟩
      have J1 := Inv.again (J0 _ (s4.toks + 1 + 1 + 1) (AllBare.push I3.bare rfl)) z
      have st5 : tn 0 s''.heap := by
        rw [z.heap]
        exact T.keep _ _ _ st4 fun b hb o e => keep5 b o e
      have fin := loop m0 (m0 + 1) 0 none H3 s'' s'' (Nat.lt_succ_self _) w0 J1 st5 (fun b hb => (f3 b hb).1)
      show Seg _ _ _ _ _ s'' _ ((compStart (.GeneratorExp elt [⟨.Name x px, iter, [], 0⟩] scope gpos) 0 (.ref it) .none (genEnv scope _ s4.heap.objs.size code builtinsNs X.env)).onRaise (leaving (genEnv scope _ s4.heap.objs.size code builtinsNs X.env))) [] s''
      subst hcl
      unfold compStart
      rw [Sem.onRaise_eq_wrap]
      show Seg _ _ _ _ _ s'' _ ((ask >>= _).wrap _ _ _ _) [] s''
      refine seg_bind_wrap (wpAny_askSetting ?_)
      split
      · exact seg_again rfl fin
      · first
          | exact seg_bind_wrap (wpAny_rule (seg_bind_wrap (wpAny_standAt (seg_bind_wrap (T.self _ 0 s'' _ _ st5 (seg_again rfl fin))))))
          | (refine seg_bind_wrap (wpAny_rule ?_); show Seg _ _ _ _ _ s'' _ ((standAt iter.pos >>= _).wrap _ _ _ _) [] s''; exact seg_bind_wrap (wpAny_standAt (seg_bind_wrap (T.self _ 0 s'' _ _ st5 (seg_again rfl fin)))))
  cases hf : codeAmong gpos ps.toList with
  | none =>
    refine wpAny_genexprCodeX hcode (cd.code hPs ht) (cd.tab hPs) hf fun c' h' tk hx hge hlt hco' _ htab' _ => ?_
    obtain ⟨o1, vs, f1, tf, fl, tg, inF, tx, tt, op, _, _, _, _, _, _, _, _, _, htr, _⟩ := hco'
    exact cont _ h' tk _ hx htab'.2 ⟨_, rfl⟩ htr
  | some cv =>
    refine wpAny_genexprCode_hit hcode (cd.code hPs ht) hf ?_
    exact cont cv s2.heap s2.toks ps (Heap.ExtBut.refl _ _) hPs ⟨#[], by simp⟩ ht
end
end GxA
namespace SS
open PySem PySem.Spec PyProof.Rows L2
section
variable {X : Cx}
/-- name = {k: v for ..} on one row, the name a local: the dict goes to the name ahead of the block's end -/
theorem ps_setDc {i : Nat} {y : Str} {py : Pos} {kx vx tg iter : Expr} {ifs : List Expr} {scope : Scope} {own : List (Str × Nat)} {pos spos : Pos} {wi : TI} {g : TG} {tt : TT} {tk tv : TE} (hc : X.calm = true) (hN : X.N.Nodup) (hy : X.N[i]? = some y) (hyl : X.env.scope.names.lookup y = some .local)
    (hsw : swapsWith (.DictComp kx vx [⟨tg, iter, ifs, 0⟩] scope pos) (some (.Name y py)) spos.line X.env = pure true) (hi : PI X tg iter wi) (ok : BlkOk X.N X.env.scope scope own)
    (hg : ∀ (s : Shared) (H : Hp) (B : Addr) (cl : List (Str × Addr)) (fp : List Addr), PG (X.blk s H scope (compEnvC scope cl B X.env) fp) tg g) (ht : ∀ (s : Shared) (H : Hp) (B : Addr) (cl : List (Str × Addr)) (fp : List Addr), PTs (X.blk s H scope (compEnvC scope cl B X.env) fp) ifs tt)
    (hk : ∀ (s : Shared) (H : Hp) (B : Addr) (cl : List (Str × Addr)) (fp : List Addr), PE (X.blk s H scope (compEnvC scope cl B X.env) fp) kx tk)
    (he : ∀ (s : Shared) (H : Hp) (B : Addr) (cl : List (Str × Addr)) (fp : List Addr), PE (X.blk s H scope (compEnvC scope cl B X.env) fp) vx tv) (hs : ∀ x, foldedSetIterable iter X.env x = pure x := by intro _; rfl) :
    PS X (.Assign [.Name y py] (.DictComp kx vx [⟨tg, iter, ifs, 0⟩] scope pos) spos) (tAsg (tDc wi g tt tk tv (own.map (·.2))) (gName i)) := by
  refine ⟨fun pins s σ H DD I hh => ?_⟩
  rw [exec_Assign_Name_used _ _ _ _ hsw]
  refine wpAny_bind (wpAny_standAt (wpAny_bind ?goal1))
  show wpAny _ X.A (do let _ ← comprehension (.DictComp kx vx [⟨tg, iter, ifs, 0⟩] scope pos) scope X.env (firstIterPos [⟨tg, iter, ifs, 0⟩] pos) newDict false (eval iter X.env) (some (assign (.Name y py) X.env))) _ _ s
  have hh : tDc wi g tt tk tv (own.map (·.2)) σ H (fun x H1 => gName i x σ H1 DD.nx) := hh
  refine wpAny_bind (thn (dc_core (Qf := fun _ s' => SP X pins DD .next s') hc hN I hi ok hg ht hk he hs hh fun L B s' m H' I' q hn f => ?goal2) fun _ s' hq => wpAny_pure (wpAny_pure hq))
  show wpAny _ _ (assign (.Name y py) X.env (.ref L)) _ _ _
  refine wpAny_assign_Name (store_ok2 (v := V.ref L) I' hN hy (.inl hyl) rfl (fun s2 I2 ⟨a, sb, ha⟩ => ?goal3) (.inr hyl))
  obtain ⟨f0, f1, _, f3, f4, f5⟩ := f
  have haB : B ≠ a := ha.elim (fun z => z ▸ f1) (fun z e => f4 y a z e.symm)
  exact ⟨m, hn.sameBut sb haB, fun h3 sb3 => ⟨_, H', I2.turned (t' := s2.toks) (fun b o hb e => (sb3.2 b hb).trans e) f0 f1 f3 f4 f5, q⟩⟩
theorem swD_true {kx vx : Expr} {gs : List Comprehension} {scope : Scope} {pos py : Pos} {y : Str} {l : Nat} {env : Env} (hk : env.scope.kind = .function) (hy : env.scope.names.lookup y = some .local) (hl : (py.line == pos.line) = true)
    (ha : (scope.names.any fun (n, k) => n == y && (k == .local || k == .cell)) = false) : swapsWith (.DictComp kx vx gs scope pos) (some (.Name y py)) l env = pure true := by
  have kind1 : env.kindOf y = some .local := hy
  have kind2 : env.blockKind = .function := by unfold Env.blockKind; rw [hk]; rfl
  unfold swapsWith
  simp only [kind2, kind1, ha, Expr.pos, hl]; rfl
end
end SS
namespace SS
open PySem PySem.Spec PyProof.Rows L2
open MeetsSeq MeetsSeq2 MeetsSeq3 SeqRoads2 in
theorem lstNe_loop {P : Program} {w : World} (l b : Addr) (it it2 : Array Value) (n n2 : Nat) (dd dd2 : Option Addr) (sl sl2 : Array (Option Value)) (hz : it.size = it2.size) (k : Nat) :
    ∀ i : Nat, it.size - i = k → MeetsIn P w (Builtin.«list.__eq__.loop» ⟨[.ref l, .ref b, rawInt i, rawInt 3], []⟩)
      (fun A R s => s.heap.get? l = some { cls := .type "list", dict := dd, data := .seq it n, slots := sl } ∧ s.heap.get? b = some { cls := .type "list", dict := dd2, data := .seq it2 n2, slots := sl2 } ∧
        (∀ j (h1 : j < it.size) (h2 : j < it2.size), SeqAt.EqP P w A.in1 s it[j] it2[j] true) ∧ R (.ok (.ret (.bool false))) s) := by
  induction k with
  | zero =>
    intro i hk A R s h
    obtain ⟨hp, g, d, tk, os⟩ := s
    obtain ⟨hl, hb, he, h⟩ := h
    wp_walk using AutoSeq1.wpAny_loadPart' hl, AutoSeq1.wpAny_loadPart' hb
    have a1 : it[((i : Nat) : Int).toNat]? = none := by simp; omega
    have a2 : it2[((i : Nat) : Int).toNat]? = none := by simp; omega
    rw [a1, a2]
    wp_walk using AutoSeq1.wpAny_loadPart' hl, AutoSeq1.wpAny_loadPart' hb
    show R (.ok (.ret (.bool (it.size != it2.size)))) _
    rw [hz]
    simpa using h
  | succ k ih =>
    intro i hk A R s h
    obtain ⟨hp, g, d, tk, os⟩ := s
    obtain ⟨hl, hb, he, h⟩ := h
    wp_walk using AutoSeq1.wpAny_loadPart' hl, AutoSeq1.wpAny_loadPart' hb
    have b1 : i < it.size := by omega
    have b2 : i < it2.size := by omega
    have a1 : it[((i : Nat) : Int).toNat]? = some it[i] := by simp [b1]
    have a2 : it2[((i : Nat) : Int).toNat]? = some it2[i] := by simp [b2]
    have hc : ((i : Int) + 1) = ((i + 1 : Nat) : Int) := by omega
    rw [a1, a2]
    refine wpAny_bind (he i b1 b2 _ _ ?_)
    wp_walk
    rw [hc]
    exact ⟨plainId_quiet plain_eq_loop _, codeAny_builtin entry_eq_loop (by
      rw [Around.under_plainId plain_eq_loop _]; exact ih (i + 1) (by omega) A R _ ⟨hl, hb, he, h⟩)⟩
open MeetsSeq MeetsSeq2 MeetsSeq3 SeqRoads2 in
theorem lstNe_in {P : Program} {w : World} (l b : Addr) (it it2 : Array Value) (n n2 : Nat) (dd dd2 : Option Addr) (sl sl2 : Array (Option Value)) (hz : it.size = it2.size) :
    MeetsIn P w (Builtin.«list.__ne__» ⟨[.ref l, .ref b], []⟩)
      (fun A R s => s.heap.get? l = some { cls := .type "list", dict := dd, data := .seq it n, slots := sl } ∧ s.heap.get? b = some { cls := .type "list", dict := dd2, data := .seq it2 n2, slots := sl2 } ∧
        (∀ j (h1 : j < it.size) (h2 : j < it2.size), SeqAt.EqP P w A.in1 s it[j] it2[j] true) ∧ R (.ok (.ret (.bool false))) s) := by
  intro A R s h
  obtain ⟨hp, g, d, tk, os⟩ := s
  obtain ⟨hl, hb, he, h⟩ := h
  have f3 := AutoSeq1.sub_list_list
  have nz : ¬ (it.size != it2.size) = true := by simp [hz]
  wp_walk using AutoSeq1.wpAny_loadPart' hl, AutoSeq1.wpAny_loadPart' hb
  exact ⟨plainId_quiet plain_eq_loop _, codeAny_builtin entry_eq_loop (by
    rw [Around.under_plainId plain_eq_loop _]; exact lstNe_loop l b it it2 n n2 dd dd2 sl sl2 hz _ 0 rfl A R _ ⟨hl, hb, he, h⟩)⟩
section
variable {X : Cx}
/-- [..] != [..], two lists that are equal -/
def rNeXL (K : PySem.W.Frag) : R2 := fun x y H Q => ∃ (n : Nat) (p q : Addr) (xs ys : List V), n ≤ 50 ∧ x = .ref p ∧ y = .ref q ∧ SqL K H p xs ∧ SqL K H q ys ∧ Paired (XV K H n) xs ys ∧ Q (.bl false) H
theorem op_neXL (hu : X.A.units + 64 < cLine) : OpR X (compareOp .NotEq) (rNeXL X.K) := by
  intro pins s σ H x y v u Q I rx ry h
  obtain ⟨n, p, r, xs, ys, hn, rfl, rfl, h1, h2, hp, q⟩ := h
  obtain rfl : v = Value.ref p := rx
  obtain rfl : u = Value.ref r := ry
  obtain ⟨us, r1, p1, _⟩ := I.list h1
  obtain ⟨ws, r2, p2, _⟩ := I.list h2
  obtain ⟨⟨c1, d1, e1, g1⟩, o1, o2, n1, o3⟩ := id p1.isList
  obtain ⟨⟨c2, d2, e2, g2⟩, t1, t2, n2, t3⟩ := id p2.isList
  have o2' : c1 = .type "list" := o2
  have o3' : e1 = .seq us.toArray n1 := o3
  have t2' : c2 = .type "list" := t2
  have t3' : e2 = .seq ws.toArray n2 := t3
  subst o2' o3' t2' t3'
  have hz : us.toArray.size = ws.toArray.size := by
    rw [List.size_toArray, List.size_toArray, ← r1.length, ← r2.length]
    exact Paired.length hp
  have ta : s.TypeIs (.ref p) "list" := ⟨_, o1, rfl⟩
  have tb : s.TypeIs (.ref r) "list" := ⟨_, t1, rfl⟩
  refine wpAny_richCompare_same_room (op := .NotEq) ta tb F.slot_list_ne (call_meetsIn F.slot_list_ne ta F.entry_list_ne (F.args_list_ne_2 _ _) (lstNe_in p r us.toArray ws.toArray n1 n2 d1 d2 g1 g2 hz)
    ⟨o1, t1, fun j j1 j2 => ?_, ⟨(fun z => nomatch z), ⟨.bl false, H, I, rfl, q⟩⟩⟩) (by omega)
  have k := items_run (P := X.prog) (w := X.w) (A := X.A.in1) (s := s) (F := XV X.K H n) (fun x y v u hd rv ru => xv_run I n _ (by show X.A.units + 1 + n < cLine; omega) _ _ _ _ hd rv ru) hp r1 r2 j (by simpa using j1) (by simpa using j2)
  simpa using k
end
end SS
namespace SS
open PySem PySem.Spec PyProof.Rows L2
/-! ### a def that is handed the error which a suite holds -/
structure FnP (P : Program) (w : World) (K : PySem.W.Frag) (mg : Str → Option Value) (base : Heap) (k : Nat) (f : Addr) (fd : FuncData) (ps : List Str) (sp : Sp) (pe : Addr × Obj) : Prop where
  len : ∀ vs H Q E, sp vs H Q E → vs.length = ps.length
  run : ∀ (A : Around) (outer : List Env) (s : Shared) (H : Hp) (args : Args) (us : List Value) (vs : List V) (Q : VK) (E : XK), L2H.RoomH k A → L2H.PinOk outer H s pe → Env0 P w K mg base A outer s H → BindsTo s fd args (ps.zip us) → Vals vs us → sp vs H Q E →
    codeAny (model P w) A (.call (.ref f) args) (CR CX0 outer P w H s Q E) s
theorem Fun.okP {P : Program} {w : World} {K : PySem.W.Frag} {mg : Str → Option Value} {base : Heap} {x qual : Str} {st : Stmt} {f : Addr} {fd : FuncData} {N ps : List Str} {k : Nat} {sp : Sp} (F : Fun K x qual st f fd) (S : FnScope N ps (defScope st)) (pe : Addr × Obj)
    (len : ∀ vs H Q E, sp vs H Q E → vs.length = ps.length)
    (hbody : ∀ (cdv : Value) (A : Around) (outer : List Env) (s : Shared) (H : Hp) (vs : List V) (Q : VK) (E : XK), L2H.RoomH k (A.deeper (envOfC qual (defScope st) s.heap.objs.size f cdv)) → sp vs H Q E →
      ∃ t, PSs (L2H.cxH CX0 P w K mg base N qual (defScope st) f cdv A outer s H E pe) (defBody st) t ∧ t { nx := fun _ H' => Q .non H', rt := Q } (L2.start N vs) H) : FnP P w K mg base (k + 1) f fd ps sp pe := by
  obtain ⟨oc, od, kV, doc, pm, an, cdv, ct, osl, rfl, look, code⟩ := F.ex
  refine ⟨len, fun A outer s H args us vs Q E hr pin env bnd r hsp => ?_⟩
  have ll := len _ _ _ _ hsp
  have inK : K.In s.heap := env.mod.kin.keeps fun b o e => (env.bs b o e).1
  have noL : s.heap.NoLimit := env.mod.nolimit.keeps fun b o e => (env.bs b o e).1
  have kinds : ∀ y ∈ ps.zip us, (defScope st).names.lookup y.1 = some .local ∨ ((defScope st).names.lookup y.1 = some .cell ∧ ((cellsFrom (s.heap.objs.size + 1) (defScope st).names []).lookup y.1).isSome = true) := fun ⟨n, v⟩ hy =>
    (S.par n (List.of_mem_zip hy).1).elim .inl fun q => .inr ⟨q, PySem.W.cellsFrom_some _ _ _ (.inl q)⟩
  refine codeAny_call_function hr.depth (inK _ _ look) rfl S.co S.gen rfl (PySem.W.codeRec_of inK code) (bnd _ _ _ _ ?_)
  refine wpAny_newFunctionEnv_cells S.kind kinds fun en he s1 xc => ?_
  subst he
  refine ⟨noL.keeps xc.toInCall.keep, codeAny_func ?_⟩
  obtain ⟨t, ht, hq⟩ := hbody cdv A outer s H vs Q E (hr.deeper _) hsp
  have I : Inv (L2H.cxH CX0 P w K mg base N qual (defScope st) f cdv A outer s H E pe) [] (L2.start N vs) H s1 := L2H.inv_startH S pin env ll r xc
  refine wpAny_mono (ht.run [] s1 (L2.start N vs) H _ I hq) (fun fl s' hs => ?_) fun _ _ z => z
  match fl, hs with
  | .ret _, ⟨v, _, H', J, rv, qv⟩ => exact ⟨v, H', J.os, J.bare, J.base, J.hok, rv, qv⟩
  | .next, ⟨_, H', J, qv⟩ => exact ⟨.non, H', J.os, J.bare, J.base, J.hok, rfl, qv⟩
  | .brk, ⟨_, _, _, qv⟩ => exact False.elim qv
  | .cont, ⟨_, _, _, qv⟩ => exact False.elim qv
theorem roomP {k : Nat} {A : Around} (r : Room k A) (h : Option Value) : L2H.RoomH k (A.mark h) := ⟨r.dp, r.un⟩
/-- as its callers know it -/
structure ClP (P : Program) (w : World) (K : PySem.W.Frag) (mg : Str → Option Value) (base : Heap) (k : Nat) (x : Str) (sp : Sp) (pe : Addr × Obj) : Prop where
  ex : ∃ (f : Addr) (fd : FuncData) (ps : List Str), FnP P w K mg base k f fd ps sp pe ∧ mg x = some (.ref f) ∧ PySem.W.keepIn K (.ref f) = true ∧ Binds K fd ps []
section
variable {X : Cx} {k : Nat} {x : Str} {sp : Sp} {pe : Addr × Obj} {q pos : Pos} {e : Expr} {es : List Expr} {t : TA}
theorem pcP (c : ClP X.prog X.w X.K X.mg X.base k x sp pe) (hr : L2H.RoomH k X.A) (hp : pe ∈ X.pn) (ha : PA X (e :: es) t) (hg : Gl X x := by rfl)
    (hdb : (x == ("__debug__" : Str)) = false := by decide) (he : starEach (e :: es) X.env = (false, eval e X.env) :: starEach es X.env := by rfl) (hpl : (backTo pos (starEach es X.env)).any (·.1) = false := by rfl) :
    PE X (.Call (.Name x q) (e :: es) [] pos) (tCall sp [] E0 t) := by
  obtain ⟨f, fd, ps, F, gm, kp, bd⟩ := c.ex
  refine ⟨fun pins s σ H Q I h => ?_⟩
  refine wpAny_Call_Name_kw (ld_glob I hg gm ?_ hdb)
  refine PySem.W.callWith_K (h₀ := X.base) I.ok.mod.kin kp (thn (ha.run pos pins s σ H _ I h) fun us s1 ⟨vs, H1, I1, r, hv⟩ => ⟨I1.kIn, ?_⟩) he hpl
  have hv : sp (vs ++ []) H1 Q E0 := hv
  rw [List.append_nil] at hv
  have hl : us.length = ps.length := by rw [← r.length]; exact F.len _ _ _ _ hv
  have b := bd s1 us I1.kIn (by rw [List.append_nil]; exact hl)
  rw [List.append_nil] at b
  have P1 := I1.pin pe (List.mem_append_left _ hp)
  have pin : L2H.PinOk X.stack H1 s1 pe := ⟨P1.1, P1.2.1, fun hm => (List.mem_cons.mp (I1.stkSub pe.1 hm)).elim P1.2.2.1 P1.2.2.2.1, P1.2.2.2.2⟩
  refine wpAny_call (codeAny_mono (F.run X.A X.stack s1 H1 ⟨us, []⟩ us vs Q _ hr pin I1.env0 b r hv) fun rr s' hq => ?_)
  match rr, hq with
  | .ok (.ret u), hq => exact I1.after hq
  | .ok .next, hq => exact False.elim hq
  | .ok .brk, hq => exact False.elim hq
  | .ok .cont, hq => exact False.elim hq
  | .error _, hq => exact False.elim hq
/-- isinstance(e, c), e an error that the context holds -/
theorem call_isP {a D : Addr} {oe : Obj} (C : ExcC X.K D) (hz : Zc (.ref D) none oe) (hf : ∃ vs, oe.data = .fields vs) (hp : (a, oe) ∈ X.pn) : CallR X (.builtin "isinstance") (rIsE X.K D a) := by
  intro pins s σ H xs us Q I rr hh
  obtain ⟨c, cv, b, rfl, hcv, ek, qq⟩ := hh
  obtain ⟨v1, v2, rfl, ra, rt⟩ := vals2 rr
  cases (show v1 = Value.ref a from ra)
  have ec := hcv _ rt
  subst ec
  obtain ⟨got, _⟩ := I.pin (a, oe) (List.mem_append_left _ hp)
  obtain ⟨fs, hv⟩ := hf
  have J : PySem.W.InstAt s.heap a oe D none := by
    obtain ⟨o1, o2, o3, o4⟩ := oe
    obtain ⟨w1, w2⟩ := hz
    dsimp only at w1 w2 hv
    subst w1 w2 hv
    exact ⟨got, rfl, rfl, trivial⟩
  exact PySem.W.kia_one (PySem.W.handS_kitx_exc C.hg C.hk C.hs C.hd C.ha C.hn C.ht C.hm) I.kIn J ek (fun z => nomatch z)
    fun tk => ⟨.bl b, H, I.kept (t' := tk) fun _ _ z => z, rfl, qq⟩
/-- l.count(True), of a list of truths -/
def isT : Value → Bool
  | .bool b => b
  | _ => false
theorem vals_bls : ∀ {bs : List Bool} {us : List Value}, Vals (bs.map V.bl) us → us = bs.map Value.bool
  | [], _, .nil => rfl
  | b :: bs, _, .cons h t => by
    have e : _ = Value.bool b := h
    rw [e, vals_bls t]
    rfl
theorem mt_countT : MtR X "list.count" (fun x xs H Q => ∃ (p : Addr) (bs : List Bool), x = .ref p ∧ xs = [.bl true] ∧ SqL X.K H p (bs.map V.bl) ∧ Q (.int (bs.count true : Nat)) H) := by
  intro pins s σ H x xs v us Q I rx rxs h
  obtain ⟨p, bs, rfl, rfl, hs, qq⟩ := h
  cases rx
  obtain ⟨u, rfl, ru⟩ := rxs.one
  cases (show u = Value.bool true from ru)
  obtain ⟨its, rv, ⟨⟨c1, d1, e1, sl⟩, n, ho, hc, _, hd⟩, _⟩ := I.list hs
  simp only at hc hd
  subst hc hd
  have ei := vals_bls rv
  subst ei
  refine call_meets PySem.F.slot_list_count ⟨_, ho, rfl⟩ PySem.F.entry_list_count (PySem.F.args_list_count_2 _ _)
    (SeqAt.list_countAt p (bs.map Value.bool).toArray n d1 sl (.bool true) isT) ⟨ho, fun y hy => ?_, ?_⟩
  · obtain ⟨b, _, rfl⟩ := List.mem_map.mp (show y ∈ bs.map Value.bool by simpa using hy)
    rw [show isT (.bool b) = (b == true) by cases b <;> rfl]
    exact SeqAt.EqAt.bool_bool b true
  · have ec : (bs.map Value.bool).toArray.toList.countP isT = bs.count true := by
      rw [List.toList_toArray, List.countP_map]
      exact List.countP_congr fun b _ => by cases b <;> decide
    refine ⟨.int (bs.count true : Nat), H, I.tok _, ⟨s.toks, ?_⟩, qq⟩
    show Value.int (((bs.map Value.bool).toArray.toList.countP isT : Nat) : Int) s.toks = Value.int ((bs.count true : Nat) : Int) s.toks
    rw [ec]
end
end SS
namespace SS
open PySem PySem.Spec PyProof.Rows L2
/-! ### the least of texts -/
theorem nltT : ∀ (a b c : List Nat), ltCps b a = false → ltCps c b = false → ltCps c a = false
  | [], _, [], _, _ => rfl
  | [], [], _ :: _, _, _ => rfl
  | [], _ :: _, _ :: _, _, _ => rfl
  | a :: as, [], c, h, _ => by simp [ltCps] at h
  | a :: as, b :: bs, [], _, h => by simp [ltCps] at h
  | a :: as, b :: bs, c :: cs, h1, h2 => by
    have ih := nltT as bs cs
    simp only [ltCps, Bool.or_eq_false_iff, decide_eq_false_iff_not, Bool.and_eq_false_imp, beq_iff_eq] at h1 h2 ⊢
    refine ⟨by omega, fun e => ?_⟩
    have e1 : b = a := by omega
    have e2 : c = b := by omega
    exact ih (h1.2 e1) (h2.2 e2)
theorem nltA : ∀ (a b : List Nat), ltCps b a = false → ltCps a b = false → a = b
  | [], [], _, _ => rfl
  | [], b :: bs, _, h => by simp [ltCps] at h
  | a :: as, [], h, _ => by simp [ltCps] at h
  | a :: as, b :: bs, h1, h2 => by
    have ih := nltA as bs
    simp only [ltCps, Bool.or_eq_false_iff, decide_eq_false_iff_not, Bool.and_eq_false_imp, beq_iff_eq] at h1 h2
    have e : a = b := by omega
    rw [e, ih (h1.2 e.symm) (h2.2 e)]
theorem ltIrr : ∀ (a : List Nat), ltCps a a = false
  | [] => rfl
  | a :: as => by simp [ltCps, ltIrr as]
theorem ltNot : ∀ (a b : List Nat), ltCps a b = true → ltCps b a = false
  | [], [], h => by simp [ltCps] at h
  | [], _ :: _, _ => rfl
  | _ :: _, [], h => by simp [ltCps] at h
  | a :: as, b :: bs, h => by
    have ih := ltNot as bs
    simp only [ltCps, Bool.or_eq_true, decide_eq_true_eq, Bool.and_eq_true, beq_iff_eq, Bool.or_eq_false_iff, decide_eq_false_iff_not, Bool.and_eq_false_imp] at h ⊢
    rcases h with h | h
    · exact ⟨by omega, fun e => by omega⟩
    · exact ⟨by omega, fun _ => ih h.2⟩
def leS (a b : Str) : Prop := ltCps b.cps.toList a.cps.toList = false
theorem leS_anti {a b : Str} (h1 : leS a b) (h2 : leS b a) : a = b := by
  have e := nltA _ _ h1 h2
  cases a
  cases b
  congr 1
  exact Array.toList_inj.mp e
theorem best_txt (t : Nat → Str) : ∀ k, argBest (fun i j => ltCps (t i).cps.toList (t j).cps.toList) k ≤ k ∧ ∀ j, j ≤ k → leS (t (argBest (fun i j => ltCps (t i).cps.toList (t j).cps.toList) k)) (t j)
  | 0 => ⟨Nat.le_refl _, fun j hj => by
      rw [show j = 0 by omega]
      exact ltIrr _⟩
  | k + 1 => by
    obtain ⟨a, b⟩ := best_txt t k
    simp only [argBest]
    split
    · rename_i c
      refine ⟨Nat.le_refl _, fun j hj => ?_⟩
      rcases Nat.lt_or_ge j (k + 1) with z | z
      · exact nltT _ _ _ (ltNot _ _ c) (b j (by omega))
      · rw [show j = k + 1 by omega]
        exact ltIrr _
    · rename_i c
      refine ⟨by omega, fun j hj => ?_⟩
      rcases Nat.lt_or_ge j (k + 1) with z | z
      · exact b j (by omega)
      · rw [show j = k + 1 by omega]
        exact Bool.eq_false_iff.mpr c
section
variable {X : Cx}
/-- min(d), d a dict whose keys are texts -/
def rMinT : List V → Hp → VK → Prop := fun vs H Q => ∃ (a : Addr) (kvs : List (Key × V)) (ts : List Str), vs = [V.ref a] ∧ H a = some (.dK kvs) ∧ kvs.map (·.1) = ts.map Sum.inr ∧ ts ≠ [] ∧ ∀ m ∈ ts, (∀ j ∈ ts, leS m j) → Q (.str m) H
theorem cr_minT (hc : X.calm = true) : CallR X (.builtin "min") rMinT := by
  rintro pins s σ H _ us Q I r ⟨a, kvs, ts, rfl, ha, hk, ne, q⟩
  obtain ⟨_, sysOk, es, rel, dof⟩ := dk_of I.hok ha
  obtain ⟨ep, at'⟩ := dof.dictAt
  have isz : a < s.heap.objs.size := by
    obtain ⟨_, _, z, _⟩ := id at'
    exact Heap.lt_size z
  have ks : es.map (·.1) = ts.map Sum.inr := by rw [← KV.keys rel, hk]
  have ln : es.length = ts.length := by simpa using congrArg List.length ks
  have shape : ∀ (i : Nat) (v : Value), (∃ k x, es[i]? = some (k, x) ∧ (mixKind X.prog X.w).is k v = true) → ∃ u, v = Value.str (ts.getD i "") u := by
    rintro i v ⟨k, x, e1, e2⟩
    have e3 : (ts.map Sum.inr)[i]? = some k := by
      rw [← ks, List.getElem?_map, e1]
      rfl
    rw [List.getElem?_map] at e3
    cases e4 : ts[i]? with
    | none =>
      rw [e4] at e3
      cases e3
    | some t =>
      rw [e4] at e3
      cases e3
      have e2 : keyIs (.inr t) v = true := e2
      rcases keyIs_shape e2 with ⟨_, _, z, _⟩ | ⟨y, u, z, e5⟩
      · cases z
      · cases z
        refine ⟨u, ?_⟩
        rw [e5, List.getD_eq_getElem?_getD, e4]
        rfl
  have cmp : CmpOf X.prog X.w X.A.in1 .Lt (fun i v => ∃ k x, es[i]? = some (k, x) ∧ (mixKind X.prog X.w).is k v = true) (fun i j => ltCps (ts.getD i "").cps.toList (ts.getD j "").cps.toList) := by
    intro i j vi vj s' Q' E' hi hj hQ
    obtain ⟨u, rfl⟩ := shape i vi hi
    obtain ⟨u', rfl⟩ := shape j vj hj
    refine lt_str ?_
    rw [show (decide ((ts.getD i "").cps.toList < (ts.getD j "").cps.toList)) = ltCps (ts.getD i "").cps.toList (ts.getD j "").cps.toList from (ltCps_eq _ _).symm]
    exact hQ
  obtain ⟨b1, b2⟩ := best_txt (fun i => ts.getD i "") (es.length - 1)
  have pos : 0 < ts.length := List.length_pos_iff.mpr ne
  rw [Vals.ref1 r]
  refine call_min_walk (wpAny_pyIter_dict (knd := mixKind X.prog X.w) sysOk at' ⟨_, _, _, _, _, _, _, rfl, Walks.dictKeys (knd := mixKind X.prog X.w) (A := X.A.in1) (I.ok.hd hc) s.heap.objs.size a (Nat.ne_of_lt isz) es ep,
    ⟨⟨_, Heap.get?_push_size _ rfl, rfl, rfl⟩, at'.keep fun b u e => Heap.get?_push_of_some _ e⟩, fun b hb => ?_, by omega, cmp, fun v h' tk hP keep => ?_⟩)
  · show b < (s.heap.push _).objs.size
    rw [Heap.size_push]
    rcases List.mem_cons.mp hb with z | z
    · rw [z]
      exact Nat.lt_succ_self _
    · rw [List.mem_singleton.mp z]
      exact Nat.lt_succ_of_lt isz
  · obtain ⟨u, rfl⟩ := shape _ v hP
    refine ⟨.str _, H, I.kept (t' := tk) fun b o e => keep b o (fun z => ?_) (Heap.get?_push_of_some _ e), ⟨u, rfl⟩, q _ ?_ fun t ht => ?_⟩
    · rw [List.mem_singleton.mp z] at e
      exact absurd (Heap.lt_size e) (Nat.lt_irrefl _)
    · have lt : argBest (fun i j => ltCps (ts.getD i "").cps.toList (ts.getD j "").cps.toList) (es.length - 1) < ts.length := by omega
      rw [List.getD_eq_getElem?_getD, List.getElem?_eq_getElem lt]
      exact List.getElem_mem lt
    · obtain ⟨i, il, e⟩ := List.mem_iff_getElem.mp ht
      have e2 : ts.getD i "" = t := by
        rw [List.getD_eq_getElem?_getD, List.getElem?_eq_getElem il, ← e]
        rfl
      rw [← e2]
      exact b2 i (by omega)
end
end SS
namespace SS
open PySem PySem.Spec PyProof.Rows L2
theorem star_items {prog : Program} {w : World} {A : Around} {E : Value → Shared → Prop} {s : Shared} {l : Addr} {x : Value} {xs : List Value} {Q : List Value → Shared → Prop} (hh : A.handled = none) (hl : s.heap.IsList l (x :: xs).toArray) (hz : xs.length ≤ 16000)
    (hQ : ∀ (h' : Heap) (tk : Tok), (∀ b o, b ≠ s.heap.objs.size → s.heap.get? b = some o → h'.get? b = some o) → Q [x, .ref h'.objs.size] { s with heap := h'.push { cls := .type "list", data := .seq xs.toArray }, toks := tk }) : wpAny (model prog w) A (unpackItems (.ref l) 2 (some 1)) Q E s := by
  have hlt : l ≠ s.heap.objs.size := by obtain ⟨o, ho, _⟩ := hl; exact Nat.ne_of_lt (Heap.lt_size ho)
  unfold unpackItems
  refine wpAny_bind ?_
  unfold notIterableAtAll
  refine wpAny_bind (wpAny_specialOf hl.typeIs PySem.F.slot_list_iter.lookup ?_)
  refine wpAny_pure ?_
  simp only [Bool.false_eq_true, if_false]
  refine wpAny_bind (wpAny_holding (wpAny_pyIter_list hl ?_))
  refine wpAny_bind (wpAny_holding (PySem.W.kun_draw hlt 1 0 _ _ ⟨_, Heap.get?_push_size _ rfl, rfl, rfl⟩ (hl.push _) (by simp) fun h₁ hit₁ hs₁ => ?_))
  have hl₁ : h₁.IsList l (x :: xs).toArray := (hl.push _).extBut hs₁.extBut hlt
  rw [Nat.zero_add] at hit₁
  have hit₁' := hit₁
  obtain ⟨oi, hoi, _⟩ := hit₁'
  have hl₁' := hl₁
  obtain ⟨ol, hol, _⟩ := hl₁'
  have ef : List.take 1 (List.drop 0 (x :: xs).toArray.toList) = [x] := by simp
  rw [ef]
  show wpAny _ _ (if ([x] : List Value).length < 1 then _ else _) _ _ _
  rw [if_neg (by simp)]
  refine wpAny_bind (wpAny_holding (PySem.W.kun_collect (s := { s with heap := h₁ }) (T := "list_iterator") (.inr (.inr (.inl rfl))) (Walks.list (A := A.in1) hh s.heap.objs.size l hlt (x :: xs).toArray) (fun j u st => st.1.typeIs) (k := 1) (by simp) ⟨hit₁, hl₁⟩ (Heap.lt_size hoi) (Heap.lt_size hol) (fun h₂ tk hk => ?_) (by rw [sizeLine_eq]; simp; omega)))
  have er : List.drop 1 (x :: xs).toArray.toList = xs := by simp
  rw [er]
  show wpAny _ _ (if xs.length < 2 - 1 - 1 then _ else _) _ _ _
  rw [if_neg (by simp)]
  show wpAny _ _ (newList (xs.take (xs.length - (2 - 1 - 1))) >>= fun d => pure ([x] ++ [d] ++ xs.drop (xs.length - (2 - 1 - 1)))) _ _ _
  have e1 : xs.take (xs.length - (2 - 1 - 1)) = xs := by simp
  have e2 : xs.drop (xs.length - (2 - 1 - 1)) = [] := by simp
  rw [e1, e2]
  refine wpAny_bind (wpAny_newList (wpAny_pure ?_) (by rw [sizeLine_eq]; omega))
  exact hQ h₂ tk fun b o hb e => hk b o hb (hs₁.extBut b o hb (Heap.get?_push_of_some _ e))
section
variable {X : Cx} {pos p : Pos}
/-- a, *b = a list of one or more -/
def gStar (K : PySem.W.Frag) (t : TGs) : TG := fun v σ H Q => ∃ a x xs, v = .ref a ∧ SqL K H a (x :: xs) ∧ xs.length ≤ 16000 ∧ ∀ D, H D = none → t [x, .ref D] σ (upd H D (.lst xs)) Q
theorem pg_star {e1 e2 : Expr} {k : Nat} {t : TGs} (hc : X.calm = true) (h : PGs X [e1, e2] t)
    (hn : (assignEach [e1, .Starred e2 p] X.env).length = 2 := by rfl) (hst : (assignEach [e1, .Starred e2 p] X.env).findIdx? (·.1) = some 1 := by rfl) (hm : (assignEach [e1, .Starred e2 p] X.env).map (·.2) = (assignEach [e1, e2] X.env).map (·.2) := by rfl) : PG X (.Tuple [e1, .Starred e2 p] k pos) (gStar X.K t) := by
  refine ⟨fun pins s σ H v u Q I r hw => ?_⟩
  obtain ⟨a, x, xs, e1', hq, hl, hw⟩ := hw
  subst e1'
  cases r
  obtain ⟨its, rv, pl, hz⟩ := I.list hq
  cases rv with
  | @cons _ y _ ys r0 rv =>
  have hl' : s.heap.IsList a (y :: ys).toArray := by
    obtain ⟨o, m, e, c, d, q⟩ := pl
    exact ⟨o, e, c, m, q⟩
  rw [PyProof.Rows.assign_Tuple]
  refine wpAny_bind (wpAny_standAt ?_)
  unfold unpack
  rw [hn, hst, hm]
  refine wpAny_bind (wpAny_holding (star_items (I.ok.hd hc) hl' (by rw [← rv.length]; exact hl) fun h' tk hx => ?_))
  have I1 : Inv X pins σ H { s with heap := h', toks := tk } := I.kept (t' := tk) fun b o e => hx b o (Nat.ne_of_lt (Heap.lt_size e)) e
  have hf : H h'.objs.size = none := I1.hok.fresh (Nat.le_refl _)
  have I2 := I1.laid (t' := tk) (o := .lst xs) (h' := h'.push { cls := .type "list", data := .seq ys.toArray }) (fun b u e => Heap.get?_push_of_some _ e) (Nat.le_refl _) ⟨by rw [sizeLine_eq]; omega, ys, 0, rv, Heap.get?_push_size _ rfl⟩
  exact h.run pins _ σ _ [x, .ref h'.objs.size] _ Q I2 (.cons r0 (.cons rfl .nil)) (hw _ hf)
end
end SS
namespace SS
open PySem PySem.Spec PyProof.Rows L2 TL NumText
/-! ### fractions as texts -/
def digB (l : List Nat) : Bool := l.all fun c => decide (48 ≤ c) && decide (c ≤ 57)
def wokB (l : List Nat) : Bool := decide (1 ≤ l.length) && decide (l.length ≤ 30) && digB l
def leadB (l : List Nat) : Bool := decide (l.head? = some 48) && decide (1 < l.length)
def figs (l : List Nat) : Option Nat := if (wokB l && !leadB l) = true then some (digitsVal l) else none
theorem digB_iff {l : List Nat} : digB l = true ↔ AllDigits l := by
  unfold digB AllDigits
  rw [List.all_eq_true]
  refine ⟨fun h c hc => ?_, fun h c hc => ?_⟩
  · have z := h c hc
    rw [Bool.and_eq_true, decide_eq_true_iff, decide_eq_true_iff] at z
    exact z
  · rw [Bool.and_eq_true, decide_eq_true_iff, decide_eq_true_iff]
    exact h c hc
theorem wokB_iff {l : List Nat} : wokB l = true ↔ 1 ≤ l.length ∧ l.length ≤ 30 ∧ AllDigits l := by
  unfold wokB
  rw [Bool.and_eq_true, Bool.and_eq_true, decide_eq_true_iff, decide_eq_true_iff, digB_iff, and_assoc]
theorem dv_snoc (l : List Nat) (c : Nat) : digitsVal (l ++ [c]) = digitsVal l * 10 + (c - 48) := by
  unfold digitsVal
  rw [List.foldl_append]
  rfl
theorem snoc_ind {p : List Nat → Prop} (h0 : p []) (hs : ∀ l c, p l → p (l ++ [c])) (l : List Nat) : p l := by
  rw [← List.reverse_reverse l]
  induction l.reverse with
  | nil => exact h0
  | cons c r ih =>
    rw [List.reverse_cons]
    exact hs _ _ ih
theorem dgv_lt (l : List Nat) : AllDigits l → digitsVal l < 10 ^ l.length := by
  refine snoc_ind (p := fun l => AllDigits l → digitsVal l < 10 ^ l.length) (fun _ => by decide) (fun l c ih h => ?_) l
  have z := ih fun x hx => h x (List.mem_append_left _ hx)
  have y := h c (List.mem_append_right _ List.mem_cons_self)
  rw [dv_snoc, List.length_append, show [c].length = 1 from rfl, Nat.pow_succ]
  omega
theorem num_self (l : List Nat) : AllDigits l → l ≠ [] → (l.head? ≠ some 48 → numL (digitsVal l) = l ∧ 1 ≤ digitsVal l) := by
  refine snoc_ind (p := fun l => AllDigits l → l ≠ [] → (l.head? ≠ some 48 → numL (digitsVal l) = l ∧ 1 ≤ digitsVal l)) (fun _ z => absurd rfl z) (fun l c ih h _ hd => ?_) l
  have y := h c (List.mem_append_right _ List.mem_cons_self)
  have dl : AllDigits l := fun x hx => h x (List.mem_append_left _ hx)
  rw [dv_snoc]
  by_cases e : l = []
  · subst e
    have hc : c ≠ 48 := fun z => hd (by rw [z]; rfl)
    have e0 : digitsVal [] * 10 + (c - 48) = c - 48 := by
      show 0 * 10 + (c - 48) = c - 48
      omega
    rw [e0, numL_lt (by omega), show 48 + (c - 48) = c by omega]
    exact ⟨rfl, by omega⟩
  · have hd' : l.head? ≠ some 48 := fun z => hd (by
      cases l with
      | nil => exact absurd rfl e
      | cons a r => exact z)
    obtain ⟨i1, i2⟩ := ih dl e hd'
    rw [numL_step (by omega), show (digitsVal l * 10 + (c - 48)) / 10 = digitsVal l by omega, show 48 + (digitsVal l * 10 + (c - 48)) % 10 = c by omega, i1]
    exact ⟨rfl, by omega⟩
theorem num_head (n : Nat) : 1 < (numL n).length → (numL n).head? ≠ some 48 := by
  induction n using Nat.strongRecOn with
  | _ n ih =>
    intro h
    by_cases c : n < 10
    · rw [numL_lt c] at h
      exact absurd h (by simp)
    · rw [numL_step (by omega)]
      have hh : (numL (n / 10) ++ [48 + n % 10]).head? = (numL (n / 10)).head? := by
        cases e : numL (n / 10) with
        | nil => exact absurd e (numL_ne _)
        | cons a r => rfl
      rw [hh]
      by_cases c2 : n / 10 < 10
      · rw [numL_lt c2]
        intro z
        have z2 : 48 + n / 10 = 48 := Option.some.inj z
        omega
      · refine ih (n / 10) (by omega) ?_
        rw [numL_step (by omega), List.length_append]
        have := List.length_pos_iff.mpr (numL_ne (n / 10 / 10))
        show 1 < _ + 1
        omega
/-- written again it is the very text just where it has no needless nought -/
theorem num_fig {l : List Nat} (h : AllDigits l) (ne : l ≠ []) : numL (digitsVal l) = l ↔ leadB l = false := by
  unfold leadB
  refine ⟨fun e => ?_, fun e => ?_⟩
  · by_cases c : 1 < l.length
    · have z := num_head (digitsVal l) (by rw [e]; exact c)
      rw [e] at z
      rw [decide_eq_false z]
      rfl
    · rw [decide_eq_false c, Bool.and_false]
  · by_cases c : l.head? = some 48
    · rw [decide_eq_true c, Bool.true_and, decide_eq_false_iff_not] at e
      cases l with
      | nil => exact absurd rfl ne
      | cons a r =>
        cases r with
        | nil =>
          have ea : a = 48 := Option.some.inj c
          rw [ea]
          decide
        | cons b r => exact absurd (by simp) e
    · exact (num_self l h ne c).1
theorem dv_zero {l : List Nat} (h : AllDigits l) (ne : l ≠ []) (hl : leadB l = false) : digitsVal l = 0 ↔ l = [48] := by
  have z := (num_fig h ne).mpr hl
  refine ⟨fun e => ?_, fun e => by rw [e]; decide⟩
  rw [e] at z
  rw [← z]
  decide
/-- the signs of a whole number -/
def zL (n : Int) : List Nat := if n < 0 then 45 :: numL n.natAbs else numL n.natAbs
theorem tl_int (n : Int) : tl (Str.ofString (toString n)) = zL n := by
  cases n with
  | ofNat m =>
    have z := tl_num m
    rw [show ((m : Nat) : Int) = Int.ofNat m from rfl] at z
    rw [z]
    unfold zL
    have h0 : ¬ Int.ofNat m < 0 := Int.not_lt.mpr (Int.natCast_nonneg m)
    rw [if_neg h0]
    rfl
  | negSucc m =>
    have e : toString (Int.negSucc m) = "-" ++ toString (((m + 1 : Nat) : Nat) : Int) := rfl
    rw [e, tl_ofString, String.toList_append, List.map_append, ← tl_ofString (toString (((m + 1 : Nat) : Nat) : Int)), tl_num]
    unfold zL
    rw [if_pos (by omega)]
    rfl
def ngB (l : List Nat) : Bool := decide (l.head? = some 45)
def bare (l : List Nat) : List Nat := if ngB l = true then l.tail else l
def sg (b : Bool) (n : Nat) : Int := if b = true then -(n : Int) else (n : Int)
/-- the fraction that a text writes -/
def rdL (ng : Bool) : List (Option Nat) → Option (Int × Int)
  | [some n] => if (ng && decide (n = 0)) = true then none else some (sg ng n, 1)
  | [some n, some d] => if (decide (d < 2) || decide (Nat.gcd n d ≠ 1) || (ng && decide (n = 0))) = true then none else some (sg ng n, (d : Int))
  | _ => none
def rd (l : List Nat) : Option (Int × Int) := rdL (ngB l) ((spl [47] 0 [] (bare l)).map figs)
/-- with its sign ahead -/
def lead (ng : Bool) (u : List Nat) : List Nat := if ng = true then 45 :: u else u
theorem lead_bare (l : List Nat) : lead (ngB l) (bare l) = l := by
  unfold lead bare ngB
  by_cases c : l.head? = some 45
  · rw [decide_eq_true c, if_pos rfl, if_pos rfl]
    cases l with
    | nil => cases c
    | cons a r =>
      have : a = 45 := Option.some.inj c
      rw [this]
      rfl
  · rw [decide_eq_false c]
    rfl
theorem cut47 (u : List Nat) : 47 ∉ u ∨ ∃ a b, u = a ++ 47 :: b ∧ 47 ∉ a := by
  induction u with
  | nil => exact .inl List.not_mem_nil
  | cons c r ih =>
    by_cases e : c = 47
    · exact .inr ⟨[], r, by rw [e]; rfl, List.not_mem_nil⟩
    · rcases ih with h | ⟨a, b, rfl, h⟩
      · exact .inl fun z => by
          rcases List.mem_cons.mp z with z | z
          · exact e z.symm
          · exact h z
      · refine .inr ⟨c :: a, b, rfl, fun z => ?_⟩
        rcases List.mem_cons.mp z with z | z
        · exact e z.symm
        · exact h z
theorem spl47_one {u : List Nat} (h : 47 ∉ u) : spl [47] 0 [] u = [u] := by
  have z := spl_last1 (S := []) (acc := []) h
  rw [List.nil_append] at z
  exact z
theorem spl47_cut {a b : List Nat} (h : 47 ∉ a) : spl [47] 0 [] (a ++ 47 :: b) = a :: spl [47] 0 [] b := by
  have z := spl_part1 (S := []) (acc := []) (rest := b) h
  rw [List.nil_append] at z
  exact z
theorem par47_none {u : List Nat} (h : 47 ∉ u) : par [47] [] u = none := par_none1 (S := []) h
theorem par47_cut {a b : List Nat} (h : 47 ∉ a) : par [47] [] (a ++ 47 :: b) = some (a, b) := by
  have z := par_part1 (S := []) (acc := []) (rest := b) h
  rw [List.nil_append] at z
  exact z
theorem spl_pos (u : List Nat) : 1 ≤ (spl [47] 0 [] u).length := by
  rcases cut47 u with h | ⟨a, b, rfl, h⟩
  · rw [spl47_one h]
    exact Nat.le_refl 1
  · rw [spl47_cut h]
    simp
theorem dig_no {l : List Nat} (h : AllDigits l) {c : Nat} (hc : c < 48 ∨ 57 < c) : c ∉ l := fun m => by
  have z := h c m
  omega
theorem zsg_nat {ng : Bool} {n : Nat} {u : List Nat} (hd : AllDigits u) (ne : u ≠ []) : zL (sg ng n) = lead ng u ↔ numL n = u ∧ ¬ (ng = true ∧ n = 0) := by
  cases ng with
  | false =>
    show zL (n : Int) = u ↔ _
    unfold zL
    rw [if_neg (by omega), Int.natAbs_natCast]
    exact ⟨fun e => ⟨e, fun z => Bool.noConfusion z.1⟩, fun e => e.1⟩
  | true =>
    show zL (-(n : Int)) = 45 :: u ↔ _
    unfold zL
    by_cases c : n = 0
    · subst c
      refine ⟨fun e => ?_, fun e => absurd ⟨rfl, rfl⟩ e.2⟩
      exfalso
      rw [if_neg (by decide)] at e
      have z : numL 0 = [48] := by decide
      rw [show (-((0 : Nat) : Int)).natAbs = 0 from rfl, z] at e
      have z2 := (List.cons.inj e).1
      exact absurd z2 (by decide)
    · rw [if_pos (by omega), show (-(n : Int)).natAbs = n by omega]
      exact ⟨fun e => ⟨(List.cons.inj e).2, fun z => c z.2⟩, fun e => by rw [e.1]⟩
/-- no stroke -/
theorem rd_one {l : List Nat} (h : 47 ∉ bare l) (w : wokB (bare l) = true) : (zL (sg (ngB l) (digitsVal (bare l))) = l → rd l = some (sg (ngB l) (digitsVal (bare l)), 1)) ∧ (zL (sg (ngB l) (digitsVal (bare l))) ≠ l → rd l = none) := by
  obtain ⟨w1, w2, w3⟩ := wokB_iff.mp w
  have ne : bare l ≠ [] := List.length_pos_iff.mp w1
  have er : rd l = rdL (ngB l) [figs (bare l)] := by
    unfold rd
    rw [spl47_one h]
    rfl
  have z := zsg_nat (ng := ngB l) (n := digitsVal (bare l)) w3 ne
  rw [lead_bare, num_fig w3 ne] at z
  rw [er]
  unfold figs
  rw [w, Bool.true_and]
  constructor
  · intro e
    obtain ⟨z1, z2⟩ := z.mp e
    rw [z1]
    show (if (ngB l && decide (digitsVal (bare l) = 0)) = true then none else _) = _
    rw [if_neg fun y => z2 (by rw [Bool.and_eq_true, decide_eq_true_iff] at y; exact y)]
  · intro e
    cases c : leadB (bare l) with
    | true => rfl
    | false =>
      show (if (ngB l && decide (digitsVal (bare l) = 0)) = true then none else _) = _
      rw [if_pos]
      rw [Bool.and_eq_true, decide_eq_true_iff]
      exact Classical.byContradiction fun y => e (z.mpr ⟨c, y⟩)
theorem rd_one_no {l : List Nat} (h : 47 ∉ bare l) (w : wokB (bare l) = false) : rd l = none := by
  unfold rd
  rw [spl47_one h]
  show rdL (ngB l) [figs (bare l)] = none
  unfold figs
  rw [w]
  rfl
theorem rd_two_no {l a b : List Nat} (e : bare l = a ++ 47 :: b) (h : 47 ∉ a) (w : wokB a = false ∨ wokB b = false) : rd l = none := by
  unfold rd
  rw [e, spl47_cut h]
  rcases cut47 b with hb | ⟨b1, b2, rfl, hb⟩
  · rw [spl47_one hb]
    show rdL (ngB l) [figs a, figs b] = none
    rcases w with w | w
    · unfold figs
      rw [w]
      rfl
    · unfold figs
      rw [w]
      cases (if (wokB a && !leadB a) = true then some (digitsVal a) else none) <;> rfl
  · rw [spl47_cut hb]
    have p := spl_pos b2
    cases es : spl [47] 0 [] b2 with
    | nil =>
      rw [es] at p
      exact absurd p (by decide)
    | cons x r =>
      show rdL (ngB l) (figs a :: figs b1 :: figs x :: _) = none
      cases figs a <;> cases figs b1 <;> rfl
theorem split47 {a b c d : List Nat} (ha : 47 ∉ a) (hc : 47 ∉ c) (e : a ++ 47 :: b = c ++ 47 :: d) : a = c ∧ b = d := by
  have z1 := par47_cut (b := b) ha
  rw [e, par47_cut hc] at z1
  have z2 := Option.some.inj z1
  exact ⟨(Prod.mk.inj z2).1.symm, (Prod.mk.inj z2).2.symm⟩
theorem lead_app (ng : Bool) (a b : List Nat) : lead ng (a ++ b) = lead ng a ++ b := by
  cases ng <;> rfl
theorem zL_no (n : Int) : 47 ∉ zL n := by
  unfold zL
  split
  · intro z
    rcases List.mem_cons.mp z with z | z
    · exact absurd z (by decide)
    · exact numL_free (.inl (by decide)) z
  · exact numL_free (.inl (by decide))
theorem lead_no {ng : Bool} {a : List Nat} (h : 47 ∉ a) : 47 ∉ lead ng a := by
  cases ng with
  | false => exact h
  | true =>
    intro z
    rcases List.mem_cons.mp z with z | z
    · exact absurd z (by decide)
    · exact h z
/-- how a fraction is written -/
def fL (N : Int × Int) : List Nat := if N.2 = 1 then zL N.1 else zL N.1 ++ 47 :: zL N.2
/-- a stroke -/
theorem rd_two {l a b : List Nat} (e : bare l = a ++ 47 :: b) (wa : wokB a = true) (wb : wokB b = true) {p q : Nat} (d0 : digitsVal b ≠ 0) (hp : p * Nat.gcd (digitsVal a) (digitsVal b) = digitsVal a) (hq : q * Nat.gcd (digitsVal a) (digitsVal b) = digitsVal b) :
    (fL (sg (ngB l) p, (q : Int)) = l → rd l = some (sg (ngB l) p, (q : Int))) ∧ (fL (sg (ngB l) p, (q : Int)) ≠ l → rd l = none) := by
  obtain ⟨a1, a2, a3⟩ := wokB_iff.mp wa
  obtain ⟨b1, b2, b3⟩ := wokB_iff.mp wb
  have na : a ≠ [] := List.length_pos_iff.mp a1
  have nb : b ≠ [] := List.length_pos_iff.mp b1
  have ha : 47 ∉ a := dig_no a3 (.inl (by decide))
  have hb : 47 ∉ b := dig_no b3 (.inl (by decide))
  have el : l = lead (ngB l) a ++ 47 :: b := by
    have z := lead_bare l
    rw [e, lead_app] at z
    exact z.symm
  have er : rd l = rdL (ngB l) [figs a, figs b] := by
    unfold rd
    rw [e, spl47_cut ha, spl47_one hb]
    rfl
  have g0 : 0 < Nat.gcd (digitsVal a) (digitsVal b) := Nat.gcd_pos_of_pos_right _ (by omega)
  have q0 : 0 < q := Nat.pos_of_ne_zero fun z => by
    rw [z, Nat.zero_mul] at hq
    exact d0 hq.symm
  have eqv : fL (sg (ngB l) p, (q : Int)) = l ↔ leadB a = false ∧ leadB b = false ∧ ¬ digitsVal b < 2 ∧ Nat.gcd (digitsVal a) (digitsVal b) = 1 ∧ ¬ (ngB l = true ∧ digitsVal a = 0) := by
    constructor
    · intro f
      unfold fL at f
      by_cases c : (q : Int) = 1
      · rw [if_pos c] at f
        exfalso
        have z := zL_no (sg (ngB l) p)
        have f' : zL (sg (ngB l) p) = l := f
        rw [f', el] at z
        exact z (List.mem_append_right _ List.mem_cons_self)
      · rw [if_neg c] at f
        have f' : zL (sg (ngB l) p) ++ 47 :: zL (q : Int) = lead (ngB l) a ++ 47 :: b := f.trans el
        obtain ⟨f1, f2⟩ := split47 (zL_no _) (lead_no ha) f'
        obtain ⟨f3, f4⟩ := (zsg_nat a3 na).mp f1
        have f5 : numL q = b := by
          unfold zL at f2
          rw [if_neg (by omega), Int.natAbs_natCast] at f2
          exact f2
        have v1 : p = digitsVal a := by rw [← f3, numL_val]
        have v2 : q = digitsVal b := by rw [← f5, numL_val]
        have g1 : Nat.gcd (digitsVal a) (digitsVal b) = 1 := by
          rw [← v2] at hq
          have z : q * Nat.gcd (digitsVal a) q = q * 1 := by rw [Nat.mul_one]; exact hq
          have z2 := Nat.eq_of_mul_eq_mul_left q0 z
          rw [← v2]
          exact z2
        refine ⟨(num_fig a3 na).mp (by rw [← v1]; exact f3), (num_fig b3 nb).mp (by rw [← v2]; exact f5), by omega, g1, ?_⟩
        rw [← v1]
        exact f4
    · rintro ⟨c1, c2, c3, c4, c5⟩
      rw [c4, Nat.mul_one] at hp hq
      subst hp hq
      unfold fL
      rw [if_neg (by show ¬ (digitsVal b : Int) = 1; omega)]
      show zL (sg (ngB l) (digitsVal a)) ++ 47 :: zL (digitsVal b : Int) = l
      rw [(zsg_nat a3 na).mpr ⟨(num_fig a3 na).mpr c1, c5⟩]
      have z : zL (digitsVal b : Int) = b := by
        unfold zL
        rw [if_neg (by omega), Int.natAbs_natCast]
        exact (num_fig b3 nb).mpr c2
      rw [z]
      exact el.symm
  rw [er]
  constructor
  · intro f
    obtain ⟨c1, c2, c3, c4, c5⟩ := eqv.mp f
    have hp' := hp
    have hq' := hq
    rw [c4, Nat.mul_one] at hp' hq'
    unfold figs
    rw [wa, wb, c1, c2]
    show (if (decide (digitsVal b < 2) || decide (Nat.gcd (digitsVal a) (digitsVal b) ≠ 1) || (ngB l && decide (digitsVal a = 0))) = true then none else _) = _
    rw [if_neg, hp', hq']
    rw [Bool.or_eq_true, Bool.or_eq_true, Bool.and_eq_true, decide_eq_true_iff, decide_eq_true_iff, decide_eq_true_iff]
    rintro ((z | z) | z)
    · exact c3 z
    · exact z c4
    · exact c5 z
  · intro f
    unfold figs
    rw [wa, wb]
    cases c1 : leadB a with
    | true => cases leadB b <;> rfl
    | false =>
      cases c2 : leadB b with
      | true => rfl
      | false =>
        show (if (decide (digitsVal b < 2) || decide (Nat.gcd (digitsVal a) (digitsVal b) ≠ 1) || (ngB l && decide (digitsVal a = 0))) = true then none else _) = _
        rw [if_pos]
        rw [Bool.or_eq_true, Bool.or_eq_true, Bool.and_eq_true, decide_eq_true_iff, decide_eq_true_iff, decide_eq_true_iff]
        exact Classical.byContradiction fun y => f (eqv.mpr ⟨c1, c2, fun z => y (.inl (.inl z)), Classical.byContradiction fun z => y (.inl (.inr z)), fun z => y (.inr z)⟩)
theorem rd_two_0 {l a b : List Nat} (e : bare l = a ++ 47 :: b) (h : 47 ∉ a) (wb : wokB b = true) (d0 : digitsVal b = 0) : rd l = none := by
  by_cases wa : wokB a = true
  · obtain ⟨b1, b2, b3⟩ := wokB_iff.mp wb
    unfold rd
    rw [e, spl47_cut h, spl47_one (dig_no b3 (.inl (by decide)))]
    show rdL (ngB l) [figs a, figs b] = none
    unfold figs
    rw [wa, wb]
    cases leadB a with
    | true => cases leadB b <;> rfl
    | false =>
      cases leadB b with
      | true => rfl
      | false =>
        show (if (decide (digitsVal b < 2) || decide (Nat.gcd (digitsVal a) (digitsVal b) ≠ 1) || (ngB l && decide (digitsVal a = 0))) = true then none else _) = _
        rw [if_pos]
        rw [d0]
        rfl
  · exact rd_two_no e h (.inl (Bool.eq_false_iff.mpr wa))
end SS
namespace SS
open PySem PySem.Spec PyProof.Rows L2 TL PySem.StrLaws
section
variable {X : Cx}
/-- x.rsplit(sep, k) -/
theorem mt_rsplitMax : MtR X "str.rsplit" (fun x xs H Q => ∃ (a b : Str) (k : Int), x = .str a ∧ xs = [.str b, .int k] ∧ (b.length == 0) = false ∧ -(2 ^ 63) ≤ k ∧ k < 2 ^ 63 ∧ a.length + 2 ≤ sizeLine ∧ rNewStrs (Txt.rsplitMax a b k) H Q) := by
  intro pins s σ H x xs v us Q I rx rs h
  obtain ⟨a, b, k, rfl, rfl, hb, k1, k2, hz, h⟩ := h
  obtain ⟨t, rfl⟩ := rx
  cases rs with
  | cons r1 rs =>
    cases rs with
    | cons r2 rs =>
      cases rs
      obtain ⟨u, rfl⟩ := r1
      obtain ⟨v, rfl⟩ := r2
      have e1 : decide (k < -(2 ^ 63 : Int)) = false := decide_eq_false (by omega)
      have e2 : decide (k ≥ 2 ^ 63) = false := decide_eq_false (by omega)
      have hk : (decide (k < -(2 ^ 63 : Int)) || decide (k ≥ 2 ^ 63)) = false := by rw [e1, e2, Bool.or_false]
      have hn : (Builtin.Str.partsBetween a (Builtin.Str.occurrencesFromRight a b (limitOf a k)) b.length).length ≤ sizeLine := by
        have e1 := StrLaws.occR_length_le_len a b (limitOf a k)
        rw [length_partsBetween]; omega
      have hl : (Txt.rsplitMax a b k).length ≤ sizeLine := by
        unfold Txt.rsplitMax
        split
        · show 1 ≤ sizeLine; omega
        · split
          · show 1 ≤ sizeLine; omega
          · exact hn
      cases h1 : (decide (a.length < b.length) || decide (Builtin.Str.strKind a < Builtin.Str.strKind b))
      · cases hf : (Builtin.Str.occurrencesFromRight a b (limitOf a k)).isEmpty
        · refine call_meets PySem.F.slot_str_rsplit (typeIs_str _ _ _) PySem.F.entry_str_rsplit (PySem.F.args_str_rsplit_3 _ _ _) (meets_str_rsplit_sep_max a b k t u v hk h1 hb hf (by omega) hn) ?_
          show EP X pins σ Q (.ref s.heap.objs.size) { s with toks := _, heap := s.heap.push { cls := .type "list", data := .seq (strsFrom s.toks (Builtin.Str.partsBetween a (Builtin.Str.occurrencesFromRight a b (limitOf a k)) b.length)).toArray } }
          rw [strsFrom_eq]
          exact laid_strs (ys := Txt.rsplitMax a b k) I ((numbered_texts _ _).trans ((if_neg (ne_true_of_eq_false h1)).trans (if_neg (ne_true_of_eq_false hf))).symm) hl h
        · refine call_meets PySem.F.slot_str_rsplit (typeIs_str _ _ _) PySem.F.entry_str_rsplit (PySem.F.args_str_rsplit_3 _ _ _) (meets_str_rsplit_max_not_found a b k t u v hk h1 hb hf) ?_
          exact laid_strs (l := [(a, t)]) (ys := Txt.rsplitMax a b k) (k := s.toks) I ((if_neg (ne_true_of_eq_false h1)).trans (if_pos hf)).symm hl h
      · refine call_meets PySem.F.slot_str_rsplit (typeIs_str _ _ _) PySem.F.entry_str_rsplit (PySem.F.args_str_rsplit_3 _ _ _) (meets_str_rsplit_max_cannot_occur a b k t u v hk h1) ?_
        exact laid_strs (l := [(a, t)]) (ys := Txt.rsplitMax a b k) (k := s.toks) I (if_pos h1).symm hl h
end
/-! ### what it tells -/
open Builtin.Str in
def stepR (s sub : Str) (limit : Nat) (st : Array Nat × Nat) (k : Nat) : Array Nat × Nat :=
  if (st.fst.size < limit ∧ s.length - k + sub.length ≤ st.snd) ∧ subAt s sub (s.length - k) = true then (st.fst.push (s.length - k), s.length - k) else st
theorem occR_fold (s sub : Str) (limit : Nat) : ∀ (l : List Nat) (st : Array Nat × Nat), (forIn l st (occRBody s sub limit)).run = l.foldl (stepR s sub limit) st
  | [], st => rfl
  | a :: l, st => by
    rw [List.forIn_cons, List.foldl_cons]
    unfold occRBody
    split
    · rename_i hc
      have e : stepR s sub limit st a = (st.fst.push (s.length - a), s.length - a) := if_pos hc
      rw [e]
      exact occR_fold s sub limit l _
    · rename_i hc
      have e : stepR s sub limit st a = st := if_neg hc
      rw [e]
      exact occR_fold s sub limit l _
theorem stepR_skip {s sub : Str} {limit : Nat} : ∀ (l : List Nat) (st : Array Nat × Nat), (∀ k ∈ l, Builtin.Str.subAt s sub (s.length - k) = false) → l.foldl (stepR s sub limit) st = st
  | [], _, _ => rfl
  | a :: l, st, h => by
    rw [List.foldl_cons]
    have e : stepR s sub limit st a = st := if_neg fun z => by
      rw [h a List.mem_cons_self] at z
      cases z.2
    rw [e]
    exact stepR_skip l st fun k hk => h k (List.mem_cons_of_mem _ hk)
theorem stepR_full {s sub : Str} {limit : Nat} : ∀ (l : List Nat) (st : Array Nat × Nat), limit ≤ st.fst.size → l.foldl (stepR s sub limit) st = st
  | [], _, _ => rfl
  | a :: l, st, h => by
    rw [List.foldl_cons]
    have e : stepR s sub limit st a = st := if_neg fun z => by
      have := z.1.1
      omega
    rw [e]
    exact stepR_full l st h
theorem tl_blank : tl (" " : Str) = [32] := by decide
theorem len_blank : (" " : Str).length = 1 := by decide
/-- where the blanks stand -/
theorem blank_at (x : Str) (i : Nat) : Builtin.Str.subAt x " " i = true ↔ (tl x)[i]? = some 32 := by
  have z := at_iff (x := x) (y := " ") (by rw [tl_blank]; simp) i
  rw [tl_blank] at z
  have e : pre [32] ((tl x).drop i) = true ↔ (tl x)[i]? = some 32 := by
    unfold pre
    rw [beq_iff_eq, ← List.head?_drop]
    cases (tl x).drop i with
    | nil => exact ⟨(fun z => by cases z), (fun z => by cases z)⟩
    | cons a r =>
      show (a :: r.take 0) = [32] ↔ some a = some 32
      rw [List.take_zero]
      exact ⟨fun z => by rw [(List.cons.inj z).1], fun z => by rw [Option.some.inj z]⟩
  rw [← e, ← z]
  refine ⟨fun h => ⟨?_, h⟩, fun h => h.2⟩
  have sz := subAt_size h
  rw [len_blank] at sz ⊢
  omega
theorem rsplit_three {x : Str} {a b c : List Nat} (e : tl x = a ++ 32 :: (b ++ 32 :: c)) (hb : 32 ∉ b) (hc : 32 ∉ c) : (Txt.rsplitMax x " " 2).map tl = [a, b, c] := by
  have n : x.length = a.length + b.length + c.length + 2 := by
    rw [len_tl, e, List.length_append, List.length_cons, List.length_append, List.length_cons]
    omega
  have g1 : ∀ i, i < a.length → (tl x)[i]? = a[i]? := fun i hi => by
    rw [e, List.getElem?_append_left hi]
  have g2 : (tl x)[a.length]? = some 32 := by
    rw [e, List.getElem?_append_right (Nat.le_refl _), Nat.sub_self]
    rfl
  have g3 : ∀ i, i < b.length → (tl x)[a.length + 1 + i]? = b[i]? := fun i hi => by
    rw [e, List.getElem?_append_right (by omega), show a.length + 1 + i - a.length = i + 1 by omega, List.getElem?_cons_succ, List.getElem?_append_left hi]
  have g4 : (tl x)[a.length + 1 + b.length]? = some 32 := by
    rw [e, List.getElem?_append_right (by omega), show a.length + 1 + b.length - a.length = b.length + 1 by omega, List.getElem?_cons_succ, List.getElem?_append_right (Nat.le_refl _), Nat.sub_self]
    rfl
  have g5 : ∀ i, (tl x)[a.length + 1 + b.length + 1 + i]? = c[i]? := fun i => by
    rw [e, List.getElem?_append_right (by omega), show a.length + 1 + b.length + 1 + i - a.length = (b.length + 1 + i) + 1 by omega, List.getElem?_cons_succ, List.getElem?_append_right (by omega), show b.length + 1 + i - b.length = i + 1 by omega, List.getElem?_cons_succ]
  have occ : Builtin.Str.occurrencesFromRight x " " 2 = [a.length, a.length + 1 + b.length] := by
    rw [occR_eq, occR_fold]
    have er : List.range' 0 (x.length + 1) = List.range' 0 (c.length + 1) ++ ([c.length + 1] ++ (List.range' (c.length + 2) b.length ++ ([c.length + 2 + b.length] ++ List.range' (c.length + 3 + b.length) a.length))) := by
      have r1 : [c.length + 2 + b.length] ++ List.range' (c.length + 3 + b.length) a.length = List.range' (c.length + 2 + b.length) (1 + a.length) := by
        rw [← List.range'_append_1]
        rw [show c.length + 2 + b.length + 1 = c.length + 3 + b.length by omega]
        rfl
      have r2 : [c.length + 1] ++ List.range' (c.length + 2) (b.length + (1 + a.length)) = List.range' (c.length + 1) (1 + (b.length + (1 + a.length))) := by
        exact List.range'_append_1 (s := c.length + 1) (m := 1) (n := b.length + (1 + a.length))
      rw [r1, List.range'_append_1, r2]
      have r3 := List.range'_append_1 (s := 0) (m := c.length + 1) (n := 1 + (b.length + (1 + a.length)))
      rw [Nat.zero_add] at r3
      rw [r3, n]
      congr 1
      omega
    rw [er, List.foldl_append, stepR_skip (List.range' 0 (c.length + 1)), List.foldl_append]
    · have s1 : [c.length + 1].foldl (stepR x " " 2) (#[], x.length) = (#[a.length + 1 + b.length], a.length + 1 + b.length) := by
        show stepR x " " 2 (#[], x.length) (c.length + 1) = _
        have ei : x.length - (c.length + 1) = a.length + 1 + b.length := by omega
        unfold stepR
        rw [ei, len_blank]
        rw [if_pos ⟨⟨by show 0 < 2; decide, by show a.length + 1 + b.length + 1 ≤ x.length; omega⟩, (blank_at x _).mpr g4⟩]
        rfl
      rw [s1, List.foldl_append, stepR_skip (List.range' (c.length + 2) b.length), List.foldl_append]
      · have s2 : [c.length + 2 + b.length].foldl (stepR x " " 2) (#[a.length + 1 + b.length], a.length + 1 + b.length) = (#[a.length + 1 + b.length, a.length], a.length) := by
          show stepR x " " 2 (#[a.length + 1 + b.length], a.length + 1 + b.length) (c.length + 2 + b.length) = _
          have ei : x.length - (c.length + 2 + b.length) = a.length := by omega
          unfold stepR
          rw [ei, len_blank]
          rw [if_pos ⟨⟨by show 1 < 2; decide, by show a.length + 1 ≤ a.length + 1 + b.length; omega⟩, (blank_at x _).mpr g2⟩]
          rfl
        rw [s2, stepR_full _ _ (Nat.le_refl 2)]
        rfl
      · intro k hk
        rw [List.mem_range'_1] at hk
        obtain ⟨j, hj, ej⟩ : ∃ j, j < b.length ∧ x.length - k = a.length + 1 + j := ⟨b.length - 1 - (k - (c.length + 2)), by omega, by omega⟩
        refine Bool.eq_false_iff.mpr fun z => ?_
        have z2 := (blank_at x _).mp z
        rw [ej, g3 j hj] at z2
        exact hb (List.mem_of_getElem? z2)
    · intro k hk
      rw [List.mem_range'_1] at hk
      obtain ⟨j, ej⟩ : ∃ j, x.length - k = a.length + 1 + b.length + 1 + j := ⟨c.length - k, by omega⟩
      refine Bool.eq_false_iff.mpr fun z => ?_
      have z2 := (blank_at x _).mp z
      rw [ej, g5 j] at z2
      exact hc (List.mem_of_getElem? z2)
  unfold Txt.rsplitMax
  have el : limitOf x 2 = 2 := rfl
  rw [if_neg, el, occ, if_neg (by simp), partsBetween_eq]
  · show [tl (Builtin.Str.strSub x 0 a.length), tl (Builtin.Str.strSub x (a.length + 1) (a.length + 1 + b.length)), tl (Builtin.Str.strSub x (a.length + 1 + b.length + 1) x.length)] = [a, b, c]
    rw [tl_strSub, tl_strSub, tl_strSub_end]
    congr 1
    · rw [List.drop_zero, Nat.sub_zero, e, List.take_left]
    · congr 1
      · rw [e, show a.length + 1 = a.length + 1 from rfl, List.drop_append, List.drop_of_length_le (by omega), show a.length + 1 - a.length = 1 by omega]
        show (([] : List Nat) ++ (b ++ 32 :: c)).take _ = b
        rw [List.nil_append, show a.length + 1 + b.length - (a.length + 1) = b.length by omega, List.take_left]
      · congr 1
        rw [e, show a.length + 1 + b.length + 1 = (a ++ 32 :: (b ++ [32])).length by simp; omega]
        rw [show a ++ 32 :: (b ++ 32 :: c) = (a ++ 32 :: (b ++ [32])) ++ c by simp, List.drop_left]
  · rw [decide_eq_false (show ¬ x.length < (" " : Str).length by rw [len_blank]; omega), decide_eq_false (kind_ok (by decide +kernel))]
    decide
end SS
namespace SiI
open PySem PySem.Spec PyProof.Rows L2 L2.DX
/-! ### tuples that are their items and no more: locked, with no dict of their own -/
def Fz (H : Hp) (a : Addr) (xs : List V) : Prop := ∃ o, H a = some (.frz o (.tup xs)) ∧ o.dict = none
theorem Fz.sq {K : PySem.W.Frag} {H : Hp} {a : Addr} {xs : List V} (h : Fz H a xs) : SqT K H a xs := by
  obtain ⟨o, e, _⟩ := h
  exact .inl (.inr ⟨o, e⟩)
theorem Fz.new {H : Hp} {a : Addr} {xs : List V} {o : Obj} (h : o.dict = none) : Fz (upd H a (.frz o (.tup xs))) a xs := ⟨o, upd_same, h⟩
theorem eqB_same {prog : Program} {w : World} {A : Around} {E : Value → Shared → Prop} {s : Shared} {a : Addr} {Q : Bool → Shared → Prop} (h : Q true s) : wpAny (model prog w) A (eqBool (.ref a) (.ref a)) Q E s := by
  unfold eqBool
  refine wpAny_holding ?_
  refine wpAny_ite_split (fun _ => wpAny_bind (wpAny_rule (wpAny_pure h))) (fun hn => absurd (beq_self_eq_true (Value.ref a)) hn)
/-! ### a rank of texts -/
def rkS (l : List Str) (x : Str) : Int := (l.countP fun y => ltCps y.cps.toList x.cps.toList : Nat)
theorem countP_lt {α : Type} {p q : α → Bool} : ∀ (l : List α), (∀ z ∈ l, p z = true → q z = true) → (∃ x ∈ l, q x = true ∧ p x = false) → l.countP p < l.countP q
  | [], _, h => by
    obtain ⟨_, h, _⟩ := h
    cases h
  | z :: l, h1, h2 => by
    have le : l.countP p ≤ l.countP q := List.countP_mono_left fun x hx e => h1 x (List.mem_cons_of_mem _ hx) e
    rw [List.countP_cons, List.countP_cons]
    obtain ⟨x, hx, e1, e2⟩ := h2
    rcases List.mem_cons.mp hx with rfl | hx
    · rw [e1, e2]
      simp
      omega
    · have ih := countP_lt l (fun z hz => h1 z (List.mem_cons_of_mem _ hz)) ⟨x, hx, e1, e2⟩
      have hz := h1 z (List.mem_cons_self ..)
      cases ep : p z with
      | true =>
        rw [hz ep]
        simp
        exact ih
      | false =>
        cases eq : q z <;> simp <;> omega
theorem lt_mono {a b c : List Nat} (h1 : ltCps a b = true) (h2 : ltCps c b = false) : ltCps a c = true := by
  cases e : ltCps a c with
  | true => rfl
  | false =>
    rw [SS.nltT b c a h2 e] at h1
    cases h1
theorem rk_lt {l : List Str} {x y : Str} (hx : x ∈ l) (h : ltCps x.cps.toList y.cps.toList = true) : rkS l x < rkS l y := by
  have z := countP_lt (p := fun z : Str => ltCps z.cps.toList x.cps.toList) (q := fun z : Str => ltCps z.cps.toList y.cps.toList) l (fun z _ e => lt_mono e (SS.ltNot _ _ h)) ⟨x, hx, h, SS.ltIrr _⟩
  unfold rkS
  exact Int.ofNat_lt.mpr z
theorem rk_le {l : List Str} {x y : Str} (h : ltCps x.cps.toList y.cps.toList = false) : rkS l y ≤ rkS l x := by
  have z := List.countP_mono_left (l := l) (p := fun z : Str => ltCps z.cps.toList y.cps.toList) (q := fun z : Str => ltCps z.cps.toList x.cps.toList) fun z _ e => lt_mono e h
  unfold rkS
  exact Int.ofNat_le.mpr z
theorem rk_dec {l : List Str} {x y : Str} (hx : x ∈ l) : decide (x.cps.toList < y.cps.toList) = decide (rkS l x < rkS l y) := by
  rw [lt_meets]
  cases e : ltCps x.cps.toList y.cps.toList with
  | true => exact (decide_eq_true (rk_lt hx e)).symm
  | false =>
    have := rk_le (l := l) e
    exact (decide_eq_false (by omega)).symm
theorem rk_leS {l : List Str} {x y : Str} (hy : y ∈ l) (h : rkS l x ≤ rkS l y) : SS.leS x y := by
  show ltCps y.cps.toList x.cps.toList = false
  cases e : ltCps y.cps.toList x.cps.toList with
  | false => rfl
  | true =>
    have := rk_lt (l := l) hy e
    omega
/-! ### the sort of pairs (text, object), told by addresses -/
abbrev vrf (z : Addr × Str × Addr) : Value := .ref z.1
/-- the text of the pair at an address -/
def txAt (zs : List (Addr × Str × Addr)) (v : Value) : Str := match v with
  | .ref a => ((zs.find? fun z => decide (z.1 = a)).map (·.2.1)).getD Str.empty
  | _ => Str.empty
theorem find_one {α β : Type} [DecidableEq β] (f : α → β) : ∀ {l : List α}, (l.map f).Nodup → ∀ z ∈ l, (l.find? fun y => decide (f y = f z)) = some z
  | [], _, z, h => by cases h
  | y :: l, nd, z, h => by
    rw [List.map_cons, List.nodup_cons] at nd
    rcases List.mem_cons.mp h with rfl | h
    · rw [List.find?_cons_of_pos (by simp)]
    · have ne : f y ≠ f z := fun e => nd.1 (by rw [e]; exact List.mem_map.mpr ⟨z, h, rfl⟩)
      rw [List.find?_cons_of_neg (by simpa using ne)]
      exact find_one f nd.2 z h
theorem txAt_of {zs : List (Addr × Str × Addr)} (nd : (zs.map (·.1)).Nodup) {z : Addr × Str × Addr} (h : z ∈ zs) : txAt zs (vrf z) = z.2.1 := by
  show ((zs.find? fun y => decide (y.1 = z.1)).map (·.2.1)).getD Str.empty = z.2.1
  rw [find_one (·.1) nd z h]
  rfl
/-- what stands at each address -/
def Here (h : Heap) (zs : List (Addr × Str × Addr)) : Prop := ∀ z ∈ zs, ∃ t, IsTup h z.1 #[.str z.2.1 t, .ref z.2.2]
section
open PySem.W
variable {prog : Program} {w : World} {A : Around} {E : Value → Shared → Prop} {s : Shared}
theorem firsts_s {h : Heap} : ∀ zs : List (Addr × Str × Addr), Here h zs → ∃ fs : List Value, KatTups h (zs.map vrf) fs ∧ fs.length = zs.length ∧ ∀ f ∈ fs, ∃ (y : Str) (t : Tok), f = Value.str y t
  | [], _ => ⟨[], KatTups.nil, rfl, fun f hf => nomatch hf⟩
  | z :: zs, x => by
    obtain ⟨fs, k, hl, hi⟩ := firsts_s zs fun u hu => x u (List.mem_cons_of_mem _ hu)
    obtain ⟨t, o, ho, hc, n, hd⟩ := x z (List.mem_cons_self ..)
    refine ⟨.str z.2.1 t :: fs, KatTups.cons ho hc hd rfl k, congrArg (· + 1) hl, fun f hf => ?_⟩
    rcases List.mem_cons.mp hf with e | e
    · exact ⟨_, t, e⟩
    · exact hi f e
/-- two pairs compared -/
theorem cmp_s {zs : List (Addr × Str × Addr)} (H : Here s.heap zs) (ndk : (zs.map (·.2.1)).Nodup) {z y : Addr × Str × Addr} (hz : z ∈ zs) (hy : y ∈ zs) {Q : Bool → Shared → Prop} (h : Q (decide (z.2.1.cps.toList < y.2.1.cps.toList)) s) :
    wpAny (model prog w) A (keyLt' (tuples' true) (vrf z) (vrf y)) Q E s := by
  obtain ⟨t, o, ho, hc, n, hd⟩ := H z hz
  obtain ⟨t', o', ho', hc', n', hd'⟩ := H y hy
  refine kat_lt ho hd ho' hd' ?_
  show KatLex prog w A true false Q [(Value.str z.2.1 t, Value.str y.2.1 t'), (Value.ref z.2.2, Value.ref y.2.2)] 0 s
  refine kat_cons (eqBool_str ?_)
  by_cases e : z.2.1 = y.2.1
  · have e' : z = y := by
      have q1 := find_one (·.2.1) ndk z hz
      have q2 := find_one (·.2.1) ndk y hy
      rw [e] at q1
      exact Option.some.inj (q1.symm.trans q2)
    rw [show (z.2.1 == y.2.1) = true from beq_iff_eq.mpr e]
    rw [e', decide_eq_false (List.lt_irrefl _)] at h
    rw [e']
    exact kat_yes (kat_cons (eqB_same (kat_yes (kat_nil h))))
  · rw [show (z.2.1 == y.2.1) = false from beq_eq_false_iff_ne.mpr e]
    refine kat_no ?_
    show wpAny _ _ (oneLt' true _ _) _ _ _
    exact oneLt_str h
theorem mem_vrf {zs : List (Addr × Str × Addr)} {p : Value × Value} (h : p ∈ (pairsOf (zs.map vrf)).toList) : ∃ z ∈ zs, p.1 = vrf z := by
  rw [pairsOf_toList] at h
  obtain ⟨z, hz, e⟩ := List.mem_map.mp (mem_zip_self h).2
  exact ⟨z, hz, e.symm⟩
theorem sort_raw {l : Addr} {zs : List (Addr × Str × Addr)} {Q : Value → Shared → Prop} (ho : s.heap.get? l = some (seqObj "list" (zs.map vrf).toArray 0)) (h64 : zs.length < 64) (nd : (zs.map (·.1)).Nodup) (ndk : (zs.map (·.2.1)).Nodup)
    (H : Here s.heap zs) (nl : ∀ z ∈ zs, z.1 ≠ l)
    (h : ∀ (ys : List (Addr × Str × Addr)) (out : Array Value), out.toList = ys.map vrf → ys.Perm zs → (ys.map (·.2.1)).Pairwise SS.leS → Q .none { s with heap := sortedHeap s.heap l (zs.map vrf) out }) :
    wpAny (model prog w) A (call (.builtin "list.sort") [.ref l]) Q E s := by
  have Hm : Here (TS.midHeap s.heap l (zs.map vrf)) zs := fun z hz => by
    obtain ⟨t, o, ho, r⟩ := H z hz
    exact ⟨t, o, TS.midHeap_old (nl z hz) ho, r⟩
  refine wpAny_call_entry slot_list_sort ⟨_, ho, rfl⟩ entry_list_sort (SK.plain_sort (r := fun v => rkS (zs.map (·.2.1)) (txAt zs v)) ho (by rw [List.length_map]; exact h64) (fun h2 Qk hQk => ?_) fun ps out o1 o2 o3 => ⟨.none, rfl, ?_⟩) (args_list_sort _)
  · obtain ⟨fs, k, hl, hi⟩ := firsts_s zs Hm
    rw [List.length_map] at h2
    refine kat_kind (T := Value.type "str") k (by omega) (fun f hf => ?_) rfl (hQk _ fun p q hp hq Q' E' hQ => ?_)
    · obtain ⟨y, t, rfl⟩ := hi f hf
      show PySem.W.Looks (model prog w) _ (pure (Value.type "str")) (Value.type "str")
      exact .now
    · obtain ⟨z, hz, e1⟩ := mem_vrf hp
      obtain ⟨y, hy, e2⟩ := mem_vrf hq
      have hQ' : Q' (decide (rkS (zs.map (·.2.1)) (txAt zs p.1) < rkS (zs.map (·.2.1)) (txAt zs q.1))) { s with heap := TS.midHeap s.heap l (zs.map vrf) } := hQ
      rw [e1, e2, txAt_of nd hz, txAt_of nd hy, ← rk_dec (List.mem_map.mpr ⟨z, hz, rfl⟩)] at hQ'
      rw [e1, e2]
      have hb : (Value.type "str" != Value.type "tuple") = true := by first | rfl | decide | simp
      rw [hb]
      exact cmp_s (s := { s with heap := TS.midHeap s.heap l (zs.map vrf) }) Hm ndk hz hy hQ'
  · have ez : zs.map (fun z => (vrf z, vrf z)) = (zs.map vrf).zip (zs.map vrf) := by rw [List.zip_map', ]
    obtain ⟨ys, pz, ey⟩ := perm_lift (fun z => (vrf z, vrf z)) o2 zs ez
    refine h ys out ?_ pz ?_
    · rw [o1, ← ey, List.map_map]
      all_goals rfl
    · rw [← ey, List.pairwise_map] at o3
      rw [List.pairwise_map]
      refine List.Pairwise.imp_of_mem (fun {x y} hx hy q => ?_) o3
      have q' : rkS (zs.map (·.2.1)) (txAt zs (vrf x)) ≤ rkS (zs.map (·.2.1)) (txAt zs (vrf y)) := q
      rw [txAt_of nd (pz.mem_iff.mp hx), txAt_of nd (pz.mem_iff.mp hy)] at q'
      exact rk_leS (List.mem_map.mpr ⟨y, pz.mem_iff.mp hy, rfl⟩) q'
theorem sortedK {r d : Addr} {K : Type} [DecidableEq K] {knd : PySem.KeyKind prog w K} {kvs : List (K × Value)} {ep : Nat} {Q : Value → Shared → Prop} (hh : A.handled = none) (hv : s.heap.IsItemsView r d) (hm : s.heap.DictAt knd d kvs ep) (hn : kvs.length ≤ sizeLine)
    (h : ∀ (h' : Heap) (tk : Nat) (as : List Addr), (∀ b o, s.heap.get? b = some o → h'.get? b = some o) → as.length = kvs.length → KdxG knd kvs s.heap.objs.size h' as →
      wpAny (model prog w) A.in1 (call (.builtin "list.sort") [.ref h'.objs.size]) (fun _ s' => Q (.ref h'.objs.size) s') E { s with heap := h'.push { cls := .type "list", data := .seq (as.map Value.ref).toArray }, toks := tk }) :
    wpAny (model prog w) A (call (.builtin "sorted") [.ref r]) Q E s := by
  refine Calls.call_function_entry kind_sorted plain_sorted entry_sorted (args_sorted1 _) ?_
  unfold Builtin.«sorted»
  refine wpAny_bind (m := checkCount "sorted" 1 1 _) (wpAny_pure ?_)
  refine wpAny_bind (PySem.W.kdx_collect (A := A.in1) hh hv hm hn fun h' tk as hk hl hG => ?_)
  refine wpAny_bind (wpAny_newList ?_ (by rw [List.length_map, hl]; exact hn))
  have hg := h h' tk as hk hl hG
  refine wpAny_bind (wpAny_holding (wpAny_mono hg (fun _ s' x => ?_) fun _ _ e => e))
  exact wpAny_pure ⟨_, rfl, x⟩
end
/-! ### by values -/
section
variable {X : Cx}
def entK (e : Str × Addr) : L2.Key × V := (Sum.inr e.1, V.ref e.2)
/-- d.items() -/
def rItemsK : V → List V → Hp → VK → Prop := fun x xs H Q => ∃ (a : Addr) (kvs : List (L2.Key × V)), x = .ref a ∧ xs = [] ∧ H a = some (.dK kvs) ∧ ∀ p, H p = none → Q (.ref p) (upd H p (itemsO p a))
theorem mt_itemsK : MtR X "dict.items" rItemsK := by
  intro pins s σ H x xs v us Q I rx rxs h
  obtain ⟨a, kvs, rfl, rfl, ha, q⟩ := h
  cases rx
  cases rxs
  obtain ⟨z, hd, xs', rel, o, es, ep, ho, hx, hdat, _⟩ := dk_of I.hok ha
  refine DT.callItems (es := es) (ep := ep) hd ⟨o, ho, hx, hdat⟩ ?_
  have hf : H s.heap.objs.size = none := I.hok.fresh (Nat.le_refl _)
  exact ⟨.ref s.heap.objs.size, upd H s.heap.objs.size (itemsO s.heap.objs.size a), I.laid (t' := s.toks) (fun b u e => Heap.get?_push_of_some _ e) (Nat.le_refl _) (itemsO_ok (Heap.get?_push_size _ rfl)), rfl, q _ hf⟩
/-- sorted(d.items()), the keys texts, the values objects -/
def rSortItK : List V → Hp → VK → Prop := fun vs H Q => ∃ (p a : Addr) (ks : List (Str × Addr)), vs = [.ref p] ∧ H p = some (itemsO p a) ∧ H a = some (.dK (ks.map entK)) ∧ ks.length < 64 ∧ (ks.map (·.1)).Nodup ∧
  ∀ (H' : Hp) (l : Addr) (ps : List (Addr × Str × Addr)), (∀ b o, H b = some o → H' b = some o) → (ps.map (·.2)).Perm ks → (ps.map (·.2.1)).Pairwise SS.leS → H' l = some (.lst (ps.map fun z => V.ref z.1)) →
    (∀ z ∈ ps, H' z.1 = some (.tup [.str z.2.1, .ref z.2.2])) → Q (.ref l) H'
theorem small2' : 2 ≤ sizeLine := by decide
theorem pairs_at {P : Program} {w : World} {h' : Heap} {lo : Addr} {as : List Addr} {ks : List (Str × Addr)} {vs : List (L2.Key × Value)} (rel : KV (ks.map entK) vs) (hG : PySem.W.KdxG (mixKind P w) vs lo h' as) (j : Nat) (b : Addr) (hj : as[j]? = some b) :
    ∃ (e : Str × Addr) (t : Tok), ks[j]? = some e ∧ h'.get? b = some { cls := .type "tuple", data := .seq #[Value.str e.1 t, Value.ref e.2] } := by
  obtain ⟨key, k, x, hx, hk', hg⟩ := hG.pairs j b hj
  obtain ⟨e0, he0, r1, r2⟩ := pget rel hx
  rw [List.getElem?_map] at he0
  cases hkj : ks[j]? with
  | none =>
    rw [hkj] at he0
    exact nomatch (show (none : Option (L2.Key × V)) = some e0 from he0)
  | some e =>
    rw [hkj] at he0
    have ee : entK e = e0 := Option.some.inj he0
    rw [← ee] at r1 r2
    have r1' : Sum.inr e.1 = k := r1
    have r2' : x = Value.ref e.2 := r2
    rw [← r1'] at hk'
    obtain ⟨t, ek⟩ := Value.isStrOf_shape (x := e.1) (v := key) hk'
    refine ⟨e, t, rfl, ?_⟩
    rw [hg, ek, r2']
/-- the pairs of a dict with texts as keys and objects as values, laid -/
theorem zip_at {P : Program} {w : World} {h' : Heap} {lo : Addr} {as : List Addr} {ks : List (Str × Addr)} {vs : List (L2.Key × Value)} (rel : KV (ks.map entK) vs) (hG : PySem.W.KdxG (mixKind P w) vs lo h' as) : Here h' (as.zip ks) := fun z hz => by
  obtain ⟨j, hj⟩ := List.mem_iff_getElem?.mp hz
  obtain ⟨j1, j2⟩ := List.getElem?_zip_eq_some.mp hj
  obtain ⟨e, t, he, hg⟩ := pairs_at rel hG j z.1 j1
  have ee : e = z.2 := Option.some.inj (he.symm.trans j2)
  rw [ee] at hg
  exact ⟨t, _, hg, rfl, 0, rfl⟩
/-- tuples that were laid since are tracked, pair by pair -/
theorem track {pins : List (Addr × Obj)} {σ : L2.St} {H0 H1 : Hp} {s : Shared} {h' : Heap} {tk : Nat} (I0 : Inv X pins σ H0 s) (I1 : Inv X pins σ H1 { s with heap := h', toks := tk }) {zs : List (Addr × Str × Addr)} (nd : (zs.map (·.1)).Nodup)
    (H : Here h' zs) (hz : ∀ z ∈ zs, s.heap.objs.size ≤ z.1 ∧ H1 z.1 = none) : ∃ H2, Inv X pins σ H2 { s with heap := h', toks := tk } ∧ (∀ b o, H1 b = some o → H2 b = some o) ∧ ∀ z ∈ zs, H2 z.1 = some (.tup [.str z.2.1, .ref z.2.2]) := by
  obtain ⟨H2, I2, g, q⟩ := takeT (P := fun b vs => ∃ z ∈ zs, z.1 = b ∧ vs = [.str z.2.1, .ref z.2.2]) I0 (zs.map (·.1)) H1 I1 nd fun b hb => by
    obtain ⟨z, m, rfl⟩ := List.mem_map.mp hb
    obtain ⟨t, tp⟩ := H z m
    exact ⟨(hz z m).1, (hz z m).2, _, ⟨z, m, rfl, rfl⟩, fun H3 => ⟨small2', [.str z.2.1 t, .ref z.2.2], .cons ⟨t, rfl⟩ (.cons rfl .nil), tp⟩⟩
  refine ⟨H2, I2, g, fun z m => ?_⟩
  obtain ⟨vs, ⟨y, my, e, rfl⟩, hH⟩ := q z.1 (List.mem_map.mpr ⟨z, m, rfl⟩)
  have q1 := find_one (·.1) nd z m
  have q2 := find_one (·.1) nd y my
  rw [e] at q2
  obtain rfl := Option.some.inj (q1.symm.trans q2)
  exact hH
theorem cr_sortedItemsK (hc : X.calm = true) : CallR X (.builtin "sorted") rSortItK := by
  intro pins s σ H xs us Q I r h
  obtain ⟨p, a, ks, rfl, hp, ha, h64, hnd, q⟩ := h
  obtain rfl := Vals.ref1 r
  obtain ⟨z, _, vs, rel, dd⟩ := dk_of I.hok ha
  obtain ⟨ep, hat⟩ := dd.dictAt
  have l1 := Paired.length rel
  rw [List.length_map] at l1
  refine sortedK (knd := mixKind X.prog X.w) (kvs := vs) (ep := ep) (I.ok.hd hc) (I.hok p _ hp).1 hat (by rw [sizeLine_eq]; omega) fun h' tk as hk hl hG => ?_
  have m1 : (as.zip ks).map (·.1) = as := List.map_fst_zip (by omega)
  have m2 : (as.zip ks).map (·.2) = ks := List.map_snd_zip (by omega)
  have m3 : (as.zip ks).map (·.2.1) = ks.map (·.1) := by rw [← m2, List.map_map, m2]; rfl
  have m4 : (as.zip ks).map vrf = as.map Value.ref := by
    have e : (as.zip ks).map vrf = ((as.zip ks).map (·.1)).map Value.ref := by rw [List.map_map]; rfl
    rw [e, m1]
  have at' := zip_at rel hG
  have up : ∀ z ∈ as.zip ks, s.heap.objs.size < z.1 := fun z hz => hG.above _ (List.of_mem_zip hz).1
  have len : (as.zip ks).length = ks.length := by rw [List.length_zip]; omega
  have nd1 : ((as.zip ks).map (·.1)).Nodup := by rw [m1]; exact List.Pairwise.imp Nat.ne_of_lt hG.rise
  rw [← m4]
  generalize as.zip ks = zs at *
  have I' : Inv X pins σ H { s with heap := h', toks := tk } := I.kept hk
  have lt' : ∀ {b : Addr} {o : Obj}, h'.get? b = some o → b ≠ h'.objs.size := fun e => Nat.ne_of_lt (Heap.lt_size e)
  have pu : ∀ {b : Addr} {o : Obj}, h'.get? b = some o → (h'.push { cls := .type "list", data := .seq (zs.map vrf).toArray }).get? b = some o := fun e => Heap.get?_push_of_some _ e
  refine sort_raw (s := { s with heap := h'.push { cls := .type "list", data := .seq (zs.map vrf).toArray }, toks := tk }) (Heap.get?_push_size _ rfl) (by rw [len]; exact h64) nd1 (by rw [m3]; exact hnd) (fun z hz => ?_) (fun z hz => ?_) fun ys out ho py so => ?_
  · obtain ⟨t, o, e, r⟩ := at' z hz
    exact ⟨t, o, pu e, r⟩
  · obtain ⟨t, o, e, r⟩ := at' z hz
    exact lt' e
  · have kS : ∀ b o, h'.get? b = some o → (sortedHeap (h'.push { cls := .type "list", data := .seq (zs.map vrf).toArray }) h'.objs.size (zs.map vrf) out).get? b = some o := fun b o e => (sortedHeap_old (lt' e) (Heap.lt_size (pu e))).trans (pu e)
    have hob : (h'.push { cls := .type "list", data := .seq (zs.map vrf).toArray }).get? h'.objs.size = some (seqObj "list" (zs.map vrf).toArray 0) := Heap.get?_push_size _ rfl
    obtain ⟨eF, heF⟩ := sortedHeap_at (vs := zs.map vrf) (out := out) hob
    have rv : Vals (ys.map fun z => V.ref z.1) out.toList := by
      rw [ho]
      exact vals_maps (fun z : Addr × Str × Addr => V.ref z.1) vrf ys fun _ _ => rfl
    have ly := py.length_eq
    have I2 := I'.laid (h' := sortedHeap (h'.push { cls := .type "list", data := .seq (zs.map vrf).toArray }) h'.objs.size (zs.map vrf) out) (t' := tk) (o := .lst (ys.map fun z => V.ref z.1)) kS (Nat.le_refl _) ⟨by rw [List.length_map, sizeLine_eq]; omega, out.toList, eF, rv, heF⟩
    have hn0 : H h'.objs.size = none := I'.hok.fresh (Nat.le_refl _)
    obtain ⟨H2, I3, g, qt⟩ := track I I2 (zs := zs) nd1 (fun z hz => by obtain ⟨t, o, e, r⟩ := at' z hz; exact ⟨t, o, kS _ _ e, r⟩) fun z hz => by
      obtain ⟨t, o, e, r⟩ := at' z hz
      exact ⟨Nat.le_of_lt (up z hz), by rw [upd_ne (lt' e)]; exact I.hok.fresh (Nat.le_of_lt (up z hz))⟩
    have p2 := py.map (·.2)
    rw [m2] at p2
    exact ⟨.ref h'.objs.size, H2, I3, rfl, q H2 h'.objs.size ys (fun b o e => g b o (by rw [upd_ne (ne_of_none e hn0)]; exact e)) p2 so (g _ _ upd_same) fun z hz => qt z (py.mem_iff.mp hz)⟩
end
end SiI
namespace SiI
open PySem PySem.Spec PyProof.Rows L2 L2.DX
section
variable {prog : Program} {w : World} {A : Around} {E : Value → Shared → Prop} {s : Shared} {r d : Addr} {K : Type} [DecidableEq K] {knd : PySem.KeyKind prog w K} {kvs : List (K × Value)} {ep : Nat}
theorem code_tuple_items {Q₁ : Value → Shared → Prop} (hh : A.handled = none) (hv : s.heap.IsItemsView r d) (hm : s.heap.DictAt knd d kvs ep) (hn : kvs.length ≤ sizeLine)
    (h : ∀ (h' : Heap) (tk : Nat) (as : List Addr), (∀ b o, s.heap.get? b = some o → h'.get? b = some o) → as.length = kvs.length → PySem.W.KdxG knd kvs s.heap.objs.size h' as →
      Q₁ (.ref h'.objs.size) { s with heap := h'.push { cls := .type "tuple", data := .seq (as.map Value.ref).toArray }, toks := tk }) :
    codeAny (model prog w) A (.call (.builtin "tuple.__new__") ⟨[.type "tuple", .ref r], []⟩) (wants Q₁ E) s := by
  refine codeAny_of_tree ?_
  show wpAny _ A.in1 (do checkBuiltinCall "tuple.__new__" ⟨[.type "tuple", .ref r], []⟩; again (.builtin "tuple.__new__" ⟨[.type "tuple", .ref r], []⟩)) _ _ s
  refine wpAny_bind (wpAny_of_eq (F.newCall_tuple_1 _) (wpAny_pure ⟨plainId_quiet F.plain_tuple_new _, codeAny_builtin F.entry_tuple_new ?_⟩))
  rw [Around.under_plainId F.plain_tuple_new _]
  have hsub := sub_tuple_self
  have hinit := init_tuple_lookup
  have hmh := madeHere_tuple
  have hTI : s.TypeIs (.ref r) "dict_items" := let ⟨o, ho, hc, _⟩ := hv; ⟨o, ho, hc⟩
  have hh1 : A.in1.handled = none := hh
  wp_walk using wpAny_typeOf hTI, PySem.W.kdx_collect (A := A.in1) hh1 hv hm hn
  intro h' tk as hk hl hG
  show wpAny _ _ (Builtin.Tuple.tupleExact (as.map Value.ref).toArray >>= fun v => ret v) _ _ _
  unfold Builtin.Tuple.tupleExact
  refine wpAny_bind (wpAny_newObj_type ?_ (by show (as.map Value.ref).toArray.size ≤ sizeLine; simp only [List.size_toArray, List.length_map]; omega))
  refine wpAny_pure ?_
  exact h h' tk as hk hl hG
theorem call_tup_items {Q : Value → Shared → Prop} (hh : A.handled = none) (hv : s.heap.IsItemsView r d) (hm : s.heap.DictAt knd d kvs ep) (hn : kvs.length ≤ sizeLine)
    (hQ : ∀ (h' : Heap) (tk : Nat) (as : List Addr), (∀ b o, s.heap.get? b = some o → h'.get? b = some o) → as.length = kvs.length → PySem.W.KdxG knd kvs s.heap.objs.size h' as →
      Q (.ref h'.objs.size) { s with heap := h'.push { cls := .type "tuple", data := .seq (as.map Value.ref).toArray }, toks := tk }) :
    wpAny (model prog w) A (call (.type "tuple") [.ref r]) Q E s := by
  refine callType_codes (Q₁ := fun obj s₁ => s₁.TypeIs obj "tuple" ∧ Q obj s₁) F.called_tuple (F.typeCall_tuple_1 _) F.entry_object_init
    (code_tuple_items (A := A.in1) hh hv hm hn fun h' tk as hk hl hG => ⟨⟨_, Heap.get?_push_size _ rfl, rfl⟩, hQ h' tk as hk hl hG⟩) fun obj s₁ h₁ => ?_
  exact ⟨h₁.1, F.args_object_init_2 obj _, object_init_meets F.called_tuple.init.lookup F.called_tuple.made (by decide) prog w A.in1 _ s₁ ⟨h₁.1, rfl, h₁.2⟩⟩
end
section
variable {X : Cx}
theorem vals_rf : ∀ as : List Addr, Vals (as.map V.ref) (as.map Value.ref)
  | [] => .nil
  | _ :: as => .cons rfl (vals_rf as)
/-- tuple(d.items()), the keys texts, the values objects -/
def rTupIt : List V → Hp → VK → Prop := fun vs H Q => ∃ (p a : Addr) (ks : List (Str × Addr)), vs = [.ref p] ∧ H p = some (itemsO p a) ∧ H a = some (.dK (ks.map entK)) ∧
  ∀ (H' : Hp) (l : Addr) (ps : List (Addr × Str × Addr)), (∀ b o, H b = some o → H' b = some o) → ps.map (·.2) = ks → Fz H' l (ps.map fun z => V.ref z.1) →
    (∀ z ∈ ps, H' z.1 = some (.tup [.str z.2.1, .ref z.2.2])) → Q (.ref l) H'
theorem cr_tupIt (hc : X.calm = true) : CallR X (.type "tuple") rTupIt := by
  intro pins s σ H xs us Q I r h
  obtain ⟨p, a, ks, rfl, hp, ha, q⟩ := h
  obtain rfl := Vals.ref1 r
  obtain ⟨z, _, vs, rel, dd⟩ := dk_of I.hok ha
  obtain ⟨ep, hat⟩ := dd.dictAt
  have l1 := Paired.length rel
  rw [List.length_map] at l1 z
  refine call_tup_items (knd := mixKind X.prog X.w) (kvs := vs) (ep := ep) (I.ok.hd hc) (I.hok p _ hp).1 hat (by omega) fun h' tk as hk hl hG => ?_
  have m1 : (as.zip ks).map (·.1) = as := List.map_fst_zip (by omega)
  have at' := zip_at rel hG
  have up : ∀ z ∈ as.zip ks, s.heap.objs.size < z.1 := fun z hz => hG.above _ (List.of_mem_zip hz).1
  have nd1 : ((as.zip ks).map (·.1)).Nodup := by rw [m1]; exact List.Pairwise.imp Nat.ne_of_lt hG.rise
  have I' : Inv X pins σ H { s with heap := h', toks := tk } := I.kept hk
  have hn0 : H h'.objs.size = none := I'.hok.fresh (Nat.le_refl _)
  have pu : ∀ b o, h'.get? b = some o → (h'.push { cls := .type "tuple", data := .seq (as.map Value.ref).toArray }).get? b = some o := fun b o e => Heap.get?_push_of_some _ e
  have I2 := I'.laid (h' := h'.push { cls := .type "tuple", data := .seq (as.map Value.ref).toArray }) (t' := tk) (o := .frz { cls := .type "tuple", data := .seq (as.map Value.ref).toArray } (.tup (as.map V.ref))) pu (Nat.le_refl _)
    (show ObjOk X.prog X.w _ _ _ (.frz _ (.tup (as.map V.ref))) from ⟨Heap.get?_push_size _ rfl, by rw [List.length_map]; omega, as.map Value.ref, vals_rf as, IsTup.new _ _⟩)
  obtain ⟨H2, I3, g, qt⟩ := track I I2 nd1 (fun z hz => by obtain ⟨t, o, e, r⟩ := at' z hz; exact ⟨t, o, pu _ _ e, r⟩) fun z hz => by
    obtain ⟨t, o, e, r⟩ := at' z hz
    exact ⟨Nat.le_of_lt (up z hz), by rw [upd_ne (Nat.ne_of_lt (Heap.lt_size e))]; exact I.hok.fresh (Nat.le_of_lt (up z hz))⟩
  refine ⟨.ref h'.objs.size, H2, I3, rfl, q H2 h'.objs.size (as.zip ks) (fun b o e => g b o (by rw [upd_ne (ne_of_none e hn0)]; exact e)) (List.map_snd_zip (by omega)) ?_ fun z hz => qt z hz⟩
  have m5 : (as.zip ks).map (fun z => V.ref z.1) = as.map V.ref := by
    have e : (as.zip ks).map (fun z => V.ref z.1) = ((as.zip ks).map (·.1)).map V.ref := by rw [List.map_map]; rfl
    rw [e, m1]
  rw [m5]
  exact ⟨_, g _ _ upd_same, rfl⟩
/-- tuple(a list), with no dict of its own -/
theorem cr_tupF : CallR X (.type "tuple") (fun xs H Q => ∃ p ys, xs = [.ref p] ∧ SqL X.K H p ys ∧ ∀ l o, H l = none → o.dict = none → Q (.ref l) (upd H l (.frz o (.tup ys)))) := by
  intro pins s σ H xs us Q I r h
  obtain ⟨p, ys, rfl, hq, q⟩ := h
  obtain ⟨u, rfl, rx⟩ := vals1 r
  cases rx
  obtain ⟨its, r', pl, hz⟩ := I.list hq
  have hlen := r'.length
  refine call_tuple_list pl.isList (fun h' kp => ?_) (by simp only [List.size_toArray] <;> omega)
  have I1 : Inv X pins σ H { s with heap := h' } := I.kept (t' := s.toks) kp
  have I2 : Inv X pins σ (upd H h'.objs.size (.frz { cls := .type "tuple", data := .seq its.toArray } (.tup ys))) { s with heap := h'.push { cls := .type "tuple", data := .seq its.toArray } } :=
    I1.laid (t' := s.toks) (fun b o e => Heap.get?_push_of_some _ e) (Nat.le_refl _) (show ObjOk X.prog X.w _ _ _ (.frz _ (.tup ys)) from ⟨Heap.get?_push_size _ rfl, hz, its, r', IsTup.new _ _⟩)
  exact ⟨.ref h'.objs.size, _, I2, rfl, q _ _ (I1.hok.fresh (Nat.le_refl _)) rfl⟩
def tTupF (t : TA) : TE := fun σ H Q => t σ H fun xs H1 => xs.length ≤ sizeLine ∧ ∀ p o, H1 p = none → o.dict = none → Q (.ref p) (upd H1 p (.frz o (.tup xs)))
theorem pe_tupF {es : List Expr} {t : TA} {pos : Pos} {x1} (h : PA X es t) : PE X (.Tuple es x1 pos) (tTupF t) := by
  refine ⟨fun pins s σ H Q I hq => ?_⟩
  refine wpAny_Tuple_spliced (thn (h.run pos pins s σ H _ I hq) fun us s1 ⟨xs, H1, I1, r, z, q⟩ => ⟨by rw [← r.length]; exact z, ?_⟩)
  have hf : H1 s1.heap.objs.size = none := I1.hok.fresh (Nat.le_refl _)
  exact ⟨.ref s1.heap.objs.size, upd H1 s1.heap.objs.size (.frz { cls := .type "tuple", data := .seq us.toArray } (.tup xs)), I1.laid (t' := s1.toks) (fun b u e => Heap.get?_push_of_some _ e) (Nat.le_refl _) ⟨Heap.get?_push_size _ rfl, z, us, r, ⟨_, Heap.get?_push_size _ rfl, rfl, _, rfl⟩⟩, rfl, q _ _ hf rfl⟩
/-- the pairs, their keys and values -/
theorem pairs_of2 {pins : List (Addr × Obj)} {σ : L2.St} {H : Hp} {s : Shared} (I : Inv X pins σ H s) : ∀ {ps : List Addr} {kvs : List (L2.Key × V)}, Paired (fun p kv => SqT X.K H p [kV kv.1, kv.2]) ps kvs →
    ∃ (prs : List (L2.Key × Value)) (qs : List (Value × Value)), KV kvs prs ∧ prs.length = ps.length ∧ qs.length = ps.length ∧
      ∀ (j : Nat) (k v : Value), qs[j]? = some (k, v) → ∃ b c, ps[j]? = some b ∧ IsTup s.heap b #[k, v] ∧ prs[j]? = some (c, v) ∧ keyIs c k = true
  | _, _, .nil => ⟨[], [], .nil, rfl, rfl, fun j k v e => by simp at e⟩
  | _, _, .cons (a := p) (b := kv) h t => by
    obtain ⟨prs, qs, r, hl, hl2, hp⟩ := pairs_of2 I t
    obtain ⟨its, rv, ht, _⟩ := I.tuple h
    obtain ⟨u, y, ei, ru, ry⟩ := vals2 rv
    subst ei
    refine ⟨(kv.1, y) :: prs, (u, y) :: qs, .cons ⟨rfl, ry⟩ r, by rw [List.length_cons, List.length_cons, hl], by rw [List.length_cons, List.length_cons, hl2], fun j k v e => ?_⟩
    cases j with
    | zero =>
      have e' : (u, y) = (k, v) := Option.some.inj e
      cases e'
      exact ⟨p, kv.1, rfl, ht, rfl, kV_is (P := X.prog) (w := X.w) ru⟩
    | succ j =>
      obtain ⟨b, c, e1, e2, e3, e4⟩ := hp j k v (by simpa using e)
      exact ⟨b, c, by simpa using e1, e2, by simpa using e3, e4⟩
/-- dict(a tuple of pairs) -/
theorem cr_dictF (hcalm : X.calm = true) : CallR X (.type "dict") (fun xs H Q => ∃ (a : Addr) (ps : List Addr) (kvs : List (L2.Key × V)), xs = [.ref a] ∧ Fz H a (ps.map V.ref) ∧ Paired (fun p kv => SqT X.K H p [kV kv.1, kv.2]) ps kvs ∧
    ∀ p, H p = none → Q (.ref p) (upd H p (.dK (mergeK [] kvs)))) := by
  intro pins s σ H xs us Q I r q
  obtain ⟨a, ps, kvs, ex, ⟨o, hq, hdn⟩, hp, q⟩ := q
  subst ex
  obtain ⟨u, eu, rx⟩ := vals1 r
  subst eu
  cases rx
  obtain ⟨ho, hz, its, rv, tp⟩ := (show ObjOk X.prog X.w H s.heap a (.frz o (.tup (ps.map V.ref))) from I.hok a _ hq)
  have ei := refs_at rv
  subst ei
  rw [List.length_map] at hz
  obtain ⟨o', ho', hc', n, hd'⟩ := tp
  have eo : o = o' := Option.some.inj (ho.symm.trans ho')
  subst eo
  obtain ⟨prs, qs, rel, hl, hl2, hpr⟩ := pairs_of2 I hp
  refine PySem.call_dict_pairs (knd := mixKind X.prog X.w) (kvs := prs) (PySem.PairArg.tuple a (ps.map Value.ref).toArray (fun j => ps.getD j 0) qs) (I.ok.hd hcalm) ⟨⟨o, n, ho, hc', hdn, hd'⟩, ?_, fun j k v e => ?_⟩ ⟨by rw [hl, hl2], fun j k v e => ?_⟩ (by rw [hl2]; exact hz) fun h' tk hd'' k => ?_
  · simp [hl2]
  · obtain ⟨b, c, e1, e2, e3, e4⟩ := hpr j k v e
    have eg : ps.getD j 0 = b := by
      rw [List.getD_eq_getElem?_getD, e1]
      rfl
    refine ⟨by simp [e1], .inl ?_⟩
    show s.heap.IsTuple (ps.getD j 0) #[k, v]
    rw [eg]
    exact e2
  · obtain ⟨b, c, e1, e2, e3, e4⟩ := hpr j k v e
    exact ⟨c, e3, e4⟩
  · have hm : (s.heap.objs.size == sysModules) = false := beq_eq_false_iff_ne.mpr (Nat.ne_of_gt I.big)
    have hlen : (mergeK [] kvs).length ≤ sizeLine := by
      refine Nat.le_trans (length_mergeK kvs []) ?_
      rw [List.length_nil, Nat.zero_add, Paired.length rel, hl]
      exact hz
    exact ⟨.ref s.heap.objs.size, upd H s.heap.objs.size (.dK (mergeK [] kvs)), I.laid (t' := tk) (fun b o e => k b o (by simp) e) (Nat.le_refl _) (show ObjOk X.prog X.w _ _ _ (.dK (mergeK [] kvs)) from ⟨hlen, hm, merged [] prs, KV.merge rel .nil, hd''⟩), rfl, q _ (I.hok.fresh (Nat.le_refl _))⟩
end
end SiI
namespace ScS
open PySem PySem.Spec PyProof.Rows L2 PySem.Froz
/-! ### sets of texts, their members a list -/
def addL (l : List Str) (k : Str) : List Str := if k ∈ l then l else k :: l
/-- the set at a holds just the texts l, and can be walked -/
def SetS (P : Program) (w : World) (h : Heap) (a : Addr) (l : List Str) : Prop :=
  ∃ D : SD, h.get? a = some (sObj "set" D) ∧ TxOk P w D l ∧ l.Nodup ∧ Ris D.2.2.place.toList ∧ (w.params.followText "set-order" = true ∨ D.2.2.led = true)
theorem SetS.at {P : Program} {w : World} {h h' : Heap} {a : Addr} {l : List Str} (R : SetS P w h a l) (k : ∀ o, h.get? a = some o → h'.get? a = some o) : SetS P w h' a l := by
  obtain ⟨D, ho, r⟩ := R
  exact ⟨D, k _ ho, r⟩
theorem tail_ris {w : World} {ep : Nat} {es : Array (Int × Value)} {t : SetTable} {b : Bool} (r : Ris t.place.toList) (l : w.params.followText "set-order" = true ∨ t.led = true) :
    Ris (tailTx ep es t b).2.2.place.toList ∧ (w.params.followText "set-order" = true ∨ (tailTx ep es t b).2.2.led = true) := by
  unfold tailTx
  split
  · exact ⟨relayAll_ris t es _, l.imp id fun z => by rw [relayAll_led]; exact z⟩
  · exact ⟨r, l⟩
theorem addTx_ris {w : World} {h : Int} {v : Value} {D : SD} (r : Ris D.2.2.place.toList) (l : w.params.followText "set-order" = true ∨ D.2.2.led = true) :
    Ris (addTx h v D).2.2.place.toList ∧ (w.params.followText "set-order" = true ∨ (addTx h v D).2.2.led = true) := by
  have r1 := layNew_ris D.2.2 D.1 h v r
  have l1 : w.params.followText "set-order" = true ∨ (layNew D.2.2 D.1 h v).2.1.led = true := l.imp id fun z => by rw [layNew_led]; exact z
  unfold addTx
  refine tail_ris ?_ ?_
  · split
    · exact r1
    · exact r1
  · split
    · exact l1
    · exact l1
section
variable {P : Program} {w : World} {A : Around} {E : Value → Shared → Prop} {s : Shared} {a : Addr} {l : List Str}
theorem had_x {T : String} {D : SD} {k : Str} {u : Tok} {Q : Bool → Shared → Prop} (ho : s.heap.get? a = some (sObj T D)) (F : TxOk P w D l) (hk : k ∈ l) (hb : l.length < scanBound) (h : Q false s) :
    wpAny (model P w) A (setAddHashed a (.str k u) (hashStr w k)) Q E s := by
  obtain ⟨es, ep, t⟩ := D
  have hel : ElemsOf (strKind P w) es.toList := F.el
  have hsz : es.size = l.length := F.sz
  unfold setAddHashed setAddHashedIn
  refine wpAny_holding (wpAny_bind (wpAny_setState_of ho rfl F.fit ?_))
  dsimp only
  rw [byScan_of rfl (by omega) hel]
  simp only [↓reduceIte]
  unfold setAddByScan
  refine wpAny_bind ?_
  refine wpAny_bind (wpAny_rule ?_)
  refine wpAny_bind (wpAny_setScan_of (knd := strKind P w) (k := k) (is_str k u) ho rfl F.fit hel ?_)
  obtain ⟨e, he, q⟩ := (F.mem k).mp hk
  cases hf : List.findIdx? (fun e => (strKind P w).is k e.2) es.toList with
  | none =>
    have z := List.findIdx?_eq_none_iff.mp hf e he
    rw [q] at z
    cases z
  | some j => exact wpAny_pure (wpAny_pure h)
/-- s.add(k) -/
theorem add_S {k : Str} {u : Tok} {Q : Value → Shared → Prop} (R : SetS P w s.heap a l) (hb : l.length + 1 < scanBound)
    (h : ∀ h', Heap.SameBut a s.heap h' → SetS P w h' a (addL l k) → Q .none { s with heap := h', toks := s.toks + 1 }) :
    wpAny (model P w) A (call (.builtin "set.add") [.ref a, .str k u]) Q E s := by
  obtain ⟨D, ho, T0, nd, r, led⟩ := R
  refine wpAny_call_entry F.slot_set_add ⟨_, ho, rfl⟩ F.entry_set_add ?_ (F.args_set_add_2 _ _)
  unfold Builtin.«set.add» Builtin.Frozenset.oneOther
  simp only [List.isEmpty_nil, bind_assoc]
  unfold Builtin.Frozenset.addrOf setAdd
  refine wpAny_bind (wpAny_pure ?_)
  try dsimp only
  refine wpAny_bind (wpAny_pure ?_)
  try dsimp only
  refine wpAny_bind (wpAny_holding (wpAny_bind ((strKind P w).pyHash (is_str k u) ?_)))
  by_cases hk : k ∈ l
  · refine had_x (s := { s with toks := s.toks + 1 }) ho T0 hk (by omega) ?_
    show wpAny _ _ (ret Value.none) _ _ _
    refine wpAny_pure ⟨_, rfl, h s.heap (Heap.SameBut.refl a s.heap) ?_⟩
    unfold addL
    rw [if_pos hk]
    exact ⟨D, ho, T0, nd, r, led⟩
  · refine add_x (s := { s with toks := s.toks + 1 }) ho T0 hk hb ?_
    show wpAny _ _ (ret Value.none) _ _ _
    refine wpAny_pure ⟨_, rfl, h _ (Heap.SameBut.update s.heap a _) ?_⟩
    unfold addL
    rw [if_neg hk]
    obtain ⟨r', l'⟩ := addTx_ris (h := hashStr w k) (v := .str k u) r led
    exact ⟨_, get_upd _ ho rfl, add_ok u T0, List.nodup_cons.mpr ⟨hk, nd⟩, r', l'⟩
end
/-! ### sorted of it -/
section
variable {P : Program} {w : World} {A : Around} {E : Value → Shared → Prop} {s : Shared} {a : Addr} {l : List Str}
theorem strs_mem {out : List Value} : ∀ (_ : ∀ v ∈ out, ∃ x t, v = Value.str x t), ∃ xs : List Str, StrsAre out xs := by
  induction out with
  | nil => exact fun _ => ⟨[], .nil⟩
  | cons v out ih =>
    intro h
    obtain ⟨xs, hx⟩ := ih fun u hu => h u (List.mem_cons_of_mem _ hu)
    obtain ⟨x, t, rfl⟩ := h v (List.mem_cons_self ..)
    exact ⟨x :: xs, .cons x t hx⟩
theorem perm_sub {α : Type} [DecidableEq α] : ∀ {l m : List α}, l.Nodup → (∀ x ∈ l, x ∈ m) → m.length = l.length → l.Perm m
  | [], m, _, _, e => by
    rw [List.length_eq_zero_iff.mp e]
  | x :: l, m, nd, h, e => by
    rw [List.nodup_cons] at nd
    have hx := h x (List.mem_cons_self ..)
    have p := List.perm_cons_erase hx
    refine (List.Perm.cons x (perm_sub nd.2 (fun y hy => ?_) ?_)).trans p.symm
    · exact (List.mem_erase_of_ne (fun z => nd.1 (by rw [← z]; exact hy))).mpr (h y (List.mem_cons_of_mem _ hy))
    · rw [List.length_erase_of_mem hx, e]
      rfl
theorem strs_in {out : List Value} {xs : List Str} (h : StrsAre out xs) : ∀ x ∈ xs, ∃ t, Value.str x t ∈ out := by
  induction h with
  | nil => exact fun x hx => nomatch hx
  | cons y t h ih =>
    intro x hx
    rcases List.mem_cons.mp hx with rfl | hx
    · exact ⟨t, List.mem_cons_self ..⟩
    · obtain ⟨u, hu⟩ := ih x hx
      exact ⟨u, List.mem_cons_of_mem _ hu⟩
theorem strs_out {out : List Value} {xs : List Str} (h : StrsAre out xs) : ∀ x t, Value.str x t ∈ out → x ∈ xs := by
  induction h with
  | nil => exact fun x t hx => nomatch hx
  | cons y u h ih =>
    intro x t hx
    rcases List.mem_cons.mp hx with e | hx
    · cases e
      exact List.mem_cons_self ..
    · exact List.mem_cons_of_mem _ (ih x t hx)
theorem strs_len {out : List Value} {xs : List Str} (h : StrsAre out xs) : xs.length = out.length := by
  induction h with
  | nil => rfl
  | cons y u h ih => exact congrArg (· + 1) ih
/-- the members, gathered, are the texts l in some order -/
theorem members {D : SD} {out : List Value} (T0 : TxOk P w D l) (nd : l.Nodup) (p : out.Perm (D.1.toList.map (·.2))) : ∃ xs, StrsAre out xs ∧ xs.Perm l := by
  obtain ⟨xs, hx⟩ := strs_mem (out := out) fun v hv => by
    obtain ⟨e, he, q⟩ := List.mem_map.mp (p.mem_iff.mp hv)
    obtain ⟨⟨k, ek, _⟩, _⟩ := T0.el e he
    obtain ⟨t, et⟩ := Value.isStrOf_shape (x := k) (v := e.2) ek
    exact ⟨k, t, by rw [← q, et]⟩
  refine ⟨xs, hx, (perm_sub nd (fun x h => ?_) ?_).symm⟩
  · obtain ⟨e, he, q⟩ := (T0.mem x).mp h
    obtain ⟨t, et⟩ := Value.isStrOf_shape (x := x) (v := e.2) q
    exact strs_out hx x t (p.mem_iff.mpr (List.mem_map.mpr ⟨e, he, et⟩))
  · rw [strs_len hx, p.length_eq, List.length_map, Array.length_toList]
    exact T0.sz
end
section
variable {X : Cx}
/-- the set of the texts l at a -/
def SetSO (P : Program) (w : World) (a : Addr) (l : List Str) : HO := .ext fun h => SetS P w h a l
theorem setSO_new {P : Program} {w : World} {H : Hp} {h : Heap} {a : Addr} {l : List Str} (R : SetS P w h a l) : ObjOk P w H h a (SetSO P w a l) := by
  have ⟨D, ho, _⟩ := R
  exact ⟨R, ⟨_, ho⟩, fun h1 h2 p k => SetS.at p k⟩
def rSortedS : List V → Hp → VK → Prop := fun vs H Q => ∃ (P : Program) (w : World) (a : Addr) (l : List Str), P = X.prog ∧ w = X.w ∧ vs = [V.ref a] ∧ H a = some (SetSO X.prog X.w a l) ∧ l.length < 64 ∧
  ∀ (ys : List Str) (p : Addr), ys.Perm l → sortedS ys = true → H p = none → Q (.ref p) (upd H p (.lst (ys.map V.str)))
theorem cr_sortedSet (hc : X.calm = true) : CallR X (.builtin "sorted") (rSortedS (X := X)) := by
  intro pins s σ H vs us Q I r h
  obtain ⟨_, _, a, l, rfl, rfl, rfl, ha, h64, q⟩ := h
  rw [Vals.ref1 r]
  obtain ⟨D, ho, T0, nd, rs, led⟩ := (I.hok a _ ha).1
  refine Calls.call_function_entry kind_sorted plain_sorted entry_sorted (args_sorted1 _) ?_
  unfold Builtin.«sorted»
  refine wpAny_bind (m := checkCount "sorted" 1 1 _) (wpAny_pure ?_)
  have sz : D.1.size = l.length := T0.sz
  refine wpAny_bind (collect_set (A := X.A.in1) (es := D.1) (ep := D.2.1) (t := D.2.2) (I.ok.hd hc) ⟨_, ho, rfl, rfl⟩ T0.fit (by rw [sz]; exact Nat.lt_trans h64 (by decide)) rs led fun s1 out k1 hz g1 o1 pm => ?_)
  obtain ⟨xs, hS, px⟩ := members T0 nd pm
  have ol : out.length = l.length := by rw [← strs_len hS, px.length_eq]
  refine wpAny_bind (wpAny_newList ?_ (by rw [ol, sizeLine_eq]; omega))
  have hoL : (s1.heap.push (seqObj "list" out.toArray 0)).get? s1.heap.objs.size = some (seqObj "list" out.toArray 0) := Heap.get?_push_size _ rfl
  refine wpAny_bind (wpAny_holding (wpAny_call_entry slot_list_sort ⟨_, hoL, rfl⟩ entry_list_sort
    (list_sort_treeK strKind_oneLt hoL hS.keysOf (fun v₁ v₂ rest e => keyKind_strs (by rw [← e]; exact hS)) (by rw [ol]; exact h64) fun st' hp hs => ⟨_, rfl, ?_⟩) (args_list_sort _)))
  obtain ⟨ys, y1, y2, y3⟩ := sorted_out_str hS hp hs
  obtain ⟨e', he'⟩ := sortedHeap_at (vs := out) (out := (arrOf st').map (·.2)) hoL
  have yl : ys.length = l.length := by rw [y2.length_eq, px.length_eq]
  have kk : ∀ b o, s.heap.get? b = some o → (sortedHeap (s1.heap.push (seqObj "list" out.toArray 0)) s1.heap.objs.size out ((arrOf st').map (·.2))).get? b = some o := fun b o e => by
    have q1 := k1 b o e
    have lt := Heap.lt_size q1
    rw [sortedHeap_old (Nat.ne_of_lt lt) (by rw [size_push']; exact Nat.lt_succ_of_lt lt)]
    exact Heap.get?_push_of_some _ q1
  have hn : H s1.heap.objs.size = none := I.hok.fresh hz
  have J : Inv X pins σ (upd H s1.heap.objs.size (.lst (ys.map V.str))) { s1 with heap := sortedHeap (s1.heap.push (seqObj "list" out.toArray 0)) s1.heap.objs.size out ((arrOf st').map (·.2)) } := by
    have J' : Inv X pins σ (upd H s1.heap.objs.size (.lst (ys.map V.str))) { s with heap := sortedHeap (s1.heap.push (seqObj "list" out.toArray 0)) s1.heap.objs.size out ((arrOf st').map (·.2)), gens := s1.gens, drawn := s1.drawn, toks := s1.toks } :=
      I.call (ch := []) (Un.laid kk hz hn) (I.hok.laid kk hz (show ObjOk X.prog X.w _ _ _ (.lst (ys.map V.str)) from ⟨by rw [List.length_map, yl, sizeLine_eq]; omega, ((arrOf st').map (·.2)).toList, e', vals_of_strs y1, by rw [Array.toArray_toList]; exact he'⟩)) (by rw [g1]; exact I.bare) (fun _ z => nomatch z)
    have e2 : ({ s1 with heap := sortedHeap (s1.heap.push (seqObj "list" out.toArray 0)) s1.heap.objs.size out ((arrOf st').map (·.2)) } : Shared) = { s with heap := sortedHeap (s1.heap.push (seqObj "list" out.toArray 0)) s1.heap.objs.size out ((arrOf st').map (·.2)), gens := s1.gens, drawn := s1.drawn, toks := s1.toks } := by
      rw [← o1]
    rw [e2]
    exact J'
  exact wpAny_pure ⟨_, rfl, .ref s1.heap.objs.size, _, J, rfl, q ys _ (y2.trans px) y3 hn⟩
end
end ScS
namespace ScS
open PySem PySem.Spec PyProof.Rows L2 PySem.Froz
/-! ### {elt for t0 in i0 for t1 in i1}, elt a text -/
abbrev sc2 (elt t0 i0 t1 i1 : Expr) (scope : Scope) (pos : Pos) : Expr := .SetComp elt [⟨t0, i0, [], 0⟩, ⟨t1, i1, [], 0⟩] scope pos
section
variable {prog : Program} {w : World} {A : Around} {R : Result → Shared → Prop} {s : Shared} {elt t0 i0 t1 i1 : Expr} {scope : Scope} {pos : Pos} {it acc : Value} {env : Env}
theorem turn_out : compTurn (sc2 elt t0 i0 t1 i1 scope pos) 0 it acc env = (do
      standAt i0.pos
      match ← pyNext it with
      | none => pure (.done .next)
      | some v =>
        letOwnedTupleGo t0 it v
        assign t0 env v
        let mut ok := true
        for c in ([] : List Expr) do
          if ok then ok ← isTrue c env (eval c env)
        if ok then
          let x ← eval i1 env
          standAt i1.pos
          let x ← foldedSetIterable i1 env x
          let _ ← runOwn (.compStart (sc2 elt t0 i0 t1 i1 scope pos) 1 (← holding [x] (pyIter x)) acc env) env
        again (.compLoop (sc2 elt t0 i0 t1 i1 scope pos) 0 it acc env)) := by rfl
theorem turn_in : compTurn (sc2 elt t0 i0 t1 i1 scope pos) 1 it acc env = (do
      standAt i1.pos
      match ← pyNext it with
      | none => pure (.done .next)
      | some v =>
        letOwnedTupleGo t1 it v
        assign t1 env v
        let mut ok := true
        for c in ([] : List Expr) do
          if ok then ok ← isTrue c env (eval c env)
        if ok then
          (do let v ← eval elt env; standAt elt.pos; let _ ← call (.builtin "set.add") [acc, v])
        again (.compLoop (sc2 elt t0 i0 t1 i1 scope pos) 1 it acc env)) := by rfl
abbrev er (prog : Program) (w : World) (A : Around) (env : Env) (R : Result → Shared → Prop) : Value → Shared → Prop := notedBy (model prog w) A env fun e s' => R (.error e) s'
/-- what a turn of the outer loop asks -/
def askO (prog : Program) (w : World) (A : Around) (R : Result → Shared → Prop) (elt t0 i0 t1 i1 : Expr) (scope : Scope) (pos : Pos) (it acc : Value) (env : Env) (I : Nat → Shared → Prop) (n : Nat) : Option Value → Shared → Prop
  | none, s1 => R (.ok .next) s1
  | some v, s1 => wpAny (model prog w) A (letOwnedTupleGo t0 it v) (fun _ s2 => wpAny (model prog w) A (assign t0 env v) (fun _ s3 =>
      wpAny (model prog w) A (eval i1 env) (fun x s4 => wpAny (model prog w) A (pyIter x) (fun it1 s5 =>
        codeAny (model prog w) A (.compStart (sc2 elt t0 i0 t1 i1 scope pos) 1 it1 acc env) (fun r s' => match r with
          | .ok _ => ∃ m, m < n ∧ I m s'
          | .error _ => False) s5) (er prog w A env R) s4) (er prog w A env R) s3) (er prog w A env R) s2) (er prog w A env R) s1
theorem loop_out (hs : ∀ x, foldedSetIterable i1 env x = pure x) (I : Nat → Shared → Prop)
    (turn : ∀ n s, I n s → wpAny (model prog w) A (pyNext it) (askO prog w A R elt t0 i0 t1 i1 scope pos it acc env I n) (er prog w A env R) s) (n : Nat) (h : I n s) :
    codeAny (model prog w) A (.compLoop (sc2 elt t0 i0 t1 i1 scope pos) 0 it acc env) R s := by
  refine codeAny_loop rfl I (fun n s hI => ?_) n h
  show wpAny _ A ((compTurn (sc2 elt t0 i0 t1 i1 scope pos) 0 it acc env).onRaise (fun x => do noteFrame x env; theTreesLotGoes x)) _ _ s
  refine wpAny_noted ?_
  rw [turn_out]
  refine wpAny_bind (wpAny_standAt (wpAny_bind (wpAny_mono (turn n s hI) (fun r s₁ h₁ => ?_) fun _ _ h' => h')))
  match r, h₁ with
  | none, h₁ => exact wpAny_pure h₁
  | some v, h₁ =>
    refine wpAny_bind (wpAny_mono h₁ (fun _ s₂ h₂ => wpAny_bind (wpAny_mono h₂ (fun _ s₃ h₃ => ?_) fun _ _ h' => h')) fun _ _ h' => h')
    refine wpAny_bind (wpAny_pure ?_)
    simp only [if_true]
    refine wpAny_bind (wpAny_mono h₃ (fun x s₄ h₄ => ?_) fun _ _ h' => h')
    refine wpAny_bind (wpAny_standAt (wpAny_bind (wpAny_of_eq (hs x) (wpAny_bind (wpAny_holding (wpAny_mono h₄ (fun it1 s₅ h₅ => ?_) fun _ _ h' => h'))))))
    refine wpAny_bind (wpAny_runOwn ?_)
    rw [Around.mark_none]
    refine codeAny_mono h₅ fun r s' hr => ?_
    match r, hr with
    | .ok f, hr =>
      first
        | exact wpAny_pure ⟨rfl, hr⟩
        | exact wpAny_bind (wpAny_pure (wpAny_pure ⟨rfl, hr⟩))
    | .error e, hr => exact hr.elim
/-- what a turn of the inner loop asks -/
def askI (prog : Program) (w : World) (A : Around) (R : Result → Shared → Prop) (elt t1 : Expr) (it acc : Value) (env : Env) (I : Nat → Shared → Prop) (n : Nat) : Option Value → Shared → Prop
  | none, s1 => R (.ok .next) s1
  | some v, s1 => wpAny (model prog w) A (letOwnedTupleGo t1 it v) (fun _ s2 => wpAny (model prog w) A (assign t1 env v) (fun _ s3 =>
      wpAny (model prog w) A (eval elt env) (fun x s4 => wpAny (model prog w) A (call (.builtin "set.add") [acc, x]) (fun _ s5 => ∃ m, m < n ∧ I m s5) (er prog w A env R) s4) (er prog w A env R) s3) (er prog w A env R) s2) (er prog w A env R) s1
theorem loop_in (I : Nat → Shared → Prop) (turn : ∀ n s, I n s → wpAny (model prog w) A (pyNext it) (askI prog w A R elt t1 it acc env I n) (er prog w A env R) s) (n : Nat) (h : I n s) :
    codeAny (model prog w) A (.compLoop (sc2 elt t0 i0 t1 i1 scope pos) 1 it acc env) R s := by
  refine codeAny_loop rfl I (fun n s hI => ?_) n h
  show wpAny _ A ((compTurn (sc2 elt t0 i0 t1 i1 scope pos) 1 it acc env).onRaise (fun x => do noteFrame x env; theTreesLotGoes x)) _ _ s
  refine wpAny_noted ?_
  rw [turn_in]
  refine wpAny_bind (wpAny_standAt (wpAny_bind (wpAny_mono (turn n s hI) (fun r s₁ h₁ => ?_) fun _ _ h' => h')))
  match r, h₁ with
  | none, h₁ => exact wpAny_pure h₁
  | some v, h₁ =>
    refine wpAny_bind (wpAny_mono h₁ (fun _ s₂ h₂ => wpAny_bind (wpAny_mono h₂ (fun _ s₃ h₃ => ?_) fun _ _ h' => h')) fun _ _ h' => h')
    refine wpAny_bind (wpAny_pure ?_)
    simp only [if_true]
    exact wpAny_bind (wpAny_bind (wpAny_mono h₃ (fun x s₄ h₄ => wpAny_bind (wpAny_standAt (wpAny_bind (wpAny_mono h₄ (fun _ s₅ h₅ => wpAny_pure (wpAny_pure ⟨rfl, h₅⟩)) fun _ _ h' => h')))) fun _ _ h' => h'))
theorem start_in (h0 : codeAny (model prog w) A (.compLoop (sc2 elt t0 i0 t1 i1 scope pos) 1 it acc env) R s)
    (h : wpAny (model prog w) A (pyIter it) (fun it' s' => codeAny (model prog w) A (.compLoop (sc2 elt t0 i0 t1 i1 scope pos) 1 it' acc env) R s') (er prog w A env R) s) :
    codeAny (model prog w) A (.compStart (sc2 elt t0 i0 t1 i1 scope pos) 1 it acc env) R s := by
  refine codeAny_of_tree ?_
  show wpAny _ _ ((compStart (sc2 elt t0 i0 t1 i1 scope pos) 1 it acc env).onRaise (fun x => do noteFrame x env; standAt theWindowsPlace)) _ _ s
  refine wpAny_notedAt ?_
  unfold compStart
  show wpAny _ _ (ask >>= _) _ _ s
  refine wpAny_bind (wpAny_askSetting (wpAny_ite ?_))
  split
  · first
      | exact wpAny_bind (wpAny_pure (wpAny_pure (And.intro rfl h0)))
      | exact wpAny_pure (And.intro rfl h0)
  · first
      | exact wpAny_bind (wpAny_rule (wpAny_bind (wpAny_standAt (wpAny_bind (wpAny_mono h (fun it' s' h' => wpAny_pure (And.intro rfl h')) fun _ _ x => x)))))
      | (refine wpAny_bind (wpAny_rule ?_); show wpAny _ _ (standAt i1.pos >>= _) _ _ s; exact wpAny_bind (wpAny_standAt (wpAny_bind (wpAny_mono h (fun it' s' h' => wpAny_pure (And.intro rfl h')) fun _ _ x => x))))
end
section
variable {X : Cx}
theorem add_ok' {pins : List (Addr × Obj)} {σ : L2.St} {H : Hp} {s : Shared} {E : Value → Shared → Prop} {D : Addr} {l : List Str} {k : Str} {z : Value} {Q : Value → Shared → Prop} (I : Inv X pins σ H s) (hD : H D = some (SetSO X.prog X.w D l)) (room : l.length + 1 < scanBound) (rz : RelV (.str k) z)
    (h : ∀ s', Inv X pins σ (upd H D (SetSO X.prog X.w D (addL l k))) s' → Q .none s') : wpAny (model X.prog X.w) X.A (call (.builtin "set.add") [.ref D, z]) Q E s := by
  obtain ⟨u, rfl⟩ := rz
  refine add_S (I.hok D _ hD).1 room fun h' sb new => ?_
  have ⟨D', ho, _⟩ := new
  exact h _ (I.write (e := D) (t' := s.toks + 1) (by rw [hD]; trivial) (.inl rfl) (fun b u hb hu => (sb.2 b hb).trans hu) ⟨_, ho⟩ (setSO_new new))
/-- the reading -/
def tSc2 (P : Program) (w : World) (wi : TI) (g : TG) (wi1 : TI) (g1 : TG) (te : TE) (vs vs1 : List Nat) : TE := fun σ H Q => wi σ H fun J H1 => ∀ D, H1 D = none → ∃ W : Nat → Nat → Hp → Prop, (∃ m, W 0 m (upd H1 D (SetSO P w D []))) ∧ ∀ i m H, W i m H →
  (J.stop i H ∧ Q (.ref D) H) ∨ (J.go i H ∧ ∃ Nx : Hp → Prop, (∀ H', Nx H' → ∃ m', m' < m ∧ W (i + 1) m' H') ∧ ∀ x H', J.yld i H x H' → g x (wipe σ vs) H' fun σ2 H2 => wipe σ2 vs = wipe σ vs ∧
    wi1 σ2 H2 fun J1 H4 => ∃ W1 : Nat → Nat → Hp → Prop, (∃ m, W1 0 m H4) ∧ ∀ j k H, W1 j k H →
      (J1.stop j H ∧ Nx H) ∨ (J1.go j H ∧ ∃ Nx1 : Hp → Prop, (∀ H', Nx1 H' → ∃ k', k' < k ∧ W1 (j + 1) k' H') ∧ ∀ x H', J1.yld j H x H' → g1 x (wipe σ2 vs1) H' fun σ3 H5 => wipe σ3 vs1 = wipe σ2 vs1 ∧
        te σ3 H5 fun y H7 => ∃ k l, y = .str k ∧ H7 D = some (SetSO P w D l) ∧ l.length + 1 < scanBound ∧ Nx1 (upd H7 D (SetSO P w D (addL l k)))))
theorem setS_new {P : Program} {w : World} {h : Heap} : SetS P w (h.push { cls := .type "set", dict := none, data := .set #[] 0 (.fresh 0 0 (!w.params.followText "set-order")) }) h.objs.size [] := by
  refine ⟨(#[], 0, .fresh 0 0 (!w.params.followText "set-order")), Heap.get?_push_size _ rfl, TxOk.nil rfl, List.nodup_nil, List.Pairwise.nil, ?_⟩
  show _ ∨ (!w.params.followText "set-order") = true
  cases w.params.followText "set-order"
  · exact .inr rfl
  · exact .inl rfl
/-- what the outer loop keeps, in the block's own context Y -/
def KeepO (Y : Cx) (τ : L2.St) (fp : List Addr) (tn : Nat → Heap → Prop) (W : Nat → Nat → Hp → Prop) (n : Nat) (s' : Shared) : Prop := ∃ i H', Inv Y [] τ H' s' ∧ tn i s'.heap ∧ (∀ b ∈ fp, H' b = none) ∧ W i n H'
set_option maxHeartbeats 1000000 in
theorem pe_sc2 {elt tg iter tg1 iter1 : Expr} {scope : Scope} {own : List (PySem.Str × Nat)} {vs1 : List Nat} {pos : Pos} {wi wi1 : TI} {g g1 : TG} {te : TE} (hc : X.calm = true) (hN : X.N.Nodup) (hi : PI X tg iter wi) (ok : BlkOk X.N X.env.scope scope own) (hv : ∀ i ∈ vs1, i ∈ own.map (·.2))
    (hg : ∀ (s : Shared) (H : Hp) (C : Addr) (cl : List (PySem.Str × Addr)) (fp : List Addr), PG (X.blk s H scope (compEnvC scope cl C X.env) fp) tg g)
    (hi1 : ∀ (s : Shared) (H : Hp) (C : Addr) (cl : List (PySem.Str × Addr)) (fp : List Addr), PI (X.blk s H scope (compEnvC scope cl C X.env) fp) tg1 iter1 wi1)
    (hg1 : ∀ (s : Shared) (H : Hp) (C : Addr) (cl : List (PySem.Str × Addr)) (fp : List Addr), PG (X.blk s H scope (compEnvC scope cl C X.env) fp) tg1 g1)
    (he : ∀ (s : Shared) (H : Hp) (C : Addr) (cl : List (PySem.Str × Addr)) (fp : List Addr), PE (X.blk s H scope (compEnvC scope cl C X.env) fp) elt te) (hs : ∀ x, foldedSetIterable iter X.env x = pure x := by intro _; rfl) (hs1 : ∀ env x, foldedSetIterable iter1 env x = pure x := by intro _ _; rfl) :
    PE X (sc2 elt tg iter tg1 iter1 scope pos) (tSc2 X.prog X.w wi g wi1 g1 te (own.map (·.2)) vs1) := by
  refine ⟨fun pins s σ H Q I h => ?_⟩
  rw [PpSet.eval_SetComp]
  have hfree : ∀ y ∈ scope.names, y.2 = .free → ∃ c, X.env.cells.lookup y.1 = some c := fun y hy e => (ok.free y hy e).elim (fun k => I.ok.has _ (.inl k)) (fun k => I.ok.has _ (.inr k))
  refine wpAny_comprehension_free (use := none) rfl hs (closure_ok hfree) ok.kind (fun y hy e => by rw [ok.uniq y hy, e]) (thn (hi.run pins s σ H _ I h) fun xv s1 hx => thn hx fun itv s2 h2 => ?_)
  obtain ⟨it, fp, tn, J, H2, e, I2, T, st2, f2, q⟩ := h2
  subst e
  refine PpSet.newSet_ok (newEnv_comp ?_)
  generalize hD : s2.heap.objs.size = D
  have hDn : H2 D = none := I2.hok.fresh (Nat.le_of_eq hD)
  obtain ⟨W, ⟨m0, w0⟩, turn⟩ := q D hDn
  generalize hs3 : ({ s2 with heap := s2.heap.push { cls := .type "set", dict := none, data := .set #[] 0 (.fresh 0 0 (!X.w.params.followText "set-order")) } } : Shared) = s3
  have h3 : s3.heap = s2.heap.push { cls := .type "set", dict := none, data := .set #[] 0 (.fresh 0 0 (!X.w.params.followText "set-order")) } := by rw [← hs3]
  have kp3 : ∀ b o, s2.heap.get? b = some o → s3.heap.get? b = some o := fun b o e => by rw [h3]; exact Heap.get?_push_of_some _ e
  have I3 : Inv X pins σ (upd H2 D (SetSO X.prog X.w D [])) s3 := by
    rw [← hs3, ← hD]
    exact I2.laid (t' := s2.toks) (fun b o e => Heap.get?_push_of_some _ e) (Nat.le_refl _) (setSO_new setS_new)
  have f3 : ∀ b ∈ fp, FpOk X pins (upd H2 D (SetSO X.prog X.w D [])) b ∧ b < s3.heap.objs.size := fun b hb => by
    obtain ⟨o, e, _⟩ := T.obj _ _ st2 b hb
    have lt := Heap.lt_size e
    exact ⟨⟨by rw [upd_ne (by rw [← hD]; exact Nat.ne_of_lt lt)]; exact (f2 b hb).1, (f2 b hb).2⟩, Heap.lt_size (kp3 b o e)⟩
  generalize hH3 : upd H2 D (SetSO X.prog X.w D []) = H3 at I3 f3 w0
  have I4 := block_start I3 ok hN f3
  have ctx : ∀ {F : Cx → Prop}, (∀ (s : Shared) (H : Hp) (C : Addr) (cl : List (PySem.Str × Addr)) (fp : List Addr), F (X.blk s H scope (compEnvC scope cl C X.env) fp)) → F (X.blk s3 H3 scope (compEnvC scope (cellsFrom (s3.heap.objs.size + 1) scope.names (cloFrom X.env.cells scope.names [])) s3.heap.objs.size X.env) fp) := fun h => h _ _ _ _ _
  have pg := ctx (F := fun Y => PG Y tg g) hg
  have pi1 := ctx (F := fun Y => PI Y tg1 iter1 wi1) hi1
  have pg1 := ctx (F := fun Y => PG Y tg1 g1) hg1
  have pe := ctx (F := fun Y => PE Y elt te) he
  clear ctx
  show codeAny _ _ (.compStart (sc2 elt tg iter tg1 iter1 scope pos) 0 (.ref it) (.ref D) (compEnvC scope (cellsFrom (s3.heap.objs.size + 1) scope.names (cloFrom X.env.cells scope.names [])) s3.heap.objs.size X.env)) (compPost (model X.prog X.w) X.A X.xe none (EP X pins σ Q) (.ref D) s3.heap.objs.size) { s3 with heap := pushCells (s3.heap.push { cls := .type "dict", data := .dict #[] }) scope.names }
  generalize hce : compEnvC scope (cellsFrom (s3.heap.objs.size + 1) scope.names (cloFrom X.env.cells scope.names [])) s3.heap.objs.size X.env = ce at I4 pg pe pi1 pg1 ⊢
  have cL : ce.locals = s3.heap.objs.size := by subst hce; rfl
  generalize hs4 : ({ s3 with heap := pushCells (s3.heap.push { cls := .type "dict", data := .dict #[] }) scope.names } : Shared) = s4 at I4 ⊢
  have st4 : tn 0 s4.heap := T.keep _ _ _ st2 fun b _ o e => by rw [← hs4]; exact pushCells_keeps _ _ _ _ (Heap.get?_push_of_some _ (kp3 b o e))
  have stat : ∀ {τ : L2.St} {H' : Hp} {s' : Shared}, Inv (X.blk s3 H3 scope ce fp) [] τ H' s' → (∀ b ∈ fp, H' b = none) → ∀ b ∈ fp, FpOk (X.blk s3 H3 scope ce fp) [] H' b := fun {τ H' s'} I' hn b hb =>
    ⟨hn b hb, (I'.ok.exf b hb).1, I'.ok.exfs b hb, .inl hb, fun x c e => (I'.ok.exf b hb).2 x c e, fun p hp => nomatch (show p ∈ ([] : List (Addr × Obj)) from by simpa using hp)⟩
  have loop : codeAny (model X.prog X.w) X.A (.compLoop (sc2 elt tg iter tg1 iter1 scope pos) 0 (.ref it) (.ref D) ce) (compPost (model X.prog X.w) X.A X.xe none (EP X pins σ Q) (.ref D) s3.heap.objs.size) s4 := by
    refine loop_out (hs1 ce) (KeepO (X.blk s3 H3 scope ce fp) (wipe σ (own.map (·.2))) fp tn W) ?_ m0 ⟨0, H3, I4, st4, fun b hb => (f3 b hb).1.1, w0⟩
    rintro n s5 ⟨i, H5, I5, st5, n5, w5⟩
    rcases turn i n H5 w5 with ⟨stop, qq⟩ | ⟨go, Nx, hNx, step⟩
    · refine thnF (T.done (X.blk s3 H3 scope ce fp) rfl rfl rfl hc i [] s5 _ H5 (fun _ _ => False) I5 (stat I5 n5) st5 stop) fun r s6 ⟨hr, I6⟩ => ?_
      subst hr
      have I7 : Inv X pins σ H5 s6 := I3.call' (ch := fp) I6.os I6.base I6.hok I6.bare fun b hb => ⟨(f3 b hb).1.2.2.2.1, (f3 b hb).1.2.1, (f3 b hb).1.2.2.2.2.1, (f3 b hb).1.2.2.2.2.2⟩
      have nC : H5 s3.heap.objs.size = none := cL ▸ (show H5 ce.locals = none from I6.free)
      obtain ⟨m, hn, _⟩ := I6.loc
      have hn : s6.heap.Ns s3.heap.objs.size m := cL ▸ (show s6.heap.Ns ce.locals m from hn)
      obtain ⟨c0, c1, c2, c3, c4, c5⟩ := I3.fpOk (Nat.le_refl _) nC
      exact ⟨m, hn, fun h'' sb => ⟨.ref D, H5, I7.turned (t' := s6.toks) (fun b o hb e => (sb.2 b hb).trans e) c0 c1 c3 c4 c5, rfl, qq⟩⟩
    · refine thnF (T.item (X.blk s3 H3 scope ce fp) rfl rfl rfl hc i [] s5 _ H5 (fun _ _ => False) I5 (stat I5 n5) st5 go) fun r s6 ⟨u, hr, h6⟩ => ?_
      subst hr
      refine thnF h6 fun _ s7 ⟨x, H7, I7, r7, y7, st7, n7⟩ => ?_
      have I7' := I7.pinned (stat I7 n7) (T.obj _ _ st7)
      refine thnF (pg.run _ s7 _ H7 x u _ I7' r7 (step x H7 y7)) fun _ s8 ⟨σ8, H8, I8, hw8, q8⟩ => ?_
      -- from any slots that know what the block knew at its start
      have fin : ∀ {τ : L2.St} {s' : Shared} {H' : Hp}, Inv (X.blk s3 H3 scope ce fp) ([] ++ pinsAt fp s7.heap) τ H' s' → (wipe σ (own.map (·.2))).length = τ.length → (∀ (j : Nat) v, (wipe σ (own.map (·.2)))[j]? = some (some v) → τ[j]? = some (some v)) → Nx H' →
          ∃ m, m < n ∧ KeepO (X.blk s3 H3 scope ce fp) (wipe σ (own.map (·.2))) fp tn W m s' := fun {τ s' H'} I' hl hk nx => by
        obtain ⟨m', hm, w'⟩ := hNx H' nx
        have pin' : ∀ b ∈ fp, ∀ o, s7.heap.get? b = some o → s'.heap.get? b = some o ∧ H' b = none := fun b hb o e =>
          let z := I'.pin (b, o) (List.mem_append_right _ (List.mem_append_right _ (mem_pinsAt hb e)))
          ⟨z.1, z.2.1⟩
        refine ⟨m', hm, i + 1, H', (I'.unpinned (pins := [])).weak hl hk, T.keep _ _ _ st7 fun b hb o e => (pin' b hb o e).1, fun b hb => ?_, w'⟩
        obtain ⟨o, e, _⟩ := T.obj _ _ st7 b hb
        exact (pin' b hb o e).2
      have hk9 : ∀ (j : Nat) v, (wipe σ (own.map (·.2)))[j]? = some (some v) → (wipe σ8 vs1)[j]? = some (some v) := fun j v e => by
        rw [← hw8] at e
        obtain ⟨e1, e2⟩ := wipe_some e
        rw [wipe_out fun z => e2 (hv j z)]
        exact e1
      have hl9 : (wipe σ (own.map (·.2))).length = (wipe σ8 vs1).length := by rw [← hw8, wipe_length, wipe_length]
      refine thnF (pi1.run _ s8 σ8 H8 _ I8 q8) fun xv s10 hx => thnF hx fun itv s11 h11 => ?_
      obtain ⟨it1, fp1, tn1, J1, H11, e1, I11, T1, st11, f11, W1, ⟨m1, w1⟩, turn1⟩ := h11
      subst e1
      have stat1 : ∀ {H' : Hp}, (∀ b ∈ fp1, H' b = none) → ∀ b ∈ fp1, FpOk (X.blk s3 H3 scope ce fp) ([] ++ pinsAt fp s7.heap) H' b := fun hn b hb => ⟨hn b hb, (f11 b hb).2⟩
      have loop1 : codeAny (model X.prog X.w) X.A (.compLoop (sc2 elt tg iter tg1 iter1 scope pos) 1 (.ref it1) (.ref D) ce)
          (fun r s' => match r with
            | .ok _ => ∃ m, m < n ∧ KeepO (X.blk s3 H3 scope ce fp) (wipe σ (own.map (·.2))) fp tn W m s'
            | .error _ => False) s11 := by
        refine loop_in (fun k s' => ∃ j H', Inv (X.blk s3 H3 scope ce fp) ([] ++ pinsAt fp s7.heap) (wipe σ8 vs1) H' s' ∧ tn1 j s'.heap ∧ (∀ b ∈ fp1, H' b = none) ∧ W1 j k H') ?_ m1 ⟨0, H11, I11.weak (wipe_length _ _) (fun j v e => (wipe_some e).1), st11, fun b hb => (f11 b hb).1, w1⟩
        rintro k s12 ⟨j, H12, I12, st12, n12, w12⟩
        rcases turn1 j k H12 w12 with ⟨stop1, nx1⟩ | ⟨go1, Nx1, hNx1, step1⟩
        · refine thnF (T1.done (X.blk s3 H3 scope ce fp) rfl rfl rfl hc j _ s12 (wipe σ8 vs1) H12 (fun _ _ => False) I12 (stat1 n12) st12 stop1) fun r s13 ⟨hr, I13⟩ => ?_
          subst hr
          exact fin I13 hl9 hk9 nx1
        · refine thnF (T1.item (X.blk s3 H3 scope ce fp) rfl rfl rfl hc j _ s12 (wipe σ8 vs1) H12 (fun _ _ => False) I12 (stat1 n12) st12 go1) fun r s13 ⟨u1, hr, h13⟩ => ?_
          subst hr
          refine thnF h13 fun _ s14 ⟨x1, H14, I14, r14, y14, st14, n14⟩ => ?_
          have I14' := I14.pinned (stat1 n14) (T1.obj _ _ st14)
          refine thnF (pg1.run _ s14 (wipe σ8 vs1) H14 x1 u1 _ I14' r14 (step1 x1 H14 y14)) fun _ s15 ⟨σ15, H15, I15, hw15, q15⟩ => ?_
          refine thnF (pe.run _ s15 σ15 H15 _ I15 q15) fun z s17 ⟨yv, H17, I17, r17, kt, lt, ey, hD17, hz17, nx⟩ => ?_
          subst ey
          refine add_ok' (X := X.blk s3 H3 scope ce fp) I17 hD17 hz17 r17 fun s18 I18 => ?_
          obtain ⟨m', hm, w'⟩ := hNx1 _ nx
          have pin1 : ∀ b ∈ fp1, ∀ o, s14.heap.get? b = some o → s18.heap.get? b = some o ∧ _ = none := fun b hb o e =>
            let z := I18.pin (b, o) (List.mem_append_right _ (List.mem_append_right _ (mem_pinsAt hb e)))
            ⟨z.1, z.2.1⟩
          refine ⟨m', hm, j + 1, _, I18.unpinned.weak (by rw [← hw15, wipe_length]) (fun j v e => by rw [← hw15] at e; exact (wipe_some e).1), T1.keep _ _ _ st14 fun b hb o e => (pin1 b hb o e).1, fun b hb => ?_, w'⟩
          obtain ⟨o, e, _⟩ := T1.obj _ _ st14 b hb
          exact (pin1 b hb o e).2
      exact start_in loop1 (T1.self X.A 0 _ _ _ st11 loop1)
  exact PpSet.codeAny_compStart_set loop (T.self X.A 0 _ _ _ st4 loop)
end
end ScS
namespace KyS
open PySem PySem.Spec PyProof.Rows L2 LamX
section
variable {prog : Program} {w : World} {A : Around} {s : Shared} {f c' t : Addr} {qual y x : Str} {params : Arguments} {scope : Scope} {cl : List (Str × Addr)} {pm ctv : Value} {p1 p2 p3 : Pos} {j : Nat} {its : List Value} {tk : Tok}
/-- a lambda that tells the first item of the tuple it gets, a text -/
theorem lam_first (hroom : A.depth < recursionLimit) (lim : s.heap.NoLimit)
    (hf : s.heap.get? f = some (PySem.W.kla_obj "<lambda>" qual params (.Subscript (.Name y p1) (.Constant (.int 0) j p2) p3) scope cl pm c' ctv))
    (hcd : s.heap.CodeRec (.ref c') qual) (hk : scope.kind = .function) (hco : scope.isCoroutine = false) (hgen : scope.isGenerator = false) (hcell : ∀ z ∈ scope.names, z.2 ≠ .cell)
    (hbind : ∀ v : Value, bindArgs (PySem.W.kla_fn "<lambda>" qual params (.Subscript (.Name y p1) (.Constant (.int 0) j p2) p3) scope cl pm (.ref c') ctv) ⟨[v], []⟩ = pure [(y, v)])
    (hloc : scope.names.lookup y = some .local) (hd : (y == ("__debug__" : Str)) = false) (ht : IsTup s.heap t its.toArray) (h0 : its[0]? = some (.str x tk)) :
    wpAny (model prog w) A (call (.ref f) [.ref t]) (PySem.W.KeyPure (.str x) s) (fun _ _ => False) s := by
  refine wpAny_call ?_
  refine PySem.W.kla_callFunE hroom hf rfl hco hgen rfl hcd ?_
  rw [hbind]
  refine wpAny_pure (wpAny_newFunctionEnv hcell (fun z hz => by rw [List.mem_singleton.mp hz]; exact hloc) (fun h₁ hns hsb => ⟨lim.fresh _ hsb, ?_⟩) hk)
  have kp : ∀ b o, s.heap.get? b = some o → h₁.get? b = some o := fun b o e => hsb.extBut b o (Nat.ne_of_lt (Heap.lt_size e)) (Heap.get?_push_of_some _ e)
  show codeAny _ _ (.expr _ (PySem.W.envX qual scope s.heap.objs.size f (.ref c') cl)) _ _
  refine PySem.W.kla_codeExpr ?_
  refine Subscript_ ?_
  have hl : (PySem.W.envX qual scope s.heap.objs.size f (.ref c') cl).kindOf y = some .local := hloc
  refine wpAny_Name (wpAny_loadName_local (v := .ref t) hk hl hns (by simp) ?_) hd
  refine wpAny_Constant_int ?_
  obtain ⟨ob, e, c⟩ := ht
  have ht' : IsTup h₁ t its.toArray := ⟨ob, kp _ _ e, c⟩
  have hlen : 0 < its.length := (List.getElem?_eq_some_iff.mp h0).1
  refine item_tupleL (j := 0) ht' (by decide) (by decide) (by
    have e : decide ((0 : Int) < (its.length : Int)) = true := decide_eq_true (by omega)
    simp [seqIndex?, hlen]) h0 ?_
  exact ⟨_, _, rfl, kp, .str x tk⟩
end
/-! ### sorted(xs, key=f), xs a list or a tuple -/
section
variable {prog : Program} {w : World} {A : Around} {E : Value → Shared → Prop} {s : Shared}
theorem leS_of {a b : Str} (h : decide (a.cps.toList ≤ b.cps.toList) = true) : SS.leS a b := by
  show ltCps b.cps.toList a.cps.toList = false
  rw [ltCps_eq]
  exact decide_eq_false fun q => List.not_lt.mpr (of_decide_eq_true h) q
theorem sorted_key_seq {β : Type} {R : Value → β → Prop} {bs : List β} {l : Addr} {T : String} {o : Obj} {n : Nat} {vs : List Value} {f : Value} {kw : List (Str × Value)} {Q : Value → Shared → Prop} (k : β → Str) (hT : T = "list" ∨ T = "tuple")
    (ho : s.heap.get? l = some o) (hc : o.cls = .type T) (hd : o.data = .seq vs.toArray n) (e : PySem.W.EachIs R vs bs) (hL : vs.length ≤ sizeLine) (hu : A.units + 10 < cLine)
    (ha1 : argsOk "sorted" ⟨[.ref l], kw⟩) (ha2 : ∀ x, argsOk "list.sort" ⟨[.ref x], kw⟩) (ht : ∀ x, Builtin.«list.sort» ⟨[.ref x], kw⟩ = PyProof.Rows.ksk_tree x f false)
    (turn : ∀ (v : Value) (x : β), R v x → x ∈ bs → ∀ (h : Heap) (tk : Nat), (∀ b o, s.heap.get? b = some o → h.get? b = some o) →
      wpAny (model prog w) A.in1.in1 (call f [v]) (PySem.W.KeyPure (.str (k x)) { s with heap := h, toks := tk }) (fun _ _ => False) { s with heap := h, toks := tk })
    (h : ∀ (h1 : Heap) (D : Addr) (out : List Value) (c : Nat) (h' : Heap) (tk : Nat) (ys : List β), (∀ b o, s.heap.get? b = some o → h1.get? b = some o) → (∀ b o, h1.get? b = some o → h'.get? b = some o) → h1.objs.size ≤ D → h'.get? D = some (seqObj "list" (List.toArray out) c) → out.length = vs.length → PySem.W.EachIs R out ys → ys.Perm bs → (ys.map k).Pairwise SS.leS →
      Q (.ref D) { s with heap := h', toks := tk }) :
    wpAny (model prog w) A (call (.builtin "sorted") [.ref l] kw) Q E s := by
  refine call_function_entry_kw kind_sorted plain_sorted entry_sorted ha1 ?_
  unfold Builtin.«sorted»
  refine wpAny_bind (m := checkCount "sorted" 1 1 _) (wpAny_pure ?_)
  refine wpAny_bind (wpAny_collect_seq l hT ho hc hd (fun h1 k1 => ?_) (by simpa using hL))
  rw [List.toList_toArray]
  refine wpAny_bind (wpAny_newList ?_ hL)
  have hD : (h1.push (seqObj "list" vs.toArray 0)).get? h1.objs.size = some (seqObj "list" vs.toArray 0) := Heap.get?_push_size _ rfl
  refine wpAny_bind (wpAny_holding (wpAny_call_entry_kw slot_list_sort ⟨_, hD, rfl⟩ entry_list_sort ?_ (ha2 _)))
  rw [ht]
  have up : ∀ {g : Heap}, PySem.W.KeepsBut h1.objs.size (h1.push (seqObj "list" vs.toArray 0)) g → ∀ b o, s.heap.get? b = some o → g.get? b = some o := fun {g} kp b o q =>
    kp b o (Nat.ne_of_lt (Heap.lt_size (k1 b o q))) (Heap.get?_push_of_some _ (k1 b o q))
  refine PySem.W.keyH_tree (kz := bs.map fun b => .str (k b)) (s := { s with heap := h1.push (seqObj "list" vs.toArray 0) }) hD (by rw [List.length_map]; exact e.length.symm) hL (PySem.W.AllAlike.of fun _ _ => by simp [PySem.W.alike]) (PySem.W.Sortable.others fun _ => ⟨by simp, fun _ => by simp⟩) ?_
    (PySem.W.keyH_turns (k := fun b => .str (k b)) (s := { s with heap := h1.push (seqObj "list" vs.toArray 0) }) e fun v x hR hx h tk kp => turn v x hR hx h tk (up kp)) fun h' tk out c kp hD' ko => ?_
  · intro d hd'
    obtain ⟨b, _, rfl⟩ := List.mem_map.mp hd'
    show A.units + 1 + 1 + PyData.depth (.str (k b)) < cLine
    simp only [PyData.depth]
    omega
  · refine ⟨_, rfl, wpAny_pure ⟨_, rfl, ?_⟩⟩
    refine h h1 h1.objs.size out c h' tk (bs.mergeSort (PySem.W.dataLe false fun b => .str (k b))) k1 (fun b o q => kp b o (Nat.ne_of_lt (Heap.lt_size q)) (Heap.get?_push_of_some _ q)) (Nat.le_refl _) hD' ?_ (PySem.W.keyedOut_each (fun b => .str (k b)) ko e) (List.mergeSort_perm _ _) ?_
    · exact ko.length (by rw [List.length_map]; exact e.length.symm)
    · rw [List.pairwise_map, PySem.W.dataLe_str]
      refine (List.pairwise_mergeSort (le := fun a b => decide ((k a).cps.toList ≤ (k b).cps.toList)) (fun a b c h1 h2 => ?_) (fun a b => ?_) bs).imp fun h => leS_of h
      · exact decide_eq_true (List.le_trans (of_decide_eq_true h1) (of_decide_eq_true h2))
      · rcases List.le_total (k a).cps.toList (k b).cps.toList with q | q
        · simp [q]
        · simp [q]
end
end KyS
namespace KyS
open PySem PySem.Spec PyProof.Rows L2 LamX
theorem SqT.extN {K : PySem.W.Frag} {H H' : Hp} {a : Addr} {xs : List V} (h : SqT K H a xs) (e : ExtN H H') : SqT K H' a xs := by
  rcases h with (h | ⟨o, h⟩) | h
  · exact .inl (.inl (e _ _ h fun ps => by simp))
  · exact .inl (.inr ⟨o, e _ _ h fun ps => by simp⟩)
  · exact .inr h
theorem SqL.extN {K : PySem.W.Frag} {H H' : Hp} {a : Addr} {xs : List V} (h : SqL K H a xs) (e : ExtN H H') : SqL K H' a xs := by
  rcases h with (h | ⟨o, h⟩) | h
  · exact .inl (.inl (e _ _ h fun ps => by simp))
  · exact .inl (.inr ⟨o, e _ _ h fun ps => by simp⟩)
  · exact .inr h
/-- its one name is its parameter -/
structure LamP (y : Str) (scope : Scope) : Prop where
  kind : scope.kind = .function
  co : scope.isCoroutine = false
  gen : scope.isGenerator = false
  names : scope.names = [(y, .local)]
/-- an item: where it lies, its first item, the other ones -/
abbrev It := Addr × Str × List V
def tSortKey (K : PySem.W.Frag) (T : List (Addr × Str)) (tx : TE) : TE := fun σ H Q => tx σ H fun v H1 => ∃ (a : Addr) (zs : List It), v = .ref a ∧ (SqL K H1 a (zs.map fun z => V.ref z.1) ∨ SqT K H1 a (zs.map fun z => V.ref z.1)) ∧
  (∀ z ∈ zs, SqT K H1 z.1 (.str z.2.1 :: z.2.2)) ∧ Tabs T H1 ∧
  ∀ (H3 : Hp) (D : Addr) (ys : List It), ExtN H1 H3 → Tabs T H3 → ys.Perm zs → (ys.map fun z => z.2.1).Pairwise SS.leS → (∀ u, H1 D = some u → ∃ ps, u = .tbl ps) → H3 D = some (.lst (ys.map fun z => V.ref z.1)) → Q (.ref D) H3
theorem vals_refs {α : Type} (f : α → Addr) : ∀ {zs : List α} {its : List Value}, Vals (zs.map fun z => V.ref (f z)) its → its = zs.map fun z => Value.ref (f z)
  | [], _, r => by cases r; rfl
  | z :: zs, _, r => by
    cases r with
    | cons h t =>
      rw [vals_refs f t]
      exact congrArg (· :: _) h
theorem each_refs {α : Type} (f : α → Addr) : ∀ zs : List α, PySem.W.EachIs (fun (v : Value) (z : α) => v = Value.ref (f z)) (zs.map fun z => Value.ref (f z)) zs
  | [] => .nil
  | _ :: zs => .cons rfl (each_refs f zs)
theorem of_each_refs {α : Type} (f : α → Addr) : ∀ {vs : List Value} {zs : List α}, PySem.W.EachIs (fun (v : Value) (z : α) => v = Value.ref (f z)) vs zs → vs = zs.map fun z => Value.ref (f z)
  | _, _, .nil => rfl
  | _, _, .cons h t => by rw [h, of_each_refs f t]; rfl
theorem vals_of_refs {α : Type} (f : α → Addr) : ∀ zs : List α, Vals (zs.map fun z => V.ref (f z)) (zs.map fun z => Value.ref (f z))
  | [] => .nil
  | _ :: zs => .cons rfl (vals_of_refs f zs)
section
variable {X : Cx}
/-- sorted(xs, key=lambda y: y[0]) -/
theorem pe_sortedKey0 {T : List (Addr × Str)} {y : Str} {c P : Addr} {k : Nat} {params : Arguments} {scope : Scope} {e : Expr} {te : TE} {j : Nat} {p p1 p2 p3 lpos kpos pos : Pos} (hg : Gl X (Str.ofString "sorted")) (hm : X.mg (Str.ofString "sorted") = none) (ha : PE X e te)
    (TB : TabB X.base X.mg c P) (hcode : X.env.code = .ref c) (hmT : (P, X.env.qual ++ "<lambda>") ∈ T) (hu : ∀ p ∈ T, p.1 = P → p.2 = X.env.qual ++ "<lambda>") (hr : Room (k + 2) X.A) (L : LamP y scope) (hdef : defaultsOf params X.env = ([], []))
    (hbind : ∀ (q : Str) (cl : List (Str × Addr)) (pm cv ctv : Value) (v : Value), bindArgs (PySem.W.kla_fn "<lambda>" q params (.Subscript (.Name y p1) (.Constant (.int 0) j p2) p3) scope cl pm cv ctv) ⟨[v], []⟩ = pure [(y, v)])
    (hd : (y == ("__debug__" : Str)) = false := by decide)
    (he : backTo pos (starEach [e] X.env) = (false, eval e X.env) :: backTo pos (starEach [] X.env) := by rfl) (hpl : (backTo pos (starEach [e] X.env)).any (·.1) = false := by rfl) :
    PE X (.Call (.Name (Str.ofString "sorted") p) [e] [⟨some (Str.ofString "key"), .Lambda params (.Subscript (.Name y p1) (.Constant (.int 0) j p2) p3) scope lpos, kpos⟩] pos) (tSortKey X.K T te) := by
  refine ⟨fun pins s σ H Q I h => ?_⟩
  refine wpAny_Call_Name_kw (ld_blt I hg hm (by decide +kernel : bootBuiltins (Str.ofString "sorted") = some (.builtin "sorted")) ?_ (by decide) (by decide))
  refine PyProof.Rows.callWith_kw ?_ he hpl rfl rfl
  rw [he]
  show wpAny _ _ (spliced ((false, eval e X.env) :: [])) _ _ s
  refine Calls.spliced_cons (thn (ha.run pins s σ H _ I h) fun u s1 ⟨x, H1, I1, r1, q1⟩ => ?_)
  obtain ⟨a, zs, rfl, hseq, hit, hT, hq⟩ := q1
  obtain rfl : u = Value.ref a := r1
  refine Calls.spliced_nil ?_
  show wpAny _ _ (evalAll ((do let v ← eval (.Lambda params (.Subscript (.Name y p1) (.Constant (.int 0) j p2) p3) scope lpos) X.env; standAt pos; pure v) :: [])) _ _ s1
  refine wpAny_evalAll_cons (wpAny_bind (lam_make2 I1 TB hcode hmT hu hT hdef (fun z hz ez => ?_) fun f c' pm ctv H2 s2 I2 eN T2 hf hfn hfr hco => ?_))
  · rw [L.names] at hz
    rw [List.mem_singleton.mp hz] at ez
    cases ez
  refine wpAny_bind (wpAny_standAt (wpAny_pure ?_))
  refine wpAny_evalAll_nil ?_
  show wpAny _ _ (call (.builtin "sorted") [.ref a] [(Str.ofString "key", .ref f)]) _ _ s2
  obtain ⟨⟨oc, vs, tq, hoc, hdc, hvc⟩, _, _⟩ := I2.hok c' _ hco
  obtain ⟨Tt, o, n, hTt, ho, hcl, hdat, hz⟩ : ∃ (Tt : String) (o : Obj) (n : Nat), (Tt = "list" ∨ Tt = "tuple") ∧ s2.heap.get? a = some o ∧ o.cls = .type Tt ∧ o.data = .seq (zs.map fun z => Value.ref z.1).toArray n ∧ zs.length ≤ sizeLine := by
    rcases hseq with hl | ht
    · obtain ⟨its, rv, hl', hz⟩ := I2.list (SqL.extN hl eN)
      have e1 := vals_refs (fun z : It => z.1) rv
      subst e1
      obtain ⟨o, n, q1, q2, q3, q4⟩ := hl'
      exact ⟨"list", o, n, .inl rfl, q1, q2, q4, by simpa using hz⟩
    · obtain ⟨its, rv, hl', hz⟩ := I2.tuple (SqT.extN ht eN)
      have e1 := vals_refs (fun z : It => z.1) rv
      subst e1
      obtain ⟨o, q1, q2, n, q4⟩ := hl'
      exact ⟨"tuple", o, n, .inr rfl, q1, q2, q4, by simpa using hz⟩
  have hun := hr.un
  have hdp := hr.dp
  refine sorted_key_seq (R := fun v (z : It) => v = Value.ref z.1) (bs := zs) (fun z => z.2.1) hTt ho hcl hdat (each_refs (fun z : It => z.1) zs) (by simpa using hz) (by omega) (PyProof.Rows.ksk_s1 _ _) (fun _ => PyProof.Rows.ksk_l1 _ _) (fun x => PyProof.Rows.ksk_t1 f x) (fun v z hv hz h tk kp => ?_) fun h1 D out ce h' tk ys k1 k2 hD hget hlen hR hperm hsrt => ?_
  · subst hv
    obtain ⟨its, rv, ht, _⟩ := I2.tuple (SqT.extN (hit z hz) eN)
    cases rv with
    | cons r t =>
      obtain ⟨tq', rfl⟩ := r
      obtain ⟨ob, eo, co⟩ := ht
      refine lam_first (s := { s2 with heap := h, toks := tk }) (by show X.A.depth < _; omega) (I2.nolimit.keeps kp) (kp _ _ hf) ⟨c', oc, vs, tq, rfl, kp _ _ hoc, hdc, hvc⟩ L.kind L.co L.gen (fun z hz => ?_) (fun v => hbind _ _ _ _ _ v) (by rw [L.names]; simp) hd ⟨ob, kp _ _ eo, co⟩ rfl
      rw [L.names] at hz
      rw [List.mem_singleton.mp hz]
      simp
  · have e1 := of_each_refs (fun z : It => z.1) hR
    subst e1
    have I3 : Inv X pins σ H2 { s2 with heap := h1 } := I2.kept (t' := s2.toks) k1
    have hfree : H2 D = none := I3.hok.fresh hD
    have hys : ys.length ≤ sizeLine := by rw [hperm.length_eq]; exact hz
    have I4 : Inv X pins σ (upd H2 D (.lst (ys.map fun z => V.ref z.1))) { s2 with heap := h', toks := tk } :=
      I3.laid k2 hD ⟨by simpa using hys, _, ce, vals_of_refs (fun z : It => z.1) ys, hget⟩
    have kk : ∀ b o, H2 b = some o → upd H2 D (.lst (ys.map fun z => V.ref z.1)) b = some o := fun b o q => by rw [upd_ne (ne_of_none q hfree)]; exact q
    have h1n : ∀ u, H1 D = some u → ∃ ps, u = .tbl ps := fun u q => by
      by_cases z : ∃ ps, u = .tbl ps
      · exact z
      · rw [eN D u q fun ps e => z ⟨ps, e⟩] at hfree
        cases hfree
    exact ⟨.ref D, _, I4, rfl, hq _ D ys (eN.trans (ExtN.of kk)) (T2.ext kk) hperm hsrt h1n upd_same⟩
end
end KyS
namespace SS
open PySem PySem.Spec PyProof.Rows L2
def topS (i : Nat) : Stmt := PySem.Challenge.pw_scopestore_k18_whole_lines_of_rows_put_o.main.body.getD i (.Pass ⟨0, 0, 0, 0⟩)
abbrev sCd : Stmt := topS 9
abbrev sFo : Stmt := topS 10
abbrev sAre : Stmt := topS 11
abbrev sPlus : Stmt := topS 12
abbrev sTimes : Stmt := topS 13
abbrev sOver : Stmt := topS 14
abbrev sFitsW : Stmt := topS 15
abbrev sFitsF : Stmt := topS 16
abbrev sWn : Stmt := topS 18
abbrev sSumOf : Stmt := topS 19
abbrev sSumPlus : Stmt := topS 20
abbrev sSumTimes : Stmt := topS 21
abbrev sRbn : Stmt := topS 23
abbrev sUnk : Stmt := topS 24
abbrev sEbn : Stmt := topS 26
abbrev sNamesRow : Stmt := topS 27
abbrev sFitsTm : Stmt := topS 28
abbrev sFitsAdd : Stmt := topS 29
abbrev sFitsStep : Stmt := topS 30
abbrev sRowBehind : Stmt := topS 31
abbrev sStepped : Stmt := topS 32
abbrev sClearing : Stmt := topS 33
abbrev sStepsOf : Stmt := topS 34
abbrev sLineOf : Stmt := topS 35
abbrev sSharesB : Stmt := topS 36
abbrev sSolved : Stmt := topS 37
abbrev sFresh : Stmt := topS 39
abbrev sMixed : Stmt := topS 40
abbrev sFill : Stmt := topS 41
abbrev sTake : Stmt := topS 42
abbrev sWhole : Stmt := topS 43
abbrev sSh : Stmt := topS 44
abbrev sFrac : Stmt := topS 45
abbrev sLPlus : Stmt := topS 46
abbrev sLTimes : Stmt := topS 47
abbrev sTurned : Stmt := topS 48
abbrev sIsf : Stmt := topS 49
abbrev sIsName : Stmt := topS 50
abbrev sIsPoint : Stmt := topS 51
abbrev sIsSum : Stmt := topS 52
abbrev sLWorth : Stmt := topS 53
abbrev sAdd : Stmt := topS 54
abbrev sSname : Stmt := topS 55
abbrev sNames : Stmt := topS 56
abbrev sNumber : Stmt := topS 57
abbrev sSsum : Stmt := topS 58
abbrev sShort : Stmt := topS 59
abbrev sSRow : Stmt := topS 60
abbrev sSpoint : Stmt := topS 61
abbrev sCopied : Stmt := topS 62
abbrev sWithin : Stmt := topS 63
abbrev sRowPlus : Stmt := topS 64
abbrev sEquals : Stmt := topS 65
abbrev sLines : Stmt := topS 66
abbrev sPutLines : Stmt := topS 67
abbrev sLed : Stmt := topS 68
abbrev sLinePut : Stmt := topS 69
abbrev sIsLines : Stmt := topS 70
abbrev sPutOther : Stmt := topS 71
abbrev sLaw : Stmt := topS 72
end SS
namespace SS
open PySem PySem.Spec PyProof.Rows L2
section
variable {P : Program} {w : World} {K : PySem.W.Frag} {mg : Str → Option Value} {base : Heap}
/-! ### the greatest common divisor -/
def spGcd : Sp := fun vs H Q _ => ∃ a b : Int, vs = [.int a, .int b] ∧ Q (.int ((Int.gcd a b : Nat) : Int)) H
theorem scCd : FnScope ["a", "b"] ["a", "b"] (defScope sCd) := ⟨rfl, rfl, rfl, by decide +kernel, rfl, by decide +kernel, by decide +kernel⟩
theorem ok_cd {f : Addr} {fd : FuncData} {k : Nat} (F : Fun K "common_divisor" "common_divisor" sCd f fd) (ma : mg "abs" = none) : FnOk P w K mg base CX0 (k + 1) f fd ["a", "b"] spGcd := by
  refine F.ok scCd (fun vs H Q E h => ?_) (fun cdv A outer s H vs Q E hr h => ?_)
  · obtain ⟨a, b, rfl, _⟩ := h
    rfl
  · obtain ⟨a, b, rfl, q⟩ := h
    refine ⟨_, pss_cons (ps_par (i := 0) (j := 1) rfl scCd.nd rfl rfl (by decide) rfl rfl
        (pa_cons (pe_callB call_abs (by rfl) ma boot_abs (pa_cons (pv 0) pa_nil)) (pa_cons (pe_callB call_abs (by rfl) ma boot_abs (pa_cons (pv 1) pa_nil)) pa_nil)) rfl)
      (pss_cons (ps_while PassesOwn.never (pt_cmpR op_gt (pv 1) pe_int (nomark _))
        (pss_one (ps_par (i := 0) (j := 1) rfl scCd.nd rfl rfl (by decide) rfl rfl (pa_cons (pv 1) (pa_cons (pe_op op_mod (pv 0) (pv 1)) pa_nil)) rfl)))
      (pss_one (ps_ret (pv 0)))), ?_⟩
    refine ⟨_, rfl, a, rfl, _, rfl, b, rfl, _, _, rfl, ?_⟩
    refine ⟨fun m σ H' => ∃ x y : Int, σ = [some (.int x), some (.int y)] ∧ H' = H ∧ 0 ≤ x ∧ 0 ≤ y ∧ Int.gcd x y = Int.gcd a b ∧ m = y.toNat,
      ⟨_, _, _, rfl, rfl, by split <;> omega, by split <;> omega, gcd_abs a b, rfl⟩, fun m σ H' hW => ?_⟩
    obtain ⟨x, y, rfl, rfl, hx, hy, hg, rfl⟩ := hW
    refine ⟨_, rfl, _, _, rfl, rfl, _, rfl, ite2 (fun e => ?_) (fun e => ?_)⟩
    · have e' : 0 < y := of_decide_eq_true e
      refine ⟨fun σ' H1 => ∃ x' y' : Int, σ' = [some (.int x'), some (.int y')] ∧ H1 = H' ∧ 0 ≤ x' ∧ 0 ≤ y' ∧ Int.gcd x' y' = Int.gcd a b ∧ y' < y, fun σ' H1 hN => ?_, ?_⟩
      · obtain ⟨x', y', r1, r2, r3, r4, r5, r6⟩ := hN
        exact ⟨y'.toNat, by omega, x', y', r1, r2, r3, r4, r5, rfl⟩
      · refine ⟨_, rfl, _, rfl, _, rfl, x, y, rfl, rfl, e', _, _, rfl, y, x % y, rfl, rfl, hy, Int.emod_nonneg _ (by omega), ?_, Int.emod_lt_of_pos _ e'⟩
        rw [gcd_turn hx e', hg]
    · have e' : ¬ 0 < y := fun z => e (decide_eq_true z)
      have y0 : y = 0 := by omega
      subst y0
      refine ⟨_, rfl, ?_⟩
      rw [← hg, gcd_end x hx] at q
      exact q
theorem scSh : FnScope ["_law_one", "_law_other"] ["_law_one", "_law_other"] (defScope sSh) := ⟨rfl, rfl, rfl, by decide +kernel, rfl, by decide +kernel, by decide +kernel⟩
theorem ok_sh {f : Addr} {fd : FuncData} {k : Nat} (F : Fun K "_law_shared" "_law_shared" sSh f fd) (ma : mg "abs" = none) : FnOk P w K mg base CX0 (k + 1) f fd ["_law_one", "_law_other"] spGcd := by
  refine F.ok scSh (fun vs H Q E h => ?_) (fun cdv A outer s H vs Q E hr h => ?_)
  · obtain ⟨a, b, rfl, _⟩ := h
    rfl
  · obtain ⟨a, b, rfl, q⟩ := h
    refine ⟨_, pss_cons (ps_par (i := 0) (j := 1) rfl scSh.nd rfl rfl (by decide) rfl rfl
        (pa_cons (pe_callB call_abs (by rfl) ma boot_abs (pa_cons (pv 0) pa_nil)) (pa_cons (pe_callB call_abs (by rfl) ma boot_abs (pa_cons (pv 1) pa_nil)) pa_nil)) rfl)
      (pss_cons (ps_while PassesOwn.never (pt_cmpR op_gt (pv 1) pe_int (nomark _))
        (pss_one (ps_par (i := 0) (j := 1) rfl scSh.nd rfl rfl (by decide) rfl rfl (pa_cons (pv 1) (pa_cons (pe_op op_mod (pv 0) (pv 1)) pa_nil)) rfl)))
      (pss_one (ps_ret (pv 0)))), ?_⟩
    refine ⟨_, rfl, a, rfl, _, rfl, b, rfl, _, _, rfl, ?_⟩
    refine ⟨fun m σ H' => ∃ x y : Int, σ = [some (.int x), some (.int y)] ∧ H' = H ∧ 0 ≤ x ∧ 0 ≤ y ∧ Int.gcd x y = Int.gcd a b ∧ m = y.toNat,
      ⟨_, _, _, rfl, rfl, by split <;> omega, by split <;> omega, gcd_abs a b, rfl⟩, fun m σ H' hW => ?_⟩
    obtain ⟨x, y, rfl, rfl, hx, hy, hg, rfl⟩ := hW
    refine ⟨_, rfl, _, _, rfl, rfl, _, rfl, ite2 (fun e => ?_) (fun e => ?_)⟩
    · have e' : 0 < y := of_decide_eq_true e
      refine ⟨fun σ' H1 => ∃ x' y' : Int, σ' = [some (.int x'), some (.int y')] ∧ H1 = H' ∧ 0 ≤ x' ∧ 0 ≤ y' ∧ Int.gcd x' y' = Int.gcd a b ∧ y' < y, fun σ' H1 hN => ?_, ?_⟩
      · obtain ⟨x', y', r1, r2, r3, r4, r5, r6⟩ := hN
        exact ⟨y'.toNat, by omega, x', y', r1, r2, r3, r4, r5, rfl⟩
      · refine ⟨_, rfl, _, rfl, _, rfl, x, y, rfl, rfl, e', _, _, rfl, y, x % y, rfl, rfl, hy, Int.emod_nonneg _ (by omega), ?_, Int.emod_lt_of_pos _ e'⟩
        rw [gcd_turn hx e', hg]
    · have e' : ¬ 0 < y := fun z => e (decide_eq_true z)
      have y0 : y = 0 := by omega
      subst y0
      refine ⟨_, rfl, ?_⟩
      rw [← hg, gcd_end x hx] at q
      exact q
end
end SS

namespace SS
open PySem PySem.Spec PyProof.Rows L2
/-- what the top says of an own class of errors, straight or not under ValueError, at C -/
structure ExT (K : PySem.W.Frag) (mg : Str → Option Value) (x : Str) (C : Addr) : Prop where
  gC : mg x = some (.ref C)
  xC : PySem.W.excIn K C [.type "ValueError", .type "Exception", .type "BaseException", .type "object"] "ValueError.__new__" = true
  kC : PySem.W.keepIn K (.ref C) = true
  bC : PySem.W.subIn K (.ref C) (.type "BaseException") = some true
  tC : PySem.W.typeIn K (.ref C) = some (.type "type")
theorem logOf {b : Int} {n : Nat} (h0 : 0 < n) (h : b.natAbs < 2 ^ n) (hn : n ≤ 9000) : b.natAbs.log2 < 9000 := Nat.lt_of_lt_of_le (PySem.Flt.log2_lt_of h0 h) hn
theorem sgd_ok {t b : Int} (h : b ≠ 0) (hb : b.natAbs < 2 ^ 8000) (i : Int) : CDivG i (sgd t b) := by
  refine ⟨sgd_ne h, logOf (n := 8000) (by decide) ?_ (by decide)⟩
  rw [sgd_abs]
  refine Nat.lt_of_le_of_lt (Nat.le_of_dvd (Int.natAbs_pos.mpr h) ?_) hb
  exact Nat.gcd_dvd_right ..
section
variable {P : Program} {w : World} {K : PySem.W.Frag} {mg : Str → Option Value} {base : Heap}
/-! ### fraction_of; the law's own _law_frac -/
def spFo (C : Addr) : Sp := fun vs H Q E => ∃ t b : Int, vs = [.int t, .int b] ∧ (b = 0 → E (.ref C) none H) ∧
  (b ≠ 0 → b.natAbs < 2 ^ 8000 ∧ ∀ p, H p = none → Q (.ref p) (upd H p (.tup [.int (fr1 t b), .int (fr2 t b)])))
theorem scFo : FnScope ["top", "bottom", "divisor"] ["top", "bottom"] (defScope sFo) := ⟨rfl, rfl, rfl, by decide +kernel, rfl, by decide +kernel, by decide +kernel⟩
theorem ok_fo {f C : Addr} {fd : FuncData} (F : FunD K "fraction_of" "fraction_of" (defArgs sFo) (defBody sFo) (defScope sFo) [.int 1] [] f fd) (T : ExT K mg "NoFraction" C)
    (cd : Cl P w K mg base CX0 1 "common_divisor" spGcd []) : FnOk P w K mg base (L2.CX P w) 2 f fd ["top", "bottom"] (spFo C) := by
  refine F.ok scFo (fun vs H Q E h => ?_) (fun cdv A outer s H vs Q E hr h => ?_)
  · obtain ⟨a, b, rfl, _⟩ := h
    rfl
  · obtain ⟨t, b, rfl, q0, q1⟩ := h
    refine ⟨_, pss_cons (ps_if (pt_cmpR op_eq (pv 1) pe_int (nomark _))
        (pss_one (ps_raise rfl (takes_of rfl rfl rfl rfl) (pmk_own PySem.F.excBase_ValueError T.xC T.gC T.kC (raises_own T.bC T.tC) (by exact rfl)))) pss_nil)
      (pss_cons (ps_set (i := 2) scFo.nd rfl (.inl rfl) (pc0 cd hr (by decide) (pa_cons (pv 0) (pa_cons (pv 1) pa_nil))))
      (pss_cons (ps_if (pt_cmpR op_lt (pv 1) pe_int (nomark _)) (pss_one (ps_set (i := 2) scFo.nd rfl (.inl rfl) (pe_un un_neg (pv 2)))) pss_nil)
      (pss_one (ps_ret (pe_tup (pa_cons (pe_op op_fdivG (pv 0) (pv 2)) (pa_cons (pe_op op_fdivG (pv 1) (pv 2)) pa_nil))))))), ?_⟩
    refine ⟨_, rfl, rfl, _, rfl, ite2 (fun e => ?_) (fun e => ?_)⟩
    · exact q0 (V.int.inj (of_decide_eq_true e))
    · have h0 : b ≠ 0 := fun z => e (by rw [z]; exact decide_eq_true rfl)
      obtain ⟨hb, q⟩ := q1 h0
      refine ⟨_, rfl, _, rfl, t, b, rfl, ?_⟩
      refine ⟨_, rfl, _, _, rfl, rfl, _, rfl, ite2 (fun e2 => ?_) (fun e2 => ?_)⟩
      · have e3 : sgd t b = -((Int.gcd t b : Nat) : Int) := if_pos (of_decide_eq_true e2)
        refine ⟨_, rfl, _, rfl, ?_⟩
        refine ⟨_, rfl, _, rfl, t, sgd t b, rfl, by rw [e3], sgd_ok h0 hb t, _, rfl, _, rfl, b, sgd t b, rfl, by rw [e3], sgd_ok h0 hb b, small2, q⟩
      · have e3 : sgd t b = ((Int.gcd t b : Nat) : Int) := if_neg fun z => e2 (decide_eq_true z)
        refine ⟨_, rfl, _, rfl, t, sgd t b, rfl, by rw [e3], sgd_ok h0 hb t, _, rfl, _, rfl, b, sgd t b, rfl, by rw [e3], sgd_ok h0 hb b, small2, q⟩
end
end SS

namespace SS
open PySem PySem.Spec PyProof.Rows L2
section
variable {P : Program} {w : World} {K : PySem.W.Frag} {mg : Str → Option Value} {base : Heap}
def spFrac : Sp := fun vs H Q _ => ∃ t b : Int, vs = [.int t, .int b] ∧ b ≠ 0 ∧ b.natAbs < 2 ^ 8000 ∧ ∀ p, H p = none → Q (.ref p) (upd H p (.tup [.int (fr1 t b), .int (fr2 t b)]))
theorem scFrac : FnScope ["_law_top", "_law_bottom", "_law_by"] ["_law_top", "_law_bottom"] (defScope sFrac) := ⟨rfl, rfl, rfl, by decide +kernel, rfl, by decide +kernel, by decide +kernel⟩
theorem ok_frac {f : Addr} {fd : FuncData} (F : Fun K "_law_frac" "_law_frac" sFrac f fd) (sh : Cl P w K mg base CX0 1 "_law_shared" spGcd []) : FnOk P w K mg base CX0 2 f fd ["_law_top", "_law_bottom"] spFrac := by
  refine F.ok scFrac (fun vs H Q E h => ?_) (fun cdv A outer s H vs Q E hr h => ?_)
  · obtain ⟨a, b, rfl, _⟩ := h
    rfl
  · obtain ⟨t, b, rfl, h0, hb, q⟩ := h
    refine ⟨_, pss_cons (ps_set (i := 2) scFrac.nd rfl (.inl rfl) (pc0 sh hr (by decide) (pa_cons (pv 0) (pa_cons (pv 1) pa_nil))))
      (pss_cons (ps_if (pt_cmpR op_lt (pv 1) pe_int (nomark _)) (pss_one (ps_set (i := 2) scFrac.nd rfl (.inl rfl) (pe_op op_sub pe_int (pv 2)))) pss_nil)
      (pss_one (ps_ret (pe_tup (pa_cons (pe_op op_fdivG (pv 0) (pv 2)) (pa_cons (pe_op op_fdivG (pv 1) (pv 2)) pa_nil)))))), ?_⟩
    refine ⟨_, rfl, _, rfl, t, b, rfl, ?_⟩
    refine ⟨_, rfl, _, _, rfl, rfl, _, rfl, ite2 (fun e2 => ?_) (fun e2 => ?_)⟩
    · have e3 : sgd t b = -((Int.gcd t b : Nat) : Int) := if_pos (of_decide_eq_true e2)
      refine ⟨_, rfl, _, _, rfl, rfl, ?_⟩
      refine ⟨_, rfl, _, rfl, t, sgd t b, rfl, by rw [e3]; exact congrArg V.int (Int.zero_sub _), sgd_ok h0 hb t, _, rfl, _, rfl, b, sgd t b, rfl, by rw [e3]; exact congrArg V.int (Int.zero_sub _), sgd_ok h0 hb b, small2, q⟩
    · have e3 : sgd t b = ((Int.gcd t b : Nat) : Int) := if_neg fun z => e2 (decide_eq_true z)
      refine ⟨_, rfl, _, rfl, t, sgd t b, rfl, by rw [e3], sgd_ok h0 hb t, _, rfl, _, rfl, b, sgd t b, rfl, by rw [e3], sgd_ok h0 hb b, small2, q⟩
end
end SS

namespace SS
open PySem PySem.Spec PyProof.Rows L2
section
variable {P : Program} {w : World} {K : PySem.W.Frag} {mg : Str → Option Value} {base : Heap}
/-! ### the law's draws: fresh, mixed, fill, take -/
def spFresh (K : PySem.W.Frag) : Sp := fun vs H Q _ => ∃ (a : Addr) (ns : List Int), vs = [.ref a] ∧ SqL K H a (ns.map V.int) ∧
  ∀ H' st c, Same H H' → H st = none → H c = none → StA st c H' → Q (.ref st) H'
theorem scFresh : FnScope ["_law_script"] ["_law_script"] (defScope sFresh) := ⟨rfl, rfl, rfl, by decide +kernel, rfl, by decide +kernel, by decide +kernel⟩
theorem cut63 (xs : List V) : (cutV xs none (some 63)) = xs.take 63 := by
  unfold cutV
  rw [HT.sIx_none, show HT.sIx xs.length xs.length (some 63) = min 63 xs.length from HT.sIx_nat xs.length xs.length 63]
  show List.take (min 63 xs.length - 0) (xs.drop 0) = xs.take 63
  rw [List.drop_zero, Nat.sub_zero]
  by_cases h : xs.length ≤ 63
  · rw [Nat.min_eq_right h, List.take_length, List.take_of_length_le h]
  · rw [Nat.min_eq_left (by omega)]
theorem ok_fresh {f : Addr} {fd : FuncData} {k : Nat} (F : Fun K "_law_fresh" "_law_fresh" sFresh f fd) : FnOk P w K mg base CX0 (k + 1) f fd ["_law_script"] (spFresh K) := by
  refine F.ok scFresh (fun vs H Q E h => ?_) (fun cdv A outer s H vs Q E hr h => ?_)
  · obtain ⟨a, ns, rfl, _⟩ := h
    rfl
  · obtain ⟨a, ns, rfl, hS, q⟩ := h
    refine ⟨_, pss_one (ps_ret (pe_lst (pa_cons (pe_slice sl_list (pv 0) po_none (po_some pe_int)) (pa_cons pe_int (pa_cons pe_int (pa_cons pe_bl pa_nil)))))), ?_⟩
    refine ⟨_, rfl, 63, rfl, a, _, rfl, hS, fun c nc => ?_⟩
    refine ⟨by show 4 ≤ sizeLine; decide, fun st nst => ?_⟩
    have ncs : c ≠ st := fun e => by
      rw [e, upd_same] at nst
      cases nst
    have s1 := same_new (o := .lst (cutV (ns.map V.int) none (some 63))) nc
    refine q _ st c (s1.trans (same_new nst)) (s1.free nst) nc ⟨0, 0, false, ns.take 63, upd_same, ?_, ?_, ncs⟩
    · rw [upd_ne ncs, upd_same, cut63, List.map_take]
    · rw [List.length_take]
      exact Nat.min_le_left _ _
def spMixed : Sp := fun vs H Q _ => ∃ z : Int, vs = [.int z] ∧ ∀ H' (m : Int), Same H H' → Q (.int m) H'
theorem scMixed : FnScope ["_law_seed", "_law_primes", "_law_number_here", "_law_k", "_law_prime", "_law_far", "_law_square", "_law_power"] ["_law_seed"] (defScope sMixed) := ⟨rfl, rfl, rfl, by decide +kernel, rfl, by decide +kernel, by decide +kernel⟩
def primes : List Int := [2147483647, 2147483629, 2147483587, 2147483579, 2147483563]
def adds : List Int := [11, 101, 1009, 10007, 100003]
theorem at_some {xs : List Int} {i : Nat} (h : i < xs.length) : atI (xs.map V.int) (i : Int) = some (.int xs[i]) :=
  atI_nat (by rw [List.getElem?_map, List.getElem?_eq_getElem h]; rfl)
theorem primes_ok : ∀ x ∈ primes, 0 < x ∧ x < 2 ^ 31 := by decide
theorem ok_mixed {f : Addr} {fd : FuncData} {k : Nat} (F : Fun K "_law_mixed" "_law_mixed" sMixed f fd) (me : mg "enumerate" = none) : FnOk P w K mg base CX0 (k + 1) f fd ["_law_seed"] spMixed := by
  refine F.ok scMixed (fun vs H Q E h => ?_) (fun cdv A outer s H vs Q E hr h => ?_)
  · obtain ⟨a, rfl, _⟩ := h
    rfl
  · obtain ⟨z, rfl, q⟩ := h
    refine ⟨_, pss_cons (ps_set (i := 1) scMixed.nd rfl (.inl rfl) (pe_tup (pa_cons pe_int (pa_cons pe_int (pa_cons pe_int (pa_cons pe_int (pa_cons pe_int pa_nil)))))))
      (pss_cons (ps_set (i := 2) scMixed.nd rfl (.inl rfl) pe_int)
      (pss_cons (ps_for PassesOwn.never rfl (pi_enT (by rfl) me (pa_cons (pv 1) pa_nil)) (pg_tup rfl (pgs_cons (pg_name (i := 3) scMixed.nd rfl (.inl rfl)) (pgs_cons (pg_name (i := 4) scMixed.nd rfl (.inl rfl)) pgs_nil)))
        (pss_cons (ps_set (i := 5) scMixed.nd rfl (.inl rfl) (pe_op op_add (pv 0) (pe_ix ix_tup (pe_tup (pa_cons pe_int (pa_cons pe_int (pa_cons pe_int (pa_cons pe_int (pa_cons pe_int pa_nil)))))) (pv 3) (fun _ _ => rfl))))
        (pss_cons (ps_set (i := 5) scMixed.nd rfl (.inl rfl) (pe_op op_mod (pe_op op_mul (pv 5) (pe_op op_add pe_int (pe_op op_mul pe_int (pv 3)))) (pv 4)))
        (pss_cons (ps_set (i := 6) scMixed.nd rfl (.inl rfl) (pe_op op_mod (pe_op op_mul (pv 5) (pv 5)) (pv 4)))
        (pss_cons (ps_set (i := 7) scMixed.nd rfl (.inl rfl) (pe_op op_mod (pe_op op_mul (pe_op op_mod (pe_op op_mul (pv 6) (pv 6)) (pv 4)) (pv 5)) (pv 4)))
        (pss_one (ps_set (i := 2) scMixed.nd rfl (.inl rfl) (pe_op op_add (pe_op op_mul (pv 2) (pv 4)) (pv 7)))))))))
      (pss_one (ps_ret (pv 2))))), ?_⟩
    refine ⟨by show 5 ≤ sizeLine; decide, fun t nt => ?_⟩
    have s1 := same_new (o := .tup (primes.map V.int)) nt
    have e1 : (upd H t (.tup (primes.map V.int))) t = some (.tup (primes.map V.int)) := upd_same
    refine ⟨_, rfl, t, primes.map V.int, rfl, .inl (.inl e1), ?_⟩
    refine ⟨fun i m σ H3 => ∃ (nn : Int) (y3 y4 y5 y6 y7 : Option V), σ = [some (.int z), some (.ref t), some (.int nn), y3, y4, y5, y6, y7] ∧ i + m = 5 ∧ Same (upd H t (.tup (primes.map V.int))) H3,
      ⟨5, 0, none, none, none, none, none, rfl, rfl, Same.refl _⟩, fun i m σ H3 hW => ?_⟩
    obtain ⟨nn, y3, y4, y5, y6, y7, rfl, em, sm⟩ := hW
    have e3 : SqT K H3 t (primes.map V.int) := .inl (.inl (sm _ _ e1))
    by_cases hi : i < 5
    · have hp : i < primes.length := hi
      refine .inr ⟨⟨_, _, e3, by rw [List.getElem?_map, List.getElem?_eq_getElem hp]; rfl⟩,
        fun σ' H' => ∃ (nn : Int) (y3 y4 y5 y6 y7 : Option V), σ' = [some (.int z), some (.ref t), some (.int nn), y3, y4, y5, y6, y7] ∧ Same (upd H t (.tup (primes.map V.int))) H', fun σ' H' hN => ?_, fun x H' hy => ?_⟩
      · obtain ⟨a1, a2, a3, a4, a5, a6, r1, r2⟩ := hN
        exact ⟨m - 1, by omega, a1, a2, a3, a4, a5, a6, r1, by omega, r2⟩
      · obtain ⟨T, v, rfl, nT, rfl, fv⟩ := hy
        have ev : v = .int primes[i] := by
          have zz := fv _ e3
          rw [List.getElem?_map, List.getElem?_eq_getElem hp] at zz
          exact (Option.some.inj zz).symm
        subst ev
        have pr : 0 < primes[i] ∧ primes[i] < 2 ^ 31 := primes_ok _ (List.getElem_mem hp)
        generalize primes[i] = pp at pr
        have sT := same_new (o := .tup [.int (i : Nat), .int pp]) nT
        refine ⟨T, [.int (i : Nat), .int pp], rfl, .inl (.inl upd_same), rfl, _, _, rfl, _, _, rfl, rfl, ?_⟩
        -- far = seed + (..)[k]
        refine ⟨_, rfl, by show 5 ≤ sizeLine; decide, fun U nU => ?_⟩
        have sU := same_new (o := .tup (adds.map V.int)) nU
        have hA : i < adds.length := hi
        refine ⟨_, rfl, U, adds.map V.int, (i : Int), .int adds[i], rfl, rfl, .inl (.inl upd_same), at_some hA, z, adds[i], rfl, rfl, ?_⟩
        obtain ⟨far, hfar⟩ : ∃ far, z + adds[i] = far := ⟨_, rfl⟩
        -- far = far * (48271 + 2 * k) % prime
        refine ⟨_, rfl, _, rfl, 2, (i : Int), rfl, rfl, .inl ⟨by decide, by decide⟩, 48271, 2 * (i : Int), rfl, rfl, far, _, congrArg V.int hfar, rfl, .inr ⟨by omega, by omega⟩, _, rfl, _, pp, rfl, rfl, pr.1, ?_⟩
        obtain ⟨fa, hfa⟩ : ∃ fa, far * (48271 + 2 * (i : Int)) % pp = fa := ⟨_, rfl⟩
        have f1 := Int.emod_nonneg (far * (48271 + 2 * (i : Int))) (b := pp) (by omega)
        have f2 := Int.emod_lt_of_pos (far * (48271 + 2 * (i : Int))) pr.1
        rw [hfa] at f1 f2
        -- square
        refine ⟨_, rfl, _, rfl, fa, fa, congrArg V.int hfa, congrArg V.int hfa, .inl ⟨by omega, by omega⟩, _, rfl, _, pp, rfl, rfl, pr.1, ?_⟩
        obtain ⟨sq, hsq⟩ : ∃ sq, fa * fa % pp = sq := ⟨_, rfl⟩
        have g1 := Int.emod_nonneg (fa * fa) (b := pp) (by omega)
        have g2 := Int.emod_lt_of_pos (fa * fa) pr.1
        rw [hsq] at g1 g2
        -- power
        refine ⟨_, rfl, _, rfl, sq, sq, congrArg V.int hsq, congrArg V.int hsq, .inl ⟨by omega, by omega⟩, _, rfl, _, pp, rfl, rfl, pr.1, _, rfl, _, fa, rfl, congrArg V.int hfa, .inr ⟨by omega, by omega⟩, _, rfl, _, pp, rfl, rfl, pr.1, ?_⟩
        -- number
        refine ⟨_, rfl, _, rfl, nn, pp, rfl, rfl, .inr ⟨by omega, by omega⟩, _, rfl, _, _, rfl, rfl, ?_⟩
        exact ⟨_, _, _, _, _, _, rfl, sm.trans (sT.trans sU)⟩
    · refine .inl ⟨⟨_, e3, by show 5 = i; omega⟩, _, rfl, q _ nn (s1.trans sm)⟩
end
end SS

namespace SS
open PySem PySem.Spec PyProof.Rows L2
section
variable {P : Program} {w : World} {K : PySem.W.Frag} {mg : Str → Option Value} {base : Heap}
def spFill : Sp := fun vs H Q _ => ∃ st c : Addr, vs = [.ref st] ∧ StA st c H ∧ ∀ H', But st H H' → StA st c H' → Q .non H'
theorem scFill : FnScope ["_law_state", "_law_cells", "_law_at", "_law_seed"] ["_law_state"] (defScope sFill) := ⟨rfl, rfl, rfl, by decide +kernel, rfl, by decide +kernel, by decide +kernel⟩
theorem ok_fill {f : Addr} {fd : FuncData} (F : Fun K "_law_fill" "_law_fill" sFill f fd) (ml : mg "len" = none) (mx : Cl P w K mg base CX0 1 "_law_mixed" spMixed []) : FnOk P w K mg base CX0 2 f fd ["_law_state"] spFill := by
  refine F.ok scFill (fun vs H Q E h => ?_) (fun cdv A outer s H vs Q E hr h => ?_)
  · obtain ⟨a, _, rfl, _⟩ := h
    rfl
  · obtain ⟨st, c, rfl, hst, q⟩ := h
    refine ⟨_, pss_cons (ps_par (i := 1) (j := 2) rfl scFill.nd rfl rfl (by decide) rfl rfl (pa_cons (pe_ix ix_list (pv 0) pe_int (fun _ _ => rfl)) (pa_cons (pe_ix ix_list (pv 0) pe_int (fun _ _ => rfl)) pa_nil)) rfl)
      (pss_cons (ps_set (i := 3) scFill.nd rfl (.inl rfl) (pe_op op_add (pe_op op_mul pe_int (pv 2)) pe_int))
      (pss_cons (ps_if (pt_cmpR op_gt (pe_callB call_len_seq (by rfl) ml PySem.boot_len (pa_cons (pv 1) pa_nil)) pe_int (nomark _))
        (pss_cons (ps_set (i := 3) scFill.nd rfl (.inl rfl) (pe_op op_mul pe_int (pe_op op_fdiv (pv 2) (pe_callB call_len_seq (by rfl) ml PySem.boot_len (pa_cons (pv 1) pa_nil)))))
        (pss_one (ps_set (i := 3) scFill.nd rfl (.inl rfl) (pe_op op_add (pv 3) (pe_ix ix_list (pv 1) (pe_op op_mod (pv 2) (pe_callB call_len_seq (by rfl) ml PySem.boot_len (pa_cons (pv 1) pa_nil))) (fun _ _ => rfl))))))
        pss_nil)
      (pss_cons (ps_asg (pe_op op_add (pv 2) pe_int) (pg_sub (pv 0) pe_int set_list))
      (pss_cons (ps_asg (pe_or (pe_cmpR op_ge (pv 2) (pe_callB call_len_seq (by rfl) ml PySem.boot_len (pa_cons (pv 1) pa_nil)) (nomark _)) (pe_one (pe_cmpR op_lt (pv 3) (pe_op op_pow pe_int pe_int) (nomark _)))) (pg_sub (pv 0) pe_int set_list))
      (pss_one (ps_if (pt_val (pe_ix ix_list (pv 0) pe_int (fun _ _ => rfl)))
        (pss_one (ps_asg (pc0 mx hr (by decide) (pa_cons (pv 3) pa_nil)) (pg_sub (pv 0) pe_int set_list)))
        (pss_one (ps_asg (pe_op op_sub (pv 3) (pe_op op_pow pe_int pe_int)) (pg_sub (pv 0) pe_int set_list))))))))), ?_⟩
    obtain ⟨i, n, b, xs, h1, h2, h3, h4⟩ := hst
    refine ⟨_, rfl, st, _, 0, _, rfl, rfl, SqL.of h1, atI_nat (j := 0) rfl, _, rfl, st, _, 1, _, rfl, rfl, SqL.of h1, atI_nat (j := 1) rfl, _, _, rfl, ?_⟩
    refine ⟨_, rfl, 31, i, rfl, rfl, .inl ⟨by decide, by decide⟩, _, 7, rfl, rfl, ?_⟩
    refine ⟨_, rfl, c, _, rfl, .inl (SqL.of h2), _, _, rfl, rfl, _, rfl, ite2 (fun e => ?_) (fun e => ?_)⟩
    have e0 : (0 : Int) < ((xs.map V.int).length : Int) := of_decide_eq_true e
    have e1 : 0 < xs.length := by
      rw [List.length_map] at e0
      omega
    have el : ((xs.map V.int).length : Int) = (xs.length : Int) := by rw [List.length_map]
    refine ⟨_, rfl, _, rfl, c, _, rfl, .inl (SqL.of h2), i, (xs.length : Int), rfl, congrArg V.int el, ⟨by omega, by omega⟩, 104729, _, rfl, rfl, .inl ⟨by decide, by decide⟩, ?_⟩
    have m1 := Int.emod_nonneg i (b := (xs.length : Int)) (by omega)
    have m2 := Int.emod_lt_of_pos i (b := (xs.length : Int)) (by omega)
    have m3 : (i % (xs.length : Int)).toNat < xs.length := by omega
    have m4 : atI (xs.map V.int) (i % (xs.length : Int)) = some (.int xs[(i % (xs.length : Int)).toNat]) := by
      have e5 : i % (xs.length : Int) = (((i % (xs.length : Int)).toNat : Nat) : Int) := by omega
      exact at_of e5 (by rw [List.getElem?_map, List.getElem?_eq_getElem m3]; rfl)
    refine ⟨_, rfl, _, rfl, _, rfl, _, rfl, c, _, rfl, .inl (SqL.of h2), i, (xs.length : Int), rfl, congrArg V.int el, by omega, c, _, _, _, rfl, rfl, SqL.of h2, m4, _, _, rfl, rfl, ?_⟩
    all_goals
      refine ⟨_, rfl, i, 1, rfl, rfl, _, rfl, st, _, 1, 1, rfl, rfl, h1, rfl, ?_⟩
      have k2 : ∀ o : HO, (upd H st o) c = some (.lst (xs.map V.int)) := fun o => by
        rw [upd_ne h4]
        exact h2
      refine ⟨_, rfl, _, rfl, c, _, rfl, .inl (SqL.of (k2 _)), _, _, rfl, rfl, _, rfl, ite2 (fun e2 => ?_) (fun e2 => ?_)⟩
      rotate_left
      refine ⟨_, rfl, 10, 18, rfl, rfl, ⟨by decide, by decide, by decide⟩, _, _, rfl, rfl, ?_⟩
      all_goals
        refine ⟨_, rfl, st, _, 3, 3, rfl, rfl, upd_same, rfl, ?_⟩
        refine ⟨_, rfl, st, _, 3, _, rfl, rfl, SqL.of upd_same, atI_nat (j := 3) rfl, _, rfl, ite2 (fun e3 => ?_) (fun e3 => ?_)⟩
        · refine ⟨_, rfl, _, rfl, fun H3 m sm => ?_⟩
          refine ⟨_, rfl, st, _, 2, 2, rfl, rfl, sm _ _ upd_same, rfl, ?_⟩
          refine q _ (((But.upd.trans But.upd).trans (Same.but sm)).trans But.upd) ⟨_, _, _, xs, upd_same, ?_, h3, h4⟩
          rw [upd_ne h4]
          refine sm _ _ ?_
          rw [upd_ne h4]
          exact k2 _
        · refine ⟨_, rfl, 10, 18, rfl, rfl, ⟨by decide, by decide, by decide⟩, _, _, rfl, rfl, _, rfl, st, _, 2, 2, rfl, rfl, upd_same, rfl, ?_⟩
          refine q _ ((But.upd.trans But.upd).trans But.upd) ⟨_, _, _, xs, upd_same, ?_, h3, h4⟩
          rw [upd_ne h4, upd_ne h4]
          exact k2 _
end
end SS

namespace SS
open PySem PySem.Spec PyProof.Rows L2
section
variable {P : Program} {w : World} {K : PySem.W.Frag} {mg : Str → Option Value} {base : Heap}
def spTake : Sp := fun vs H Q _ => ∃ (st c : Addr) (many : Int), vs = [.ref st, .int many] ∧ 0 < many ∧ many.natAbs < 2 ^ 8000 ∧ StA st c H ∧
  ∀ H' (d : Int), But st H H' → StA st c H' → 0 ≤ d → d < many → Q (.int d) H'
theorem scTake : FnScope ["_law_state", "_law_many", "_law_turns", "_law_digit"] ["_law_state", "_law_many"] (defScope sTake) := ⟨rfl, rfl, rfl, by decide +kernel, rfl, by decide +kernel, by decide +kernel⟩
theorem StA.put {st : Addr} {H : Hp} {c : Addr} {i n : Int} {f : Bool} {xs : List Int} (h2 : H c = some (.lst (xs.map V.int))) (h3 : xs.length ≤ 63) (h4 : c ≠ st) : StA st c (upd H st (.lst [.ref c, .int i, .int n, .bl f])) :=
  ⟨i, n, f, xs, upd_same, by rw [upd_ne h4]; exact h2, h3, h4⟩
theorem ok_take {f : Addr} {fd : FuncData} (F : Fun K "_law_take" "_law_take" sTake f fd) (fl : Cl P w K mg base CX0 2 "_law_fill" spFill []) : FnOk P w K mg base CX0 3 f fd ["_law_state", "_law_many"] spTake := by
  refine F.ok scTake (fun vs H Q E h => ?_) (fun cdv A outer s H vs Q E hr h => ?_)
  · obtain ⟨a, _, b, rfl, _⟩ := h
    rfl
  · obtain ⟨st, c, many, rfl, m0, m1, hst, q⟩ := h
    refine ⟨_, pss_cons (ps_set (i := 2) scTake.nd rfl (.inl rfl) pe_int)
      (pss_cons (ps_while PassesOwn.never
        (PW.pt (pw_and (pt_cmpR op_lt (pv 2) pe_int (nomark _)) (pw_and1 (PW.pt (pw_or (pt_cmpR op_eq (pe_ix ix_list (pv 0) pe_int (fun _ _ => rfl)) pe_int (nomark _))
          (pw_or1 (PW.pt (pw_and (pt_val (pe_ix ix_list (pv 0) pe_int (fun _ _ => rfl))) (pw_and1 (pt_cmpR op_lt (pe_ix ix_list (pv 0) pe_int (fun _ _ => rfl)) (pe_op op_mul (pv 1) pe_int) (nomark _)))))))))))
        (pss_cons (ps_expr (pc0 fl hr (by decide) (pa_cons (pv 0) pa_nil)))
        (pss_cons (ps_aug (i := 2) scTake.nd rfl (.inl rfl) pe_int ip_add)
        (pss_one (ps_if (PW.pt (pw_and (pt_val (pe_ix ix_list (pv 0) pe_int (fun _ _ => rfl))) (pw_and1 (pt_cmpR op_lt (pe_ix ix_list (pv 0) pe_int (fun _ _ => rfl)) (pe_op op_mul (pv 1) pe_int) (nomark _)))))
          (pss_one (ps_asg (pe_op op_add (pe_ix ix_list (pv 0) pe_int (fun _ _ => rfl)) (pe_op op_mul (pe_op op_mul (pv 1) pe_int) (pe_op op_add pe_int (pe_op op_mod (pe_ix ix_list (pv 0) pe_int (fun _ _ => rfl)) pe_int)))) (pg_sub (pv 0) pe_int set_list))) pss_nil)))))
      (pss_cons (ps_set (i := 3) scTake.nd rfl (.inl rfl) (pe_op op_mod (pe_ix ix_list (pv 0) pe_int (fun _ _ => rfl)) (pv 1)))
      (pss_cons (ps_asg (pe_op op_fdivW (pe_ix ix_list (pv 0) pe_int (fun _ _ => rfl)) (pv 1)) (pg_sub (pv 0) pe_int set_list))
      (pss_one (ps_ret (pv 3)))))), ?_⟩
    refine ⟨fun m σ H' => ∃ (tn : Int) (y3 : Option V), σ = [some (.ref st), some (.int many), some (.int tn), y3] ∧ But st H H' ∧ StA st c H' ∧ m = (64 - tn).toNat,
      ⟨64, 0, none, rfl, But.refl _ _, hst, rfl⟩, fun m σ H1 hW => ?_⟩
    obtain ⟨tn, y3, rfl, bt, sa, rfl⟩ := hW
    obtain ⟨i, n, b, xs, h1, h2, h3, h4⟩ := id sa
    refine ⟨_, rfl, tn, 64, rfl, rfl, _, rfl, ite2 (fun e => ?n2) (fun e => iteF ?ex1)⟩
    case' n2 => refine ⟨_, rfl, st, _, 2, _, rfl, rfl, SqL.of h1, atI_nat (j := 2) rfl, rfl, _, rfl, ite2 (fun e1 => iteT ?bd1) (fun e1 => ?n3)⟩
    case' n3 => refine ⟨_, rfl, st, _, 3, _, rfl, rfl, SqL.of h1, atI_nat (j := 3) rfl, _, rfl, ite2 (fun e2 => ?n4) (fun e2 => iteF ?ex2)⟩
    case' n4 => refine ⟨_, rfl, st, _, 2, _, rfl, rfl, SqL.of h1, atI_nat (j := 2) rfl, _, rfl, many, 4096, rfl, rfl, .inr ⟨by decide, by decide⟩, n, _, rfl, rfl, _, rfl, ite2 (fun e3 => ?bd2) (fun e3 => ?ex3)⟩
    case ex1 | ex2 | ex3 =>
      refine ⟨_, rfl, st, _, 2, _, rfl, rfl, SqL.of h1, atI_nat (j := 2) rfl, _, rfl, n, many, rfl, rfl, m0, ?_⟩
      refine ⟨_, rfl, st, _, 2, _, rfl, rfl, SqL.of h1, atI_nat (j := 2) rfl, _, rfl, n, many, rfl, rfl, wide_div m0 m1 (by decide) (by decide), _, rfl, st, _, 2, 2, rfl, rfl, h1, rfl, ?_⟩
      exact ⟨_, rfl, q _ _ (bt.trans But.upd) (StA.put h2 h3 h4) (Int.emod_nonneg _ (by omega)) (Int.emod_lt_of_pos _ m0)⟩
    case bd1 | bd2 =>
      have e' : tn < 64 := of_decide_eq_true e
      refine ⟨fun σ' H' => ∃ (tn' : Int) (y3 : Option V), σ' = [some (.ref st), some (.int many), some (.int tn'), y3] ∧ But st H H' ∧ StA st c H' ∧ tn' = tn + 1, fun σ' H' hN => ?_, ?_⟩
      · obtain ⟨t', y', r1, r2, r3, r4⟩ := hN
        exact ⟨_, by omega, t', y', r1, r2, r3, rfl⟩
      · refine ⟨_, rfl, st, c, rfl, sa, fun H2 b2 s2 => ?_⟩
        obtain ⟨i, n, b, xs, h1, h2, h3, h4⟩ := id s2
        refine ⟨_, rfl, _, _, rfl, rfl, ?_⟩
        refine ⟨_, rfl, st, _, 3, _, rfl, rfl, SqL.of h1, atI_nat (j := 3) rfl, _, rfl, ite2 (fun e2 => ?_) (fun e2 => iteF ?_)⟩
        · refine ⟨_, rfl, st, _, 2, _, rfl, rfl, SqL.of h1, atI_nat (j := 2) rfl, _, rfl, many, 4096, rfl, rfl, .inr ⟨by decide, by decide⟩, n, _, rfl, rfl, _, rfl, ite2 (fun e3 => ?_) (fun e3 => ?_)⟩
          · refine ⟨_, rfl, st, _, 2, _, rfl, rfl, SqL.of h1, atI_nat (j := 2) rfl, _, rfl, many, 4096, rfl, rfl, .inr ⟨by decide, by decide⟩, _, rfl, st, _, 2, _, rfl, rfl, SqL.of h1, atI_nat (j := 2) rfl, n, 4093, rfl, rfl, (by show (0 : Int) < 4093; decide), 1, n % 4093, rfl, rfl, _, 1 + n % 4093, rfl, rfl, .inr ⟨by omega, by omega⟩, n, _, rfl, rfl, ?_⟩
            refine ⟨_, rfl, st, _, 2, 2, rfl, rfl, h1, rfl, ?_⟩
            exact ⟨_, _, rfl, (bt.trans b2).trans But.upd, StA.put h2 h3 h4, rfl⟩
          · exact ⟨_, _, rfl, bt.trans b2, s2, rfl⟩
        · exact ⟨_, _, rfl, bt.trans b2, s2, rfl⟩
end
end SS

namespace SS
open PySem PySem.Spec PyProof.Rows L2
theorem sm_mul {i j : Int} {a b : Nat} (ha : i.natAbs < 2 ^ a) (hb : j.natAbs < 2 ^ b) : (i * j).natAbs < 2 ^ (a + b) := wide_lt ha hb
theorem sm_add {i j : Int} {a : Nat} (ha : i.natAbs < 2 ^ a) (hb : j.natAbs < 2 ^ a) : (i + j).natAbs < 2 ^ (a + 1) := by
  rw [Nat.pow_succ]
  omega
theorem sm_sub {i j : Int} {a : Nat} (ha : i.natAbs < 2 ^ a) (hb : j.natAbs < 2 ^ a) : (i - j).natAbs < 2 ^ (a + 1) := by
  rw [Nat.pow_succ]
  omega
theorem sm_mono {i : Int} {a b : Nat} (ha : i.natAbs < 2 ^ a) (h : a ≤ b) : i.natAbs < 2 ^ b := Nat.lt_of_lt_of_le ha (Nat.pow_le_pow_right (by decide) h)
theorem pos_ne {a b : Int} (h1 : 0 < a) (h2 : 0 < b) : a * b ≠ 0 := Int.ne_of_gt (Int.mul_pos h1 h2)
end SS

namespace SS
open PySem PySem.Spec PyProof.Rows L2
/-! ### how many bits a number has -/
theorem mt_bits {X : Cx} : MtR X "int.bit_length" (fun x xs H Q => ∃ a : Int, x = .int a ∧ xs = [] ∧ Q (.int ((Builtin.Int.intBits a : Nat) : Int)) H) := by
  intro pins s σ H x xs v us Q I rx rs h
  obtain ⟨a, rfl, rfl, h⟩ := h
  obtain ⟨t, rfl⟩ := rx
  cases rs
  exact call_int_bit_length ⟨.int ((Builtin.Int.intBits a : Nat) : Int), H, I.tok _, ⟨_, rfl⟩, h⟩
theorem bits_le {d : Int} {k : Nat} (h : d.natAbs < 2 ^ k) : Builtin.Int.intBits d ≤ k := by
  unfold Builtin.Int.intBits
  by_cases c : d = 0
  · rw [if_pos (beq_iff_eq.mpr c)]
    exact Nat.zero_le _
  · rw [if_neg fun z => c (beq_iff_eq.mp z)]
    exact (Nat.log2_lt (Int.natAbs_ne_zero.mpr c)).mpr h
theorem dv_lt {d g : Int} {k : Nat} (hg : g ∣ d) (h0 : g ≠ 0) (h : d.natAbs < 2 ^ k) : (d.fdiv g).natAbs < 2 ^ k := by
  obtain ⟨c, rfl⟩ := hg
  rw [gcdDvdMul h0]
  rw [Int.natAbs_mul] at h
  exact Nat.lt_of_le_of_lt (Nat.le_mul_of_pos_left _ (Int.natAbs_pos.mpr h0)) h
theorem cdiv_ok {g : Int} (h0 : g ≠ 0) (h : g.natAbs < 2 ^ 3000) (i : Int) : CDivG i g := ⟨h0, logOf (n := 3000) (by decide) h (by decide)⟩
theorem gcd_ne {a b : Int} (h : b ≠ 0) : ((Int.gcd a b : Nat) : Int) ≠ 0 := by
  have := gcdP (t := a) h
  omega
theorem gcd_ltK {a b : Int} {k : Nat} (h : b ≠ 0) (hb : b.natAbs < 2 ^ k) : ((Int.gcd a b : Nat) : Int).natAbs < 2 ^ k := by
  rw [Int.natAbs_natCast]
  exact Nat.lt_of_le_of_lt (Nat.le_of_dvd (Int.natAbs_pos.mpr h) (Nat.gcd_dvd_right ..)) hb
section
variable {P : Program} {w : World} {K : PySem.W.Frag} {mg : Str → Option Value} {base : Heap}
def shortB (d1 d2 : Int) : Bool := decide (((Builtin.Int.intBits d1 : Nat) : Int) + ((Builtin.Int.intBits d2 : Nat) : Int) ≤ 256)
theorem short_of {d1 d2 : Int} (h1 : d1.natAbs < 2 ^ 128) (h2 : d2.natAbs < 2 ^ 128) : shortB d1 d2 = true := decide_eq_true (by
  have := bits_le h1
  have := bits_le h2
  omega)
def spAre (K : PySem.W.Frag) : Sp := fun vs H Q _ => ∃ (p q : Addr) (n1 d1 n2 d2 : Int), vs = [.ref p, .ref q] ∧ SqT K H p [.int n1, .int d1] ∧ SqT K H q [.int n2, .int d2] ∧ Q (.bl (shortB d1 d2)) H
theorem scAre : FnScope ["a", "b"] ["a", "b"] (defScope sAre) := ⟨rfl, rfl, rfl, by decide +kernel, rfl, by decide +kernel, by decide +kernel⟩
theorem ok_are {f : Addr} {fd : FuncData} {k : Nat} {tSb : Tok} (F : Fun K "are_short" "are_short" sAre f fd) (gSb : mg "SHORT_BITS" = some (.int 256 tSb)) : FnOk P w K mg base CX0 (k + 1) f fd ["a", "b"] (spAre K) := by
  refine F.ok scAre (fun vs H Q E h => ?_) (fun cdv A outer s H vs Q E hr h => ?_)
  · obtain ⟨_, _, _, _, _, _, rfl, _⟩ := h
    rfl
  · obtain ⟨p, q, n1, d1, n2, d2, rfl, h1, h2, k⟩ := h
    refine ⟨_, pss_one (ps_ret (pe_cmpR op_le (pe_op op_add
        (pe_bm0 PySem.F.plainAttrs_int PySem.F.slot_int_bit_length PySem.F.type_int_bit_length mt_bits (pe_ix ix_tup (pv 0) pe_int (fun _ _ => rfl)))
        (pe_bm0 PySem.F.plainAttrs_int PySem.F.slot_int_bit_length PySem.F.type_int_bit_length mt_bits (pe_ix ix_tup (pv 1) pe_int (fun _ _ => rfl))))
      (pe_glob (v := .int 256) (by rfl) gSb ⟨_, rfl⟩) (nomark _))), ?_⟩
    refine ⟨_, rfl, p, _, 1, _, rfl, rfl, h1, atI_nat (j := 1) rfl, rfl, d1, rfl, rfl, _, rfl, q, _, 1, _, rfl, rfl, h2, atI_nat (j := 1) rfl, rfl, d2, rfl, rfl, _, _, rfl, rfl, _, _, rfl, rfl, k⟩
end
end SS

namespace SS
open PySem PySem.Spec PyProof.Rows L2
/-- a tuple of two numbers, wherever it stands -/
def FrT (K : PySem.W.Frag) (H : Hp) (p : Addr) (n d : Int) : Prop := SqT K H p [.int n, .int d] ∧ TyX K H (.ref p) (.type "tuple")
theorem FrT.of {K : PySem.W.Frag} {H : Hp} {p : Addr} {n d : Int} (h : H p = some (.tup [.int n, .int d])) : FrT K H p n d := ⟨SqT.of h, .base (.tup h)⟩
theorem FrT.new {K : PySem.W.Frag} {H H' : Hp} {p : Addr} {n d : Int} (h : FrT K H p n d) (s : Same H H') : FrT K H' p n d := by
  obtain ⟨h1, h2⟩ := h
  rcases h1 with (h1 | ⟨o, h1⟩) | ⟨o, its, m, k1, k2, k3⟩
  · exact ⟨.inl (.inl (s _ _ h1)), .base (.tup (s _ _ h1))⟩
  · exact ⟨.inl (.inr ⟨o, s _ _ h1⟩), .fTuple (s _ _ h1)⟩
  · exact ⟨.inr ⟨o, its, m, k1, k2, k3⟩, .kTuple k1 k2⟩
theorem FrT.inj {K : PySem.W.Frag} {H : Hp} {p : Addr} {n d : Int} {xs : List V} (h : FrT K H p n d) (e : H p = some (.tup xs)) : True := trivial
end SS
namespace SS
open PySem PySem.Spec PyProof.Rows L2
section
variable {P : Program} {w : World} {K : PySem.W.Frag} {mg : Str → Option Value} {base : Heap}
/-! ### a whole number, a fraction by the law's own look -/
def spWhole : Sp := fun vs H Q _ => ∃ i : Int, vs = [.int i] ∧ Q (.bl true) H
theorem scWhole : FnScope ["_law_thing"] ["_law_thing"] (defScope sWhole) := ⟨rfl, rfl, rfl, by decide +kernel, rfl, by decide +kernel, by decide +kernel⟩
theorem ok_whole {f : Addr} {fd : FuncData} {k : Nat} (F : Fun K "_law_whole" "_law_whole" sWhole f fd) (mi : mg "isinstance" = none) (mn : mg "int" = none) (mb : mg "bool" = none) : FnOk P w K mg base CX0 (k + 1) f fd ["_law_thing"] spWhole := by
  refine F.ok scWhole (fun vs H Q E h => ?_) (fun cdv A outer s H vs Q E hr h => ?_)
  · obtain ⟨a, rfl, _⟩ := h
    rfl
  · obtain ⟨i, rfl, q⟩ := h
    refine ⟨_, pss_one (ps_ret (pe_and (pe_callB call_isi (by rfl) mi boot_isinstance (pa_cons (pv 0) (pa_cons (pe_bltn (v := .ty "int") (u := .type "int") (by rfl) mn (by decide +kernel) rfl) pa_nil)))
      (pe_one (pe_not (pe_callB call_isi (by rfl) mi boot_isinstance (pa_cons (pv 0) (pa_cons (pe_bltn (v := .ty "bool") (u := .type "bool") (by rfl) mb (by decide +kernel) rfl) pa_nil))))))), ?_⟩
    refine ⟨_, rfl, .int i, .ty "int", .type "int", .type "int", true, rfl, .ty _, .base (.int i), kit_ty (by decide +kernel), _, rfl, iteT ?_⟩
    exact ⟨_, rfl, .int i, .ty "bool", .type "int", .type "bool", false, rfl, .ty _, .base (.int i), kit_ty (by decide +kernel), _, rfl, q⟩
def spIsf (K : PySem.W.Frag) : Sp := fun vs H Q _ => ∃ (p : Addr) (n d : Int), vs = [.ref p] ∧ FrT K H p n d ∧ 0 < d ∧ Int.gcd n d = 1 ∧ ∀ H', Same H H' → Q (.bl true) H'
theorem scIsf : FnScope ["_law_thing", "_law_part"] ["_law_thing"] (defScope sIsf) := ⟨rfl, rfl, rfl, by decide +kernel, rfl, by decide +kernel, by decide +kernel⟩
theorem ok_isf {f : Addr} {fd : FuncData} (F : Fun K "_law_is_fraction" "_law_is_fraction" sIsf f fd) (mi : mg "isinstance" = none) (mt : mg "tuple" = none) (ml : mg "len" = none) (ma : mg "all" = none)
    (wh : Cl P w K mg base CX0 1 "_law_whole" spWhole []) (sh : Cl P w K mg base CX0 1 "_law_shared" spGcd []) : FnOk P w K mg base CX0 2 f fd ["_law_thing"] (spIsf K) := by
  refine F.ok scIsf (fun vs H Q E h => ?_) (fun cdv A outer s H vs Q E hr h => ?_)
  · obtain ⟨a, _, _, rfl, _⟩ := h
    rfl
  · obtain ⟨p, n, d, rfl, hp, hd, hg, q⟩ := h
    refine ⟨_, pss_cons (ps_if (PW.pt (pw_or (pt_not (pt_val (pe_callB call_isi (by rfl) mi boot_isinstance (pa_cons (pv 0) (pa_cons (pe_bltn (v := .ty "tuple") (u := .type "tuple") (by rfl) mt (by decide +kernel) rfl) pa_nil)))))
        (pw_or (pt_cmpR op_ne (pe_callB call_len_seq (by rfl) ml PySem.boot_len (pa_cons (pv 0) pa_nil)) pe_int (nomark _))
        (pw_or1 (pt_not (pt_val (pe_callB (cr_all rfl) (by rfl) ma boot_all (pa_cons
          (pe_lc (own := [("_law_part", 1)]) (g := gName 1) (tt := tYes) rfl scIsf.nd (pi_tup (pv 0)) (blkOk_by (N := ["_law_thing", "_law_part"]) (sc := defScope sIsf) (by decide +kernel))
            (fun _ _ _ _ _ => pg_name (i := 1) scIsf.nd rfl (Or.inl rfl)) (fun _ _ _ _ _ => pts_nil) (fun _ _ _ _ _ => pc0 wh hr (by decide) (pa_cons (pv 1) pa_nil))) pa_nil))))))))
        (pss_one (ps_ret pe_bl)) pss_nil)
      (pss_one (ps_ret (pe_and (pe_cmpR op_gt (pe_ix ix_tup (pv 0) pe_int (fun _ _ => rfl)) pe_int (nomark _))
        (pe_one (pe_cmpR op_eq (pc0 sh hr (by decide) (pa_cons (pe_ix ix_tup (pv 0) pe_int (fun _ _ => rfl)) (pa_cons (pe_ix ix_tup (pv 0) pe_int (fun _ _ => rfl)) pa_nil))) pe_int (nomark _)))))), ?_⟩
    refine ⟨_, rfl, .ref p, .ty "tuple", .type "tuple", .type "tuple", true, rfl, .ty _, hp.2, kit_ty (by decide +kernel), _, rfl, iteF ?_⟩
    refine ⟨_, rfl, p, _, rfl, .inr (hp.1), rfl, _, rfl, iteNS rfl ?_⟩
    refine ⟨_, rfl, p, rfl, ⟨_, hp.1⟩, fun D nD => lc_tup (K := K) (a := p) (xs := [.int n, .int d]) (fun i H' => H' D = some (.lst (List.replicate i (.bl true))) ∧ ∀ b o, b ≠ D → H b = some o → H' b = some o)
      ⟨upd_same, fun b o nb e => by rw [upd_ne nb]; exact e⟩ (fun i H' _ hW => (hp.new (fun b o e => hW.2 b o (ne_of_none e nD) e)).1) ?_ ?_⟩
    · rintro i x H' hx ⟨w1, w2⟩
      obtain ⟨z, rfl⟩ : ∃ z : Int, x = .int z := by
        match i, hx with
        | 0, hx => exact ⟨n, (Option.some.inj hx).symm⟩
        | 1, hx => exact ⟨d, (Option.some.inj hx).symm⟩
      have hi : i < 2 := by
        have zz := (List.getElem?_eq_some_iff.mp hx).1
        exact zz
      refine ⟨rfl, _, rfl, z, rfl, _, w1, ?_, ?_, ?_⟩
      · rw [List.length_replicate]
        exact small1000 (by omega)
      · rw [upd_same, List.replicate_succ']
      · intro b o nb e
        rw [upd_ne nb]
        exact w2 b o nb e
    · rintro H' ⟨w1, w2⟩
      refine ⟨D, [true, true], rfl, SqL.of w1, _, rfl, iteF ?_⟩
      have sm : Same H H' := fun b o e => w2 b o (ne_of_none e nD) e
      have hp' := hp.new sm
      refine ⟨_, rfl, p, _, 1, _, rfl, rfl, hp'.1, atI_nat (j := 1) rfl, d, 0, rfl, rfl, true, congrArg V.bl (decide_eq_true hd), iteT ?_⟩
      refine ⟨_, rfl, p, _, 0, _, rfl, rfl, hp'.1, atI_nat (j := 0) rfl, _, rfl, p, _, 1, _, rfl, rfl, hp'.1, atI_nat (j := 1) rfl, n, d, rfl, rfl, ?_⟩
      rw [hg]
      exact q _ sm
end
end SS
namespace SS
open PySem PySem.Spec PyProof.Rows L2
section
variable {P : Program} {w : World} {K : PySem.W.Frag} {mg : Str → Option Value} {base : Heap}
/-! ### plus, minus, times, over, is_less -/
/-- two fractions of few bits come in -/
def Two (K : PySem.W.Frag) (H : Hp) (vs : List V) (n1 d1 n2 d2 : Int) : Prop := ∃ p q : Addr, vs = [.ref p, .ref q] ∧ FrT K H p n1 d1 ∧ FrT K H q n2 d2 ∧
  0 < d1 ∧ 0 < d2 ∧ n1.natAbs < 2 ^ 3000 ∧ d1.natAbs < 2 ^ 3000 ∧ n2.natAbs < 2 ^ 3000 ∧ d2.natAbs < 2 ^ 3000 ∧ Int.gcd n1 d1 = 1 ∧ Int.gcd n2 d2 = 1
def spPlus (K : PySem.W.Frag) : Sp := fun vs H Q _ => ∃ n1 d1 n2 d2 : Int, Two K H vs n1 d1 n2 d2 ∧ ∀ r, H r = none → Q (.ref r) (upd H r (.tup [.int (fr1 (n1 * d2 + n2 * d1) (d1 * d2)), .int (fr2 (n1 * d2 + n2 * d1) (d1 * d2))]))
theorem scPlus : FnScope ["a", "b", "shared", "top", "divisor"] ["a", "b"] (defScope sPlus) := ⟨rfl, rfl, rfl, by decide +kernel, rfl, by decide +kernel, by decide +kernel⟩
theorem ok_plus {f C : Addr} {fd : FuncData} (F : Fun K "plus" "plus" sPlus f fd) (fo : Cl P w K mg base (L2.CX P w) 2 "fraction_of" (spFo C) []) (cd : Cl P w K mg base CX0 1 "common_divisor" spGcd []) (ar : Cl P w K mg base CX0 1 "are_short" (spAre K) []) : FnOk P w K mg base CX0 3 f fd ["a", "b"] (spPlus K) := by
  refine F.ok scPlus (fun vs H Q E h => ?_) (fun cdv A outer s H vs Q E hr h => ?_)
  · obtain ⟨_, _, _, _, ⟨p, q, rfl, _⟩, _⟩ := h
    rfl
  · obtain ⟨n1, d1, n2, d2, ⟨p, q, rfl, h1, h2, z1, z2, b1, b2, b3, b4, g1, g2⟩, k⟩ := h
    refine ⟨_, (pss_cons (ps_if (pt_val (pc0 ar hr (by decide) (pa_cons (pv 0) (pa_cons (pv 1) pa_nil))))
        (pss_one (ps_ret (pcX fo hr (by decide) (pa_cons (pe_op op_add (pe_op op_mulW (pe_ix ix_tup (pv 0) pe_int (fun _ _ => rfl)) (pe_ix ix_tup (pv 1) pe_int (fun _ _ => rfl))) (pe_op op_mulW (pe_ix ix_tup (pv 1) pe_int (fun _ _ => rfl)) (pe_ix ix_tup (pv 0) pe_int (fun _ _ => rfl)))) (pa_cons (pe_op op_mulW (pe_ix ix_tup (pv 0) pe_int (fun _ _ => rfl)) (pe_ix ix_tup (pv 1) pe_int (fun _ _ => rfl))) pa_nil))))) pss_nil)
      (pss_cons (ps_set (i := 2) scPlus.nd rfl (.inl rfl) (pc0 cd hr (by decide) (pa_cons (pe_ix ix_tup (pv 0) pe_int (fun _ _ => rfl)) (pa_cons (pe_ix ix_tup (pv 1) pe_int (fun _ _ => rfl)) pa_nil))))
      (pss_cons (ps_set (i := 3) scPlus.nd rfl (.inl rfl) (pe_op op_add (pe_op op_mulW (pe_ix ix_tup (pv 0) pe_int (fun _ _ => rfl)) (pe_op op_fdivG (pe_ix ix_tup (pv 1) pe_int (fun _ _ => rfl)) (pv 2))) (pe_op op_mulW (pe_ix ix_tup (pv 1) pe_int (fun _ _ => rfl)) (pe_op op_fdivG (pe_ix ix_tup (pv 0) pe_int (fun _ _ => rfl)) (pv 2)))))
      (pss_cons (ps_set (i := 4) scPlus.nd rfl (.inl rfl) (pc0 cd hr (by decide) (pa_cons (pv 3) (pa_cons (pv 2) pa_nil))))
      (pss_one (ps_ret (pe_tup (pa_cons (pe_op op_fdivG (pv 3) (pv 4)) (pa_cons (pe_op op_mulW (pe_op op_fdivG (pe_ix ix_tup (pv 0) pe_int (fun _ _ => rfl)) (pv 2)) (pe_op op_fdivG (pe_ix ix_tup (pv 1) pe_int (fun _ _ => rfl)) (pv 4))) pa_nil))))))))), ?_⟩
    refine ⟨_, rfl, _, rfl, p, q, n1, d1, n2, d2, rfl, h1.1, h2.1, _, rfl, ite2 (fun _ => ?_) (fun _ => ?_)⟩
    · refine ⟨_, rfl, p, _, 0, _, rfl, rfl, h1.1, atI_nat (j := 0) rfl, _, rfl, q, _, 1, _, rfl, rfl, h2.1, atI_nat (j := 1) rfl, n1, d2, rfl, rfl, wide_mul b1 b4 (by decide) (by decide) (by decide), ?_⟩
      refine ⟨_, rfl, q, _, 0, _, rfl, rfl, h2.1, atI_nat (j := 0) rfl, _, rfl, p, _, 1, _, rfl, rfl, h1.1, atI_nat (j := 1) rfl, n2, d1, rfl, rfl, wide_mul b3 b2 (by decide) (by decide) (by decide), _, _, rfl, rfl, ?_⟩
      refine ⟨_, rfl, p, _, 1, _, rfl, rfl, h1.1, atI_nat (j := 1) rfl, _, rfl, q, _, 1, _, rfl, rfl, h2.1, atI_nat (j := 1) rfl, d1, d2, rfl, rfl, wide_mul b2 b4 (by decide) (by decide) (by decide), ?_⟩
      exact ⟨n1 * d2 + n2 * d1, d1 * d2, rfl, fun e => absurd e (pos_ne z1 z2), fun _ => ⟨sm_mono (sm_mul b2 b4) (by decide), k⟩⟩
    · have d20 : d2 ≠ 0 := Int.ne_of_gt z2
      have s0 : plD d1 d2 ≠ 0 := gcd_ne d20
      have sl : (plD d1 d2).natAbs < 2 ^ 3000 := gcd_ltK d20 b4
      have G0 : plG n1 d1 n2 d2 ≠ 0 := gcd_ne s0
      have Gl : (plG n1 d1 n2 d2).natAbs < 2 ^ 3000 := gcd_ltK s0 sl
      have sd1 : plD d1 d2 ∣ d1 := Int.gcd_dvd_left d1 d2
      have sd2 : plD d1 d2 ∣ d2 := Int.gcd_dvd_right d1 d2
      have Gd2 : plG n1 d1 n2 d2 ∣ d2 := Int.dvd_trans (Int.gcd_dvd_right (plT n1 d1 n2 d2) (plD d1 d2)) sd2
      refine ⟨_, rfl, p, _, 1, _, rfl, rfl, h1.1, atI_nat (j := 1) rfl, _, rfl, q, _, 1, _, rfl, rfl, h2.1, atI_nat (j := 1) rfl, d1, d2, rfl, ?_⟩
      refine ⟨_, rfl, p, _, 0, _, rfl, rfl, h1.1, atI_nat (j := 0) rfl, _, rfl, q, _, 1, _, rfl, rfl, h2.1, atI_nat (j := 1) rfl, _, rfl, d2, plD d1 d2, rfl, rfl, cdiv_ok s0 sl d2, n1, d2.fdiv (plD d1 d2), rfl, rfl, wide_mul b1 (dv_lt sd2 s0 b4) (by decide) (by decide) (by decide), ?_⟩
      refine ⟨_, rfl, q, _, 0, _, rfl, rfl, h2.1, atI_nat (j := 0) rfl, _, rfl, p, _, 1, _, rfl, rfl, h1.1, atI_nat (j := 1) rfl, _, rfl, d1, plD d1 d2, rfl, rfl, cdiv_ok s0 sl d1, n2, d1.fdiv (plD d1 d2), rfl, rfl, wide_mul b3 (dv_lt sd1 s0 b2) (by decide) (by decide) (by decide), _, _, rfl, rfl, ?_⟩
      refine ⟨_, rfl, _, rfl, plT n1 d1 n2 d2, plD d1 d2, rfl, ?_⟩
      refine ⟨_, rfl, _, rfl, plT n1 d1 n2 d2, plG n1 d1 n2 d2, rfl, rfl, cdiv_ok G0 Gl _, ?_⟩
      refine ⟨_, rfl, p, _, 1, _, rfl, rfl, h1.1, atI_nat (j := 1) rfl, _, rfl, d1, plD d1 d2, rfl, rfl, cdiv_ok s0 sl d1, _, rfl, q, _, 1, _, rfl, rfl, h2.1, atI_nat (j := 1) rfl, _, rfl, d2, plG n1 d1 n2 d2, rfl, rfl, cdiv_ok G0 Gl d2, d1.fdiv (plD d1 d2), d2.fdiv (plG n1 d1 n2 d2), rfl, rfl, wide_mul (dv_lt sd1 s0 b2) (dv_lt Gd2 G0 b4) (by decide) (by decide) (by decide), small2, ?_⟩
      have e := plus_long z1 z2 g1 g2
      rw [← e.1, ← e.2] at k
      exact k
def spTimes (K : PySem.W.Frag) : Sp := fun vs H Q _ => ∃ n1 d1 n2 d2 : Int, Two K H vs n1 d1 n2 d2 ∧ ∀ r, H r = none → Q (.ref r) (upd H r (.tup [.int (fr1 (n1 * n2) (d1 * d2)), .int (fr2 (n1 * n2) (d1 * d2))]))
end
end SS

namespace SS
open PySem PySem.Spec PyProof.Rows L2
section
variable {P : Program} {w : World} {K : PySem.W.Frag} {mg : Str → Option Value} {base : Heap}
theorem scTimes : FnScope ["a", "b", "one", "other"] ["a", "b"] (defScope sTimes) := ⟨rfl, rfl, rfl, by decide +kernel, rfl, by decide +kernel, by decide +kernel⟩
theorem ok_times {f C : Addr} {fd : FuncData} (F : Fun K "times" "times" sTimes f fd) (fo : Cl P w K mg base (L2.CX P w) 2 "fraction_of" (spFo C) []) (cd : Cl P w K mg base CX0 1 "common_divisor" spGcd []) (ar : Cl P w K mg base CX0 1 "are_short" (spAre K) []) : FnOk P w K mg base CX0 3 f fd ["a", "b"] (spTimes K) := by
  refine F.ok scTimes (fun vs H Q E h => ?_) (fun cdv A outer s H vs Q E hr h => ?_)
  · obtain ⟨_, _, _, _, ⟨p, q, rfl, _⟩, _⟩ := h
    rfl
  · obtain ⟨n1, d1, n2, d2, ⟨p, q, rfl, h1, h2, z1, z2, b1, b2, b3, b4, g1, g2⟩, k⟩ := h
    refine ⟨_, (pss_cons (ps_if (pt_val (pc0 ar hr (by decide) (pa_cons (pv 0) (pa_cons (pv 1) pa_nil))))
        (pss_one (ps_ret (pcX fo hr (by decide) (pa_cons (pe_op op_mulW (pe_ix ix_tup (pv 0) pe_int (fun _ _ => rfl)) (pe_ix ix_tup (pv 1) pe_int (fun _ _ => rfl))) (pa_cons (pe_op op_mulW (pe_ix ix_tup (pv 0) pe_int (fun _ _ => rfl)) (pe_ix ix_tup (pv 1) pe_int (fun _ _ => rfl))) pa_nil))))) pss_nil)
      (pss_cons (ps_par (i := 2) (j := 3) rfl scTimes.nd rfl rfl (by decide) rfl rfl (pa_cons (pc0 cd hr (by decide) (pa_cons (pe_ix ix_tup (pv 0) pe_int (fun _ _ => rfl)) (pa_cons (pe_ix ix_tup (pv 1) pe_int (fun _ _ => rfl)) pa_nil))) (pa_cons (pc0 cd hr (by decide) (pa_cons (pe_ix ix_tup (pv 1) pe_int (fun _ _ => rfl)) (pa_cons (pe_ix ix_tup (pv 0) pe_int (fun _ _ => rfl)) pa_nil))) pa_nil)) rfl)
      (pss_one (ps_ret (pe_tup (pa_cons (pe_op op_mulW (pe_op op_fdivG (pe_ix ix_tup (pv 0) pe_int (fun _ _ => rfl)) (pv 2)) (pe_op op_fdivG (pe_ix ix_tup (pv 1) pe_int (fun _ _ => rfl)) (pv 3))) (pa_cons (pe_op op_mulW (pe_op op_fdivG (pe_ix ix_tup (pv 0) pe_int (fun _ _ => rfl)) (pv 3)) (pe_op op_fdivG (pe_ix ix_tup (pv 1) pe_int (fun _ _ => rfl)) (pv 2))) pa_nil))))))), ?_⟩
    refine ⟨_, rfl, _, rfl, p, q, n1, d1, n2, d2, rfl, h1.1, h2.1, _, rfl, ite2 (fun _ => ?_) (fun _ => ?_)⟩
    · refine ⟨_, rfl, p, _, 0, _, rfl, rfl, h1.1, atI_nat (j := 0) rfl, _, rfl, q, _, 0, _, rfl, rfl, h2.1, atI_nat (j := 0) rfl, n1, n2, rfl, rfl, wide_mul b1 b3 (by decide) (by decide) (by decide), ?_⟩
      refine ⟨_, rfl, p, _, 1, _, rfl, rfl, h1.1, atI_nat (j := 1) rfl, _, rfl, q, _, 1, _, rfl, rfl, h2.1, atI_nat (j := 1) rfl, d1, d2, rfl, rfl, wide_mul b2 b4 (by decide) (by decide) (by decide), ?_⟩
      exact ⟨n1 * n2, d1 * d2, rfl, fun e => absurd e (pos_ne z1 z2), fun _ => ⟨sm_mono (sm_mul b2 b4) (by decide), k⟩⟩
    · have d10 : d1 ≠ 0 := Int.ne_of_gt z1
      have d20 : d2 ≠ 0 := Int.ne_of_gt z2
      have a0 := gcd_ne (a := n1) d20
      have al := gcd_ltK (a := n1) d20 b4
      have c0 := gcd_ne (a := n2) d10
      have cl := gcd_ltK (a := n2) d10 b2
      have e := times_long z1 z2 g1 g2
      have m1 := dv_lt (Int.gcd_dvd_left n1 d2) a0 b1
      have m2 := dv_lt (Int.gcd_dvd_right n1 d2) a0 b4
      have m3 := dv_lt (Int.gcd_dvd_left n2 d1) c0 b3
      have m4 := dv_lt (Int.gcd_dvd_right n2 d1) c0 b2
      refine ⟨_, rfl, p, _, 0, _, rfl, rfl, h1.1, atI_nat (j := 0) rfl, _, rfl, q, _, 1, _, rfl, rfl, h2.1, atI_nat (j := 1) rfl, n1, d2, rfl, _, rfl, q, _, 0, _, rfl, rfl, h2.1, atI_nat (j := 0) rfl, _, rfl, p, _, 1, _, rfl, rfl, h1.1, atI_nat (j := 1) rfl, n2, d1, rfl, _, _, rfl, ?_⟩
      generalize ((Int.gcd n1 d2 : Nat) : Int) = a at *
      generalize ((Int.gcd n2 d1 : Nat) : Int) = c at *
      refine ⟨_, rfl, p, _, 0, _, rfl, rfl, h1.1, atI_nat (j := 0) rfl, _, rfl, n1, a, rfl, rfl, cdiv_ok a0 al n1, _, rfl, q, _, 0, _, rfl, rfl, h2.1, atI_nat (j := 0) rfl, _, rfl, n2, c, rfl, rfl, cdiv_ok c0 cl n2, n1.fdiv a, n2.fdiv c, rfl, rfl, wide_mul m1 m3 (by decide) (by decide) (by decide), ?_⟩
      refine ⟨_, rfl, p, _, 1, _, rfl, rfl, h1.1, atI_nat (j := 1) rfl, _, rfl, d1, c, rfl, rfl, cdiv_ok c0 cl d1, _, rfl, q, _, 1, _, rfl, rfl, h2.1, atI_nat (j := 1) rfl, _, rfl, d2, a, rfl, rfl, cdiv_ok a0 al d2, d1.fdiv c, d2.fdiv a, rfl, rfl, wide_mul m4 m2 (by decide) (by decide) (by decide), small2, ?_⟩
      rw [← e.1, ← e.2] at k
      exact k
end
end SS

namespace SS
open PySem PySem.Spec PyProof.Rows L2
section
variable {P : Program} {w : World} {K : PySem.W.Frag} {mg : Str → Option Value} {base : Heap}
theorem scLPlus : FnScope ["_law_a", "_law_b"] ["_law_a", "_law_b"] (defScope sLPlus) := ⟨rfl, rfl, rfl, by decide +kernel, rfl, by decide +kernel, by decide +kernel⟩
theorem ok_lplus {f : Addr} {fd : FuncData} (F : Fun K "_law_plus" "_law_plus" sLPlus f fd) (fo : Cl P w K mg base CX0 2 "_law_frac" spFrac []) : FnOk P w K mg base CX0 3 f fd ["_law_a", "_law_b"] (spPlus K) := by
  refine F.ok scLPlus (fun vs H Q E h => ?_) (fun cdv A outer s H vs Q E hr h => ?_)
  · obtain ⟨_, _, _, _, ⟨p, q, rfl, _⟩, _⟩ := h
    rfl
  · obtain ⟨n1, d1, n2, d2, ⟨p, q, rfl, h1, h2, z1, z2, b1, b2, b3, b4, _, _⟩, k⟩ := h
    refine ⟨_, pss_one (ps_ret (pc0 fo hr (by decide) (pa_cons (pe_op op_add (pe_op op_mulW (pe_ix ix_tup (pv 0) pe_int (fun _ _ => rfl)) (pe_ix ix_tup (pv 1) pe_int (fun _ _ => rfl)))
      (pe_op op_mulW (pe_ix ix_tup (pv 1) pe_int (fun _ _ => rfl)) (pe_ix ix_tup (pv 0) pe_int (fun _ _ => rfl))))
      (pa_cons (pe_op op_mulW (pe_ix ix_tup (pv 0) pe_int (fun _ _ => rfl)) (pe_ix ix_tup (pv 1) pe_int (fun _ _ => rfl))) pa_nil)))), ?_⟩
    refine ⟨_, rfl, p, _, 0, _, rfl, rfl, h1.1, atI_nat (j := 0) rfl, _, rfl, q, _, 1, _, rfl, rfl, h2.1, atI_nat (j := 1) rfl, n1, d2, rfl, rfl, wide_mul b1 b4 (by decide) (by decide) (by decide), ?_⟩
    refine ⟨_, rfl, q, _, 0, _, rfl, rfl, h2.1, atI_nat (j := 0) rfl, _, rfl, p, _, 1, _, rfl, rfl, h1.1, atI_nat (j := 1) rfl, n2, d1, rfl, rfl, wide_mul b3 b2 (by decide) (by decide) (by decide), _, _, rfl, rfl, ?_⟩
    refine ⟨_, rfl, p, _, 1, _, rfl, rfl, h1.1, atI_nat (j := 1) rfl, _, rfl, q, _, 1, _, rfl, rfl, h2.1, atI_nat (j := 1) rfl, d1, d2, rfl, rfl, wide_mul b2 b4 (by decide) (by decide) (by decide), ?_⟩
    exact ⟨n1 * d2 + n2 * d1, d1 * d2, rfl, pos_ne z1 z2, sm_mono (sm_mul b2 b4) (by decide), k⟩
theorem scLTimes : FnScope ["_law_a", "_law_b"] ["_law_a", "_law_b"] (defScope sLTimes) := ⟨rfl, rfl, rfl, by decide +kernel, rfl, by decide +kernel, by decide +kernel⟩
theorem ok_ltimes {f : Addr} {fd : FuncData} (F : Fun K "_law_times" "_law_times" sLTimes f fd) (fo : Cl P w K mg base CX0 2 "_law_frac" spFrac []) : FnOk P w K mg base CX0 3 f fd ["_law_a", "_law_b"] (spTimes K) := by
  refine F.ok scLTimes (fun vs H Q E h => ?_) (fun cdv A outer s H vs Q E hr h => ?_)
  · obtain ⟨_, _, _, _, ⟨p, q, rfl, _⟩, _⟩ := h
    rfl
  · obtain ⟨n1, d1, n2, d2, ⟨p, q, rfl, h1, h2, z1, z2, b1, b2, b3, b4, _, _⟩, k⟩ := h
    refine ⟨_, pss_one (ps_ret (pc0 fo hr (by decide) (pa_cons (pe_op op_mulW (pe_ix ix_tup (pv 0) pe_int (fun _ _ => rfl)) (pe_ix ix_tup (pv 1) pe_int (fun _ _ => rfl)))
      (pa_cons (pe_op op_mulW (pe_ix ix_tup (pv 0) pe_int (fun _ _ => rfl)) (pe_ix ix_tup (pv 1) pe_int (fun _ _ => rfl))) pa_nil)))), ?_⟩
    refine ⟨_, rfl, p, _, 0, _, rfl, rfl, h1.1, atI_nat (j := 0) rfl, _, rfl, q, _, 0, _, rfl, rfl, h2.1, atI_nat (j := 0) rfl, n1, n2, rfl, rfl, wide_mul b1 b3 (by decide) (by decide) (by decide), ?_⟩
    refine ⟨_, rfl, p, _, 1, _, rfl, rfl, h1.1, atI_nat (j := 1) rfl, _, rfl, q, _, 1, _, rfl, rfl, h2.1, atI_nat (j := 1) rfl, d1, d2, rfl, rfl, wide_mul b2 b4 (by decide) (by decide) (by decide), ?_⟩
    exact ⟨n1 * n2, d1 * d2, rfl, pos_ne z1 z2, sm_mono (sm_mul b2 b4) (by decide), k⟩
end
end SS

namespace SS
open PySem PySem.Spec PyProof.Rows L2
/-! ### names: texts of one to six small letters -/
def NmOk (x : Str) : Prop := 0 < x.cps.toList.length ∧ x.cps.toList.length < 7 ∧ ∀ c ∈ x.cps.toList, 97 ≤ c ∧ c ≤ 122
instance (x : Str) : Decidable (NmOk x) := inferInstanceAs (Decidable (_ ∧ _ ∧ _))
abbrev abc : Str := "abcdefghijklmnopqrstuvwxyz"
abbrev ownL : List Str := ["is", "most", "least", "below", "above", "tell", "enter", "none", "first", "point", "mark", "x"]
theorem own_ok : ∀ x ∈ ownL, NmOk x := by decide +kernel
theorem abc_len : abc.length = 26 := by decide +kernel
theorem abc_at : ∀ i : Nat, i < 26 → abc.cps[i]? = some (97 + i) := by decide +kernel
theorem join_ones : ∀ cs : List Nat, (Txt.join "" (cs.map fun c => (⟨#[c]⟩ : Str))).cps.toList = cs := fun cs => by
  have e := eq_of_beq (PyProof.Rows.join_plain_closes "" (cs.map fun c => (⟨#[c]⟩ : Str)))
  rw [e]
  have e2 : ∀ l : List (List Nat), TL.joinL [] l = l.flatten := fun l => by
    induction l with
    | nil => rfl
    | cons p r ih =>
      cases r with
      | nil => simp [TL.joinL]
      | cons q r => simp only [TL.joinL, List.nil_append, ih, List.flatten_cons]
  have e3 := TL.tl_join "" (cs.map fun c => (⟨#[c]⟩ : Str))
  refine e3.trans ?_
  rw [show TL.tl "" = [] from rfl, e2, List.map_map]
  clear e e3 e2
  induction cs with
  | nil => rfl
  | cons c cs ih =>
    rw [List.map_cons, List.flatten_cons]
    show c :: _ = c :: cs
    exact congrArg _ ih
/-- x * n of a text, n from 1 to 3 -/
theorem op_mulS {X : Cx} : OpR X (binaryOp .Mult) (fun x y H Q => ∃ (z : Str) (n : Int), x = .str z ∧ y = .int n ∧ 1 ≤ n ∧ n ≤ 3 ∧ z.length ≤ 6 ∧ ∀ z' : Str, z'.cps.toList = (List.replicate n.toNat z.cps.toList).flatten → Q (.str z') H) := by
  intro pins s σ H x y v u Q I rx ry h
  obtain ⟨z, n, rfl, rfl, n1, n3, zl, q⟩ := h
  obtain ⟨t, rfl⟩ := rx
  obtain ⟨t', rfl⟩ := ry
  refine P.mul_str ?_ (fun _ _ => ?_) (fun _ _ => ?_) ?_
  · rw [decide_eq_false (by omega), decide_eq_false (by omega)]
    rfl
  · have : n = 1 ∨ n = 2 ∨ n = 3 := by omega
    rcases this with e | e | e <;> subst e <;> omega
  · have : n = 1 ∨ n = 2 ∨ n = 3 := by omega
    have zz : ∀ m : Nat, m ≤ 18 → Builtin.Str.tooLong m = false := fun m hm => by
      unfold Builtin.Str.tooLong
      exact decide_eq_false (by
        have : sizeLine = 16777216 := sizeLine_eq
        omega)
    rcases this with e | e | e <;> subst e <;> exact zz _ (by simp; omega)
  · rw [if_neg (by omega)]
    by_cases c : (n == 1 || z.length == 0) = true
    · rw [if_pos c]
      refine ⟨.str z, H, I, ⟨t, rfl⟩, q z ?_⟩
      rw [Bool.or_eq_true, beq_iff_eq, beq_iff_eq] at c
      rcases c with c | c
      · subst c
        simp
      · have : z.cps.toList = [] := by
          apply List.eq_nil_of_length_eq_zero
          rw [Array.length_toList]
          exact c
        rw [this]
        simp
    · rw [if_neg c]
      have : n = 1 ∨ n = 2 ∨ n = 3 := by omega
      have sl : sizeLine = 16777216 := sizeLine_eq
      have zl' : z.cps.size ≤ 6 := zl
      refine ⟨?_, ⟨.str _, H, I.tok _, ⟨_, rfl⟩, q _ ?_⟩⟩
      · show Array.size _ ≤ sizeLine
        rw [sl]
        rcases this with e | e | e <;> subst e <;> simp [List.replicate] <;> omega
      · rcases this with e | e | e <;> subst e <;> simp [List.replicate]
end SS

namespace SS
open PySem PySem.Spec PyProof.Rows L2
theorem lt8 {n : Int} (h : n.natAbs < 2 ^ 100) : n.natAbs < 2 ^ 8000 := sm_mono h (by decide)
theorem cut1S {z : Str} (h : 0 < z.cps.toList.length) : (cutS z none (some 1)).cps.toList = z.cps.toList.take 1 := by
  unfold cutS
  have hl : z.length = z.cps.toList.length := by
    rw [Array.length_toList]
    rfl
  rw [HT.sIx_none, show HT.sIx z.length z.length (some 1) = min 1 z.length from HT.sIx_nat z.length z.length 1, hl, Nat.min_eq_left h]
  rfl
theorem NmOk.cut {z : Str} (h : NmOk z) : NmOk (cutS z none (some 1)) := by
  obtain ⟨h1, h2, h3⟩ := h
  unfold NmOk
  rw [cut1S h1, List.length_take]
  exact ⟨by omega, by omega, fun c hc => h3 c (List.mem_of_mem_take hc)⟩
theorem NmOk.len {z : Str} (h : NmOk z) : z.length ≤ sizeLine := by
  have e : z.length = z.cps.toList.length := by
    rw [Array.length_toList]
    rfl
  have sl : sizeLine = 16777216 := sizeLine_eq
  have := h.2.1
  omega
theorem at_str {xs : List Str} {d : Int} (h0 : 0 ≤ d) (h : d < xs.length) : ∃ x, x ∈ xs ∧ atI (xs.map V.str) d = some (.str x) := by
  have hn : d.toNat < xs.length := by omega
  refine ⟨xs[d.toNat], List.getElem_mem hn, at_of (j := d.toNat) (by omega) ?_⟩
  rw [List.getElem?_map, List.getElem?_eq_getElem hn]
  rfl
section
variable {P : Program} {w : World} {K : PySem.W.Frag} {mg : Str → Option Value} {base : Heap}
def spSname : Sp := fun vs H Q _ => ∃ st c : Addr, vs = [.ref st] ∧ StA st c H ∧ ∀ H' x, But st H H' → StA st c H' → NmOk x → Q (.str x) H'
theorem scSname : FnScope ["_law_state", "_law_letters", "_law_own", "_law_way", "_law_word", "_law_k"] ["_law_state"] (defScope sSname) := ⟨rfl, rfl, rfl, by decide +kernel, rfl, by decide +kernel, by decide +kernel⟩
theorem ok_sname {f : Addr} {fd : FuncData} (F : Fun K "_law_some_name" "_law_some_name" sSname f fd) (mr : mg "range" = none) (tk : Cl P w K mg base CX0 3 "_law_take" spTake []) : FnOk P w K mg base CX0 4 f fd ["_law_state"] spSname := by
  refine F.ok scSname (fun vs H Q E h => ?_) (fun cdv A outer s H vs Q E hr h => ?_)
  · obtain ⟨_, _, rfl, _⟩ := h
    rfl
  · obtain ⟨st, c, rfl, sa, q⟩ := h
    refine ⟨_, pss_cons (ps_set (i := 1) scSname.nd rfl (.inr rfl) pe_str)
      (pss_cons (ps_set (i := 2) scSname.nd rfl (.inl rfl) (pe_tup (pa_cons pe_str (pa_cons pe_str (pa_cons pe_str (pa_cons pe_str (pa_cons pe_str (pa_cons pe_str (pa_cons pe_str (pa_cons pe_str (pa_cons pe_str (pa_cons pe_str (pa_cons pe_str (pa_cons pe_str pa_nil))))))))))))))
      (pss_cons (ps_set (i := 3) scSname.nd rfl (.inl rfl) (pc0 tk hr (by decide) (pa_cons (pv 0) (pa_cons pe_int pa_nil))))
      (pss_cons (ps_set (i := 4) scSname.nd rfl (.inl rfl) (pe_join pe_str
        (pe_lc (own := [("_law_k", 5)]) (g := gName 5) (tt := tYes) rfl scSname.nd (pi_range1 rfl mr (pa_cons (pe_op op_add pe_int (pc0 tk hr (by decide) (pa_cons (pv 0) (pa_cons pe_int pa_nil)))) pa_nil)) (blkOk_by (by rfl))
          (fun _ _ _ _ _ => pg_name (i := 5) scSname.nd rfl (Or.inl rfl)) (fun _ _ _ _ _ => pts_nil)
          (fun _ _ _ _ _ => pe_item_str (pv 1) (pc0 tk hr (by decide) (pa_cons (pv 0) (pa_cons pe_int pa_nil))) (fun _ _ => rfl)))))
      (pss_one (ps_ret (pe_ix ix_tup (pe_tup (pa_cons (pv 4) (pa_cons (pe_ix ix_tup (pv 2) (pc0 tk hr (by decide) (pa_cons (pv 0) (pa_cons pe_int pa_nil))) (fun _ _ => rfl)) (pa_cons (pe_slice sl_str (pv 4) po_none (po_some pe_int)) (pa_cons (pv 4) pa_nil))))) (pv 3) (fun _ _ => rfl))))))), ?_⟩
    refine ⟨by show 12 ≤ sizeLine; decide, fun U nU => ?_⟩
    have sU := same_new (o := .tup (ownL.map V.str)) nU
    refine ⟨_, rfl, st, c, 4, rfl, by decide, lt8 (by decide), sa.same sU, fun H1 wy b1 s1 l1 u1 => ?_⟩
    have hU1 : H1 U = some (.tup (ownL.map V.str)) := b1.tup (sa.same sU) upd_same
    refine ⟨⟨_, rfl⟩, _, rfl, st, c, 6, rfl, by decide, lt8 (by decide), s1, fun H2 d2 b2 s2 l2 u2 => ⟨1, d2, rfl, rfl, 1 + d2, rfl, by omega, by omega, fun D nD => ?_⟩⟩
    have hU2 : H2 U = some (.tup (ownL.map V.str)) := b2.tup s1 hU1
    have Ds := s2.fresh nD
    have Dc := s2.fresh2 nD
    refine lc_range (lo := 0) (n := (1 + d2).toNat) (fun i H' => ∃ cs : List Nat, H' D = some (.lst ((cs.map fun c => (⟨#[c]⟩ : Str)).map V.str)) ∧ cs.length = i ∧ (∀ c ∈ cs, 97 ≤ c ∧ c ≤ 122) ∧ StA st c H' ∧ ∀ b o, b ≠ st → b ≠ D → H2 b = some o → H' b = some o)
      ⟨[], upd_same, rfl, fun c hc => absurd hc List.not_mem_nil, s2.other Ds Dc, fun b o _ nb e => by rw [upd_ne nb]; exact e⟩ ?_ ?_
    · rintro i H3 hi ⟨cs, k1, k2, k3, k4, k5⟩
      refine ⟨rfl, _, rfl, _, rfl, st, c, 26, rfl, by decide, lt8 (by decide), k4, fun H4 d4 b4 s4 l4 u4 => ?_⟩
      have hD4 := b4 _ _ Ds k1
      refine ⟨abc, d4, 97 + d4.toNat, rfl, rfl, l4, by omega, by rw [abc_len]; omega, abc_at _ (by omega), _, hD4, ?_, cs ++ [97 + d4.toNat], ?_, ?_, ?_, s4.other Ds Dc, ?_⟩
      · rw [List.length_map, List.length_map, k2]
        exact small1000 (by omega)
      · rw [upd_same, List.map_append, List.map_append]
        rfl
      · rw [List.length_append, k2]
        rfl
      · intro x hx
        rcases List.mem_append.mp hx with z | z
        · exact k3 x z
        · rw [List.mem_singleton.mp z]
          omega
      · intro b o n1 n2 e
        rw [upd_ne n2]
        exact b4 b o n1 (k5 b o n1 n2 e)
    · rintro H3 ⟨cs, k1, k2, k3, k4, k5⟩
      refine ⟨_, D, cs.map fun c => (⟨#[c]⟩ : Str), rfl, rfl, .inl (SqL.of k1), ?_, ?_⟩
      · have e1 : ((cs.map fun c => (⟨#[c]⟩ : Str)).map (·.length)).sum = cs.length := by
          rw [List.map_map]
          clear k1 k2 k3
          induction cs with
          | nil => rfl
          | cons a r ih =>
            rw [List.map_cons, List.sum_cons, ih, List.length_cons]
            show 1 + r.length = r.length + 1
            omega
        rw [e1, List.length_map, k2]
        show (1 + d2).toNat + (1 + d2).toNat * 0 ≤ 16777216
        omega
      have hw : NmOk (Txt.join "" (cs.map fun c => (⟨#[c]⟩ : Str))) := by
        unfold NmOk
        rw [join_ones, k2]
        exact ⟨by omega, by omega, k3⟩
      generalize Txt.join "" (cs.map fun c => (⟨#[c]⟩ : Str)) = word at hw
      have hU3 := k5 U _ (s1.tup hU1 ) (fun e => by
        rw [e, nD] at hU2
        cases hU2) hU2
      refine ⟨_, rfl, _, rfl, _, rfl, st, c, 12, rfl, by decide, lt8 (by decide), k4, fun H5 d5 b5 s5 l5 u5 => ?_⟩
      obtain ⟨ow, ho1, ho2⟩ := at_str (xs := ownL) l5 u5
      refine ⟨U, _, d5, _, rfl, rfl, SqT.of (b5.tup k4 hU3), ho2, _, rfl, 1, rfl, word, rfl, hw.len, _, rfl, by show 4 ≤ sizeLine; decide, fun T nT => ?_⟩
      have sT := same_new (o := .tup [.str word, .str ow, .str (cutS word none (some 1)), .str word]) nT
      obtain ⟨x, hx1, hx2⟩ : ∃ x, NmOk x ∧ atI [V.str word, V.str ow, V.str (cutS word none (some 1)), V.str word] wy = some (.str x) := by
        rcases (show wy = 0 ∨ wy = 1 ∨ wy = 2 ∨ wy = 3 by omega) with e | e | e | e <;> subst e
        · exact ⟨_, hw, rfl⟩
        · exact ⟨_, own_ok _ ho1, rfl⟩
        · exact ⟨_, hw.cut, rfl⟩
        · exact ⟨_, hw, rfl⟩
      refine ⟨_, rfl, T, _, wy, _, rfl, rfl, SqT.of upd_same, hx2, q _ x ?_ (s5.same sT) hx1⟩
      intro b o nb e
      refine sT _ _ (b5 _ _ nb (k5 _ _ nb ?_ (b2 _ _ nb (b1 _ _ nb (sU _ _ e)))))
      intro z
      have e2 := b2 _ _ nb (b1 _ _ nb (sU _ _ e))
      rw [z, nD] at e2
      cases e2
end
end SS

namespace SS
open PySem PySem.Spec PyProof.Rows L2
section
variable {P : Program} {w : World} {K : PySem.W.Frag} {mg : Str → Option Value} {base : Heap}
def spNames : Sp := fun vs H Q _ => ∃ (st c : Addr) (many : Int), vs = [.ref st, .int many] ∧ 0 ≤ many ∧ many ≤ 10 ∧ StA st c H ∧
  ∀ H' l (xs : List Str), But st H H' → StA st c H' → H l = none → H' l = some (.lst (xs.map V.str)) → (xs.length : Int) = many → (∀ x ∈ xs, NmOk x) → xs.Nodup → Q (.ref l) H'
/-- the codes of the name put in at a turn -/
def cdN (i : Nat) (j : Nat) : List Nat := [97 + ((7 * (j : Int) + (0 + (i : Int))) % 26).toNat]
theorem cdN_inj {i a b : Nat} (ha : a < 26) (hb : b < 26) (h : cdN i a = cdN i b) : a = b := by
  unfold cdN at h
  have z := (List.cons.inj h).1
  omega
theorem cdN_full {i : Nat} {xs : List Str} (hl : xs.length < 26) (h : ∀ j : Nat, j < 26 → ∃ y ∈ xs, y.cps.toList = cdN i j) : False := by
  have nd : ((List.range 26).map (cdN i)).Nodup := by
    refine List.Pairwise.map (R := fun a b => a ≠ b ∧ a < 26 ∧ b < 26) _ (fun a b n e => n.1 (cdN_inj n.2.1 n.2.2 e)) ?_
    decide +kernel
  have sb : (List.range 26).map (cdN i) ⊆ xs.map fun y => y.cps.toList := fun c hc => by
    obtain ⟨j, hj, rfl⟩ := List.mem_map.mp hc
    obtain ⟨y, hy, e⟩ := h j (List.mem_range.mp hj)
    exact List.mem_map.mpr ⟨y, hy, e⟩
  have z := List.Nodup.length_le_of_subset nd sb
  rw [List.length_map, List.length_map, List.length_range] at z
  omega
theorem inV_strs {x : Str} : ∀ {xs : List Str}, inV (.str x) (xs.map V.str) = true ↔ x ∈ xs := by
  intro xs
  unfold inV
  rw [List.any_map, List.any_eq_true]
  constructor
  · rintro ⟨y, hy, e⟩
    have e' : eqV (V.str y) (V.str x) = true := e
    have : y = x := by simpa [eqV] using e'
    rw [← this]
    exact hy
  · intro h
    exact ⟨x, h, by show eqV (V.str x) (V.str x) = true; simp [eqV]⟩
theorem scNames : FnScope ["_law_state", "_law_many", "_law_letters", "_law_names_here", "_law_k", "_law_name", "_law_turns"] ["_law_state", "_law_many"] (defScope sNames) := ⟨rfl, rfl, rfl, by decide +kernel, rfl, by decide +kernel, by decide +kernel⟩
theorem flat_strs (xs : List Str) : (xs.map V.str).all flatV = true := by
  rw [List.all_map]
  exact List.all_eq_true.mpr fun _ _ => rfl
theorem ok_names {f : Addr} {fd : FuncData} (F : Fun K "_law_names" "_law_names" sNames f fd) (mr : mg "range" = none) (sn : Cl P w K mg base CX0 4 "_law_some_name" spSname []) : FnOk P w K mg base CX0 5 f fd ["_law_state", "_law_many"] spNames := by
  refine F.ok scNames (fun vs H Q E h => ?_) (fun cdv A outer s H vs Q E hr h => ?_)
  · obtain ⟨_, _, _, rfl, _⟩ := h
    rfl
  · obtain ⟨st, c, many, rfl, m0, m1, sa, q⟩ := h
    refine ⟨_, pss_cons (ps_set (i := 2) scNames.nd rfl (.inl rfl) pe_str)
      (pss_cons (ps_set (i := 3) scNames.nd rfl (.inl rfl) (pe_lst pa_nil))
      (pss_cons (ps_for PassesOwn.never rfl (pi_range1 rfl mr (pa_cons (pv 1) pa_nil)) (pg_name (i := 4) scNames.nd rfl (.inl rfl))
        (pss_cons (ps_set (i := 5) scNames.nd rfl (.inl rfl) (pc0 sn hr (by decide) (pa_cons (pv 0) pa_nil)))
        (pss_cons (ps_set (i := 6) scNames.nd rfl (.inl rfl) pe_int)
        (pss_cons (ps_while PassesOwn.never (PW.pt (pw_and (pt_cmpR op_in_seq (pv 5) (pv 3) rfl) (pw_and1 (pt_cmpR op_lt (pv 6) pe_int (nomark _)))))
          (pss_cons (ps_set (i := 5) scNames.nd rfl (.inl rfl) (pe_op op_mulS (pe_item_str (pv 2) (pe_op op_mod (pe_op op_add (pe_op op_mul pe_int (pv 6)) (pv 4)) pe_int) (fun _ _ => rfl)) (pe_op op_add pe_int (pe_op op_fdiv (pv 6) pe_int))))
          (pss_one (ps_aug (i := 6) scNames.nd rfl (.inl rfl) pe_int ip_add))))
        (pss_one (ps_expr (pe_bm PySem.F.plainAttrs_list PySem.F.slot_list_append PySem.F.type_list_append mt_append (pv 3) (pa_cons (pv 5) pa_nil))))))))
      (pss_one (ps_ret (pv 3))))), ?_⟩
    refine ⟨Nat.zero_le _, fun l nl => ?_⟩
    have ls := sa.fresh nl
    have lc := sa.fresh2 nl
    refine ⟨_, rfl, many, rfl, by omega, by omega, for_range (n := many.toNat) (fun i σ H' => ∃ (y4 y5 y6 : Option V) (xs : List Str), σ = [some (.ref st), some (.int many), some (.str abc), some (.ref l), y4, y5, y6] ∧ But st H H' ∧ StA st c H' ∧ H' l = some (.lst (xs.map V.str)) ∧ xs.length = i ∧ (∀ x ∈ xs, NmOk x) ∧ xs.Nodup)
      ⟨none, none, none, [], rfl, Same.but (same_new nl), sa.same (same_new nl), upd_same, rfl, fun x hx => absurd hx List.not_mem_nil, List.nodup_nil⟩ ?_ ?_⟩
    · rintro i σ H1 hi ⟨y4, y5, y6, xs, rfl, bt, s1, hl, hn, hx, nd⟩
      refine ⟨_, rfl, st, c, rfl, s1, fun H2 x b2 s2 ok => ?_⟩
      have hl2 := b2 _ _ ls hl
      refine ⟨fun m σ H' => ∃ (nm : Str) (tn : Int), σ = [some (.ref st), some (.int many), some (.str abc), some (.ref l), some (.int (0 + (i : Nat))), some (.str nm), some (.int tn)] ∧ H' = H2 ∧ NmOk nm ∧ 0 ≤ tn ∧ m = (60 - tn).toNat ∧ (∀ j : Nat, (j : Int) + 1 < tn → j < 26 → ∃ y ∈ xs, y.cps.toList = cdN i j) ∧ ∀ j : Nat, (j : Int) + 1 = tn → j < 26 → nm.cps.toList = cdN i j,
        ⟨60, x, 0, rfl, rfl, ok, by decide, rfl, fun j h => absurd h (by omega), fun j h => absurd h (by omega)⟩, fun m σ H3 hW => ?_⟩
      obtain ⟨nm, tn, rfl, rfl, okn, t0, rfl, w1, w2⟩ := hW
      refine ⟨_, rfl, _, rfl, l, _, rfl, .inl (SqL.of hl2), rfl, flat_strs xs, _, rfl, ite2 (fun e => ?n1) (fun e => iteF ?ex1)⟩
      case' n1 => refine ⟨_, rfl, tn, 60, rfl, rfl, _, rfl, ite2 (fun e2 => ?_) (fun e2 => ?ex2)⟩
      case ex2 =>
        refine (cdN_full (i := i) (xs := xs) (by omega) fun j hj => w1 j ?_ hj).elim
        have : ¬ tn < 60 := fun z => e2 (decide_eq_true z)
        omega
      case ex1 =>
        have nin : nm ∉ xs := fun z => e (inV_strs.mpr z)
        refine ⟨.ref l, rfl, .inl ⟨rfl, _, SqL.of hl2⟩, _, rfl, l, _, _, rfl, rfl, hl2, ?_, ?_⟩
        · rw [List.length_map, hn]
          exact small1000 (by omega)
        · refine ⟨_, _, _, xs ++ [nm], rfl, ?_, s2.other ls lc, ?_, ?_, ?_, ?_⟩
          · intro b o nb e
            rw [upd_ne fun z => ?_]
            · exact (bt.trans b2) b o nb e
            · rw [z, nl] at e
              cases e
          · rw [upd_same, List.map_append]
            rfl
          · rw [List.length_append, hn]
            rfl
          · intro y hy
            rcases List.mem_append.mp hy with z | z
            · exact hx y z
            · rw [List.mem_singleton.mp z]
              exact okn
          · refine List.nodup_append.mpr ⟨nd, by simp, fun a ha b hb => ?_⟩
            obtain rfl : b = nm := by simpa using hb
            exact fun z => nin (z ▸ ha)
      · have e' : tn < 60 := of_decide_eq_true e2
        refine ⟨fun σ' H' => ∃ (nm : Str) (tn' : Int), σ' = [some (.ref st), some (.int many), some (.str abc), some (.ref l), some (.int (0 + (i : Nat))), some (.str nm), some (.int tn')] ∧ H' = H3 ∧ NmOk nm ∧ 0 ≤ tn' ∧ tn' = tn + 1 ∧ ∀ j : Nat, (j : Int) + 1 = tn' → j < 26 → nm.cps.toList = cdN i j, fun σ' H' hN => ?_, ?_⟩
        · obtain ⟨a1, a2, r1, r2, r3, r4, r5, r6⟩ := hN
          refine ⟨_, by omega, a1, a2, r1, r2, r3, r4, rfl, fun j h1 h2 => ?_, r6⟩
          by_cases c : (j : Int) + 1 < tn
          · exact w1 j c h2
          · exact ⟨nm, inV_strs.mp e, w2 j (by omega) h2⟩
        · have q1 : 0 ≤ (7 * tn + (0 + (i : Int))) % 26 := Int.emod_nonneg _ (by decide)
          have q2 : (7 * tn + (0 + (i : Int))) % 26 < 26 := Int.emod_lt_of_pos _ (by decide)
          refine ⟨_, rfl, _, rfl, 7, tn, rfl, rfl, .inl ⟨by decide, by decide⟩, _, rfl, 7 * tn, 0 + (i : Int), rfl, rfl, _, 26, rfl, rfl, (by show (0 : Int) < 26; decide), abc, (7 * tn + (0 + (i : Int))) % 26, _, rfl, rfl, q1, by omega, by rw [abc_len]; omega, abc_at _ (by omega), ?_⟩
          refine ⟨_, rfl, tn, 26, rfl, rfl, ⟨by decide, by decide⟩, 1, tn / 26, rfl, rfl, _, 1 + tn / 26, rfl, rfl, by omega, by omega, by show 1 ≤ 6; decide, fun z hz => ?_⟩
          refine ⟨_, rfl, _, _, rfl, rfl, z, tn + 1, rfl, rfl, ?_, by omega, rfl, fun j h1 h2 => ?_⟩
          rotate_left
          · have e3 : (1 + tn / 26).toNat = 1 := by omega
            have ej : tn = (j : Int) := by omega
            rw [hz, e3, ej]
            unfold cdN
            simp [List.replicate]
          unfold NmOk
          have ec : ((1 + tn / 26).toNat) = 1 ∨ ((1 + tn / 26).toNat) = 2 ∨ ((1 + tn / 26).toNat) = 3 := by omega
          rw [hz]
          rcases ec with e3 | e3 | e3 <;> rw [e3] <;> simp [List.replicate] <;> omega
    · rintro σ H1 ⟨y4, y5, y6, xs, rfl, bt, s1, hl, hn, hx, nd⟩
      exact ⟨_, rfl, q H1 l xs bt s1 nl hl (by omega) hx nd⟩
end
end SS

namespace SS
open PySem PySem.Spec PyProof.Rows L2
/-- a fraction in lowest terms, of few bits -/
def Frg (k : Nat) (H : Hp) (p : Addr) : Prop := ∃ n d : Int, H p = some (.tup [.int n, .int d]) ∧ 0 < d ∧ n.natAbs < 2 ^ k ∧ d.natAbs < 2 ^ k ∧ Int.gcd n d = 1
theorem Frg.same {k : Nat} {p : Addr} {H H' : Hp} (s : Frg k H p) (x : Same H H') : Frg k H' p := by
  obtain ⟨n, d, h1, h2⟩ := s
  exact ⟨n, d, x _ _ h1, h2⟩
theorem Frg.but {k : Nat} {st c p : Addr} {H H' : Hp} (s : Frg k H p) (x : But st H H') (y : StA st c H) : Frg k H' p := by
  obtain ⟨n, d, h1, h2⟩ := s
  exact ⟨n, d, x.tup y h1, h2⟩
theorem Frg.mono {k j : Nat} {p : Addr} {H : Hp} (s : Frg k H p) (h : k ≤ j) : Frg j H p := by
  obtain ⟨n, d, h1, h2, h3, h4, h5⟩ := s
  exact ⟨n, d, h1, h2, sm_mono h3 h, sm_mono h4 h, h5⟩
/-- a dict changes: the tuples stand -/
theorem Frg.dict {k : Nat} {p a : Addr} {H : Hp} {kvs : List (Key × V)} {o : HO} (s : Frg k H p) (h : H a = some (.dK kvs)) : Frg k (upd H a o) p := by
  obtain ⟨n, d, h1, h2⟩ := s
  refine ⟨n, d, ?_, h2⟩
  rw [upd_ne fun e => ?_]
  · exact h1
  · rw [e, h] at h1
    cases h1
theorem frg_new {H : Hp} {r : Addr} {t b : Int} {k : Nat} (h : b ≠ 0) (ht : t.natAbs < 2 ^ k) (hb : b.natAbs < 2 ^ k) : Frg k (upd H r (.tup [.int (fr1 t b), .int (fr2 t b)])) r :=
  ⟨_, _, upd_same, fr2_pos h, Nat.lt_of_le_of_lt (fr1_le h) ht, Nat.lt_of_le_of_lt (fr2_le h) hb, fr_gcd h⟩
def fval (H : Hp) : V → Int × Int
  | .ref r => match H r with
    | some (.tup [.int n, .int d]) => (n, d)
    | _ => (0, 1)
  | _ => (0, 1)
theorem fval_at {H : Hp} {r : Addr} {n d : Int} (h : H r = some (.tup [.int n, .int d])) : fval H (.ref r) = (n, d) := by
  simp only [fval, h]
theorem Frg.val {k : Nat} {H : Hp} {r : Addr} (h : Frg k H r) : H r = some (.tup [.int (fval H (.ref r)).1, .int (fval H (.ref r)).2]) ∧ 0 < (fval H (.ref r)).2 ∧ (fval H (.ref r)).1.natAbs < 2 ^ k ∧ (fval H (.ref r)).2.natAbs < 2 ^ k ∧ Int.gcd (fval H (.ref r)).1 (fval H (.ref r)).2 = 1 := by
  obtain ⟨n, d, h1, h2⟩ := h
  rw [fval_at h1]
  exact ⟨h1, h2⟩
theorem Frg.fval {k : Nat} {H H' : Hp} {r : Addr} (h : Frg k H r) (e : ∀ xs, H r = some (.tup xs) → H' r = some (.tup xs)) : SS.fval H' (.ref r) = SS.fval H (.ref r) := by
  obtain ⟨n, d, h1, _⟩ := h
  rw [fval_at h1, fval_at (e _ h1)]
/-! ### dicts from names to fractions -/
def DF (k m : Nat) (H : Hp) (a : Addr) (kvs : List (Key × V)) : Prop := H a = some (.dK kvs) ∧ (kvs.map (·.1)).Nodup ∧ kvs.length ≤ m ∧ ∀ p ∈ kvs, ∃ x r, p.1 = .inr x ∧ NmOk x ∧ p.2 = .ref r ∧ Frg k H r
def NZ (H : Hp) (kvs : List (Key × V)) : Prop := ∀ p ∈ kvs, (fval H p.2).1 ≠ 0
theorem mem_putK {kvs : List (Key × V)} {k : Key} {v : V} {p : Key × V} (h : p ∈ putK kvs k v) : p ∈ kvs ∨ p = (k, v) := by
  unfold putK at h
  split at h
  · obtain ⟨q, hq, e⟩ := List.mem_map.mp h
    split at e
    · rename_i e1
      rw [e1] at e
      exact .inr e.symm
    · rw [← e]
      exact .inl hq
  · rcases List.mem_append.mp h with z | z
    · exact .inl z
    · exact .inr (List.mem_singleton.mp z)
theorem nd_put {kvs : List (Key × V)} (k : Key) (v : V) (h : (kvs.map (·.1)).Nodup) : ((putK kvs k v).map (·.1)).Nodup := by
  cases e : valV kvs k with
  | none => exact nd_putK v h e
  | some u =>
    unfold putK
    rw [valV_any, e]
    show ((kvs.map fun kv => if kv.1 = k then (kv.1, v) else kv).map (·.1)).Nodup
    rw [List.map_map]
    have q : ((fun x : Key × V => x.1) ∘ fun kv : Key × V => if kv.1 = k then (kv.1, v) else kv) = fun kv => kv.1 := by
      funext kv
      show (if kv.1 = k then (kv.1, v) else kv).1 = kv.1
      split <;> rfl
    rw [q]
    exact h
theorem DF.same {k m : Nat} {H H' : Hp} {a : Addr} {kvs : List (Key × V)} (h : DF k m H a kvs) (s : Same H H') : DF k m H' a kvs := by
  obtain ⟨h1, h2, h3, h4⟩ := h
  refine ⟨s _ _ h1, h2, h3, fun p hp => ?_⟩
  obtain ⟨x, r, e1, e2, e3, e4⟩ := h4 p hp
  exact ⟨x, r, e1, e2, e3, e4.same s⟩
theorem DF.ne {k m : Nat} {H : Hp} {st c a : Addr} {kvs : List (Key × V)} (h : DF k m H a kvs) (y : StA st c H) : a ≠ st := fun e => by
  obtain ⟨i, n, f, xs, h1, _⟩ := y
  have z := h.1
  rw [e, h1] at z
  cases z
theorem DF.but {k m : Nat} {H H' : Hp} {st c a : Addr} {kvs : List (Key × V)} (h : DF k m H a kvs) (s : But st H H') (y : StA st c H) : DF k m H' a kvs := by
  have na := h.ne y
  obtain ⟨h1, h2, h3, h4⟩ := h
  refine ⟨s _ _ na h1, h2, h3, fun p hp => ?_⟩
  obtain ⟨x, r, e1, e2, e3, e4⟩ := h4 p hp
  exact ⟨x, r, e1, e2, e3, e4.but s y⟩
theorem NZ.but {k m : Nat} {H H' : Hp} {st c a : Addr} {kvs : List (Key × V)} (z : NZ H kvs) (h : DF k m H a kvs) (s : But st H H') (y : StA st c H) : NZ H' kvs := fun p hp => by
  obtain ⟨x, r, e1, e2, e3, e4⟩ := h.2.2.2 p hp
  rw [e3, e4.fval fun xs e => s.tup y e, ← e3]
  exact z p hp
theorem NZ.same {k m : Nat} {H H' : Hp} {a : Addr} {kvs : List (Key × V)} (z : NZ H kvs) (h : DF k m H a kvs) (s : Same H H') : NZ H' kvs := fun p hp => by
  obtain ⟨x, r, e1, e2, e3, e4⟩ := h.2.2.2 p hp
  rw [e3, e4.fval fun xs e => s _ _ e, ← e3]
  exact z p hp
theorem DF.put {k m : Nat} {H : Hp} {a : Addr} {kvs : List (Key × V)} {x : Str} {r : Addr} (h : DF k m H a kvs) (hx : NmOk x) (hr : Frg k H r) (hl : kvs.length < m) : DF k m (upd H a (.dK (putK kvs (.inr x) (.ref r)))) a (putK kvs (.inr x) (.ref r)) := by
  obtain ⟨h1, h2, h3, h4⟩ := h
  refine ⟨upd_same, nd_put _ _ h2, Nat.le_trans (length_putK ..) hl, fun p hp => ?_⟩
  rcases mem_putK hp with z | z
  · obtain ⟨y, r', e1, e2, e3, e4⟩ := h4 p z
    exact ⟨y, r', e1, e2, e3, e4.dict h1⟩
  · subst z
    exact ⟨x, r, rfl, hx, rfl, hr.dict h1⟩
theorem NZ.put {k m : Nat} {H : Hp} {a : Addr} {kvs : List (Key × V)} {x : Str} {r : Addr} (z : NZ H kvs) (h : DF k m H a kvs) (hr : Frg k H r) (hz : (fval H (.ref r)).1 ≠ 0) : NZ (upd H a (.dK (putK kvs (.inr x) (.ref r)))) (putK kvs (.inr x) (.ref r)) := fun p hp => by
  have keep : ∀ r' xs, H r' = some (.tup xs) → (upd H a (.dK (putK kvs (.inr x) (.ref r)))) r' = some (.tup xs) := fun r' xs e => by
    rw [upd_ne fun c => ?_]
    · exact e
    · rw [c, h.1] at e
      cases e
  rcases mem_putK hp with y | y
  · obtain ⟨_, r', e1, e2, e3, e4⟩ := h.2.2.2 p y
    rw [e3, e4.fval (keep r'), ← e3]
    exact z p y
  · subst y
    rw [hr.fval (keep r)]
    exact hz
theorem strs_ne {st c u : Addr} {H : Hp} {xs : List Str} (y : StA st c H) (h : H u = some (.lst (xs.map V.str))) : u ≠ st := fun e => by
  obtain ⟨i, n, f, ys, h1, _⟩ := y
  rw [e, h1] at h
  have z := HO.lst.inj (Option.some.inj h)
  cases xs with
  | nil => cases z
  | cons a r => cases (List.cons.inj z).1
section
variable {P : Program} {w : World} {K : PySem.W.Frag} {mg : Str → Option Value} {base : Heap}
def spNumber : Sp := fun vs H Q _ => ∃ st c : Addr, vs = [.ref st] ∧ StA st c H ∧ ∀ H' p, But st H H' → StA st c H' → Frg 20 H' p → Q (.ref p) H'
theorem scNumber : FnScope ["_law_state", "_law_way", "_law_small", "_law_great", "_law_under"] ["_law_state"] (defScope sNumber) := ⟨rfl, rfl, rfl, by decide +kernel, rfl, by decide +kernel, by decide +kernel⟩
theorem ok_number {f : Addr} {fd : FuncData} (F : Fun K "_law_number" "_law_number" sNumber f fd) (tk : Cl P w K mg base CX0 3 "_law_take" spTake []) (fc : Cl P w K mg base CX0 2 "_law_frac" spFrac []) : FnOk P w K mg base CX0 4 f fd ["_law_state"] spNumber := by
  refine F.ok scNumber (fun vs H Q E h => ?_) (fun cdv A outer s H vs Q E hr h => ?_)
  · obtain ⟨_, _, rfl, _⟩ := h
    rfl
  · obtain ⟨st, c, rfl, sa, q⟩ := h
    refine ⟨_, pss_cons (ps_set (i := 1) scNumber.nd rfl (.inl rfl) (pc0 tk hr (by decide) (pa_cons (pv 0) (pa_cons pe_int pa_nil))))
      (pss_cons (ps_set (i := 2) scNumber.nd rfl (.inl rfl) (pe_op op_sub (pc0 tk hr (by decide) (pa_cons (pv 0) (pa_cons pe_int pa_nil))) pe_int))
      (pss_cons (ps_set (i := 3) scNumber.nd rfl (.inl rfl) (pe_op op_sub (pc0 tk hr (by decide) (pa_cons (pv 0) (pa_cons pe_int pa_nil))) pe_int))
      (pss_cons (ps_set (i := 4) scNumber.nd rfl (.inl rfl) (pe_op op_add pe_int (pc0 tk hr (by decide) (pa_cons (pv 0) (pa_cons pe_int pa_nil)))))
      (pss_cons (ps_if (pt_cmpR op_eq (pv 1) pe_int (nomark _)) (pss_one (ps_ret (pe_tup (pa_cons pe_int (pa_cons pe_int pa_nil))))) pss_nil)
      (pss_cons (ps_if (pt_cmpR op_eq (pv 1) pe_int (nomark _)) (pss_one (ps_ret (pc0 fc hr (by decide) (pa_cons (pv 3) (pa_cons (pv 4) pa_nil))))) pss_nil)
      (pss_cons (ps_if (pt_cmpR op_eq (pv 1) pe_int (nomark _)) (pss_one (ps_ret (pc0 fc hr (by decide) (pa_cons (pv 2) (pa_cons (pe_op op_add pe_int (pe_op op_mod (pv 4) pe_int)) pa_nil))))) pss_nil)
      (pss_one (ps_ret (pe_tup (pa_cons (pv 2) (pa_cons pe_int pa_nil))))))))))), ?_⟩
    refine ⟨_, rfl, st, c, 6, rfl, by decide, lt8 (by decide), sa, fun H1 d1 b1 s1 l1 u1 => ?_⟩
    refine ⟨_, rfl, st, c, 13, rfl, by decide, lt8 (by decide), s1, fun H2 d2 b2 s2 l2 u2 => ⟨_, _, rfl, rfl, ?_⟩⟩
    refine ⟨_, rfl, st, c, 1999, rfl, by decide, lt8 (by decide), s2, fun H3 d3 b3 s3 l3 u3 => ⟨_, _, rfl, rfl, ?_⟩⟩
    refine ⟨_, rfl, st, c, 99, rfl, by decide, lt8 (by decide), s3, fun H4 d4 b4 s4 l4 u4 => ⟨_, _, rfl, rfl, ?_⟩⟩
    have bb := ((b1.trans b2).trans b3).trans b4
    refine ⟨_, rfl, rfl, _, rfl, ite2 (fun _ => ?_) (fun _ => ?_)⟩
    · refine ⟨small2, fun p np => q _ p (bb.trans (Same.but (same_new np))) (s4.same (same_new np)) ⟨0, 1, upd_same, by decide, by decide, by decide, by decide⟩⟩
    · refine ⟨_, rfl, rfl, _, rfl, ite2 (fun _ => ?_) (fun _ => ?_)⟩
      · have n1 : 1 + d4 ≠ 0 := by omega
        have n2 : (1 + d4).natAbs < 2 ^ 20 := by omega
        refine ⟨_, rfl, _, rfl, d3 - 999, 1 + d4, rfl, n1, sm_mono n2 (by decide), fun p np => q _ p (bb.trans (Same.but (same_new np))) (s4.same (same_new np)) (frg_new n1 (by omega) n2)⟩
      · refine ⟨_, rfl, rfl, _, rfl, ite2 (fun _ => ?_) (fun _ => ?_)⟩
        · have n1 : 1 + (1 + d4) % 4 ≠ 0 := by omega
          have n2 : (1 + (1 + d4) % 4).natAbs < 2 ^ 20 := by omega
          refine ⟨_, rfl, _, rfl, 1 + d4, 4, rfl, rfl, (by show (0 : Int) < 4; decide), 1, (1 + d4) % 4, rfl, rfl, d2 - 6, 1 + (1 + d4) % 4, rfl, n1, sm_mono n2 (by decide), fun p np => q _ p (bb.trans (Same.but (same_new np))) (s4.same (same_new np)) (frg_new n1 (by omega) n2)⟩
        · refine ⟨_, rfl, small2, fun p np => q _ p (bb.trans (Same.but (same_new np))) (s4.same (same_new np)) ⟨d2 - 6, 1, upd_same, by decide, by omega, by decide, Int.gcd_one_right _⟩⟩
end
end SS

namespace SS
open PySem PySem.Spec PyProof.Rows L2
section
variable {P : Program} {w : World} {K : PySem.W.Frag} {mg : Str → Option Value} {base : Heap}
/-! ### a drawn sum -/
/-- the keys are among these names -/
def KIn (xs : List Str) (kvs : List (Key × V)) : Prop := ∀ p ∈ kvs, ∃ x ∈ xs, p.1 = .inr x
theorem KIn.put {xs : List Str} {kvs : List (Key × V)} {x : Str} {v : V} (h : KIn xs kvs) (hx : x ∈ xs) : KIn xs (putK kvs (.inr x) v) := fun p hp => by
  rcases mem_putK hp with z | z
  · exact h p z
  · exact ⟨x, hx, by rw [z]⟩
theorem KIn.nil {xs : List Str} : KIn xs [] := fun p hp => absurd hp List.not_mem_nil
def spSsum : Sp := fun vs H Q _ => ∃ (st c u : Addr) (xs : List Str), vs = [.ref st, .ref u] ∧ StA st c H ∧ H u = some (.lst (xs.map V.str)) ∧ xs.length ≤ 9 ∧ (∀ x ∈ xs, NmOk x) ∧
  ∀ H' a kvs, But st H H' → StA st c H' → H a = none → DF 20 (xs.length + 1) H' a kvs → NZ H' kvs → KIn xs kvs → Q (.ref a) H'
theorem scSsum : FnScope ["_law_state", "_law_unknowns", "_law_way", "_law_found", "_law_key", "_law_number_here"] ["_law_state", "_law_unknowns"] (defScope sSsum) := ⟨rfl, rfl, rfl, by decide +kernel, rfl, by decide +kernel, by decide +kernel⟩
theorem ok_ssum {f : Addr} {fd : FuncData} (F : Fun K "_law_some_sum" "_law_some_sum" sSsum f fd) (ml : mg "len" = none) (tk : Cl P w K mg base CX0 3 "_law_take" spTake []) (nm : Cl P w K mg base CX0 4 "_law_number" spNumber []) : FnOk P w K mg base CX0 5 f fd ["_law_state", "_law_unknowns"] spSsum := by
  refine F.ok scSsum (fun vs H Q E h => ?_) (fun cdv A outer s H vs Q E hr h => ?_)
  · obtain ⟨_, _, _, _, rfl, _⟩ := h
    rfl
  · obtain ⟨st, c, u, xs, rfl, sa, hu0, hl, hx, q⟩ := h
    have hu := hu_of hr
    refine ⟨_, pss_cons (ps_set (i := 2) scSsum.nd rfl (.inl rfl) (pc0 tk hr (by decide) (pa_cons (pv 0) (pa_cons pe_int pa_nil))))
      (pss_cons (ps_set (i := 3) scSsum.nd rfl (.inl rfl) pe_dnewK)
      (pss_cons (ps_for PassesOwn.never rfl (pi_list (pv 1)) (pg_name (i := 4) scSsum.nd rfl (.inl rfl))
        (pss_cons (ps_set (i := 5) scSsum.nd rfl (.inl rfl) (pc0 nm hr (by decide) (pa_cons (pv 0) pa_nil)))
        (pss_one (ps_if (PW.pt (pw_and (pt_cmpR op_ne (pe_ix ix_tup (pv 5) pe_int (fun _ _ => rfl)) pe_int (nomark _))
          (pw_and1 (PW.pt (pw_or (pt_cmpR op_gt (pv 2) pe_int (nomark _)) (pw_or1 (pt_cmpR op_eq (pc0 tk hr (by decide) (pa_cons (pv 0) (pa_cons pe_int pa_nil))) pe_int (nomark _))))))))
          (pss_one (ps_dput hu (pv 3) (pv 4) (pv 5) rfl)) pss_nil))))
      (pss_cons (ps_if (pt_cmpR op_eq (pv 2) pe_int (nomark _)) (pss_one (ps_ret pe_dnewK)) pss_nil)
      (pss_cons (ps_if (PW.pt (pw_and (pt_cmpR (op_eq0 hr.units) (pv 3) pe_dnewK (nomark _)) (pw_and (pt_cmpR op_gt (pv 2) pe_int (nomark _))
          (pw_and1 (pt_cmpR op_gt (pe_callB call_len_seq (by rfl) ml PySem.boot_len (pa_cons (pv 1) pa_nil)) pe_int (nomark _))))))
        (pss_one (ps_dput hu (pv 3) (pe_ix ix_list (pv 1) (pc0 tk hr (by decide) (pa_cons (pv 0) (pa_cons (pe_callB call_len_seq (by rfl) ml PySem.boot_len (pa_cons (pv 1) pa_nil)) pa_nil))) (fun _ _ => rfl))
          (pe_tup (pa_cons (pe_op op_sub pe_int (pe_op op_mul pe_int (pc0 tk hr (by decide) (pa_cons (pv 0) (pa_cons pe_int pa_nil))))) (pa_cons pe_int pa_nil))) rfl)) pss_nil)
      (pss_one (ps_ret (pv 3))))))), ?_⟩
    have nu := strs_ne sa hu0
    refine ⟨_, rfl, st, c, 8, rfl, by decide, lt8 (by decide), sa, fun H1 wy b1 s1 l1 u1 => ?_⟩
    intro a na1
    have as1 := s1.fresh na1
    have ac1 := s1.fresh2 na1
    have na : H a = none := by
      cases e : H a with
      | none => rfl
      | some o =>
        have z := b1 a o (fun z => as1 z) e
        rw [na1] at z
        cases z
    have sn := same_new (o := .dK []) na1
    have hu1 : (upd H1 a (.dK [])) u = some (.lst (xs.map V.str)) := sn _ _ (b1 _ _ nu hu0)
    refine ⟨_, rfl, u, rfl, ⟨_, SqL.of hu1⟩, for_list (K := K) (a := u) (xs := xs.map V.str) (fun i σ H' => ∃ (y4 y5 : Option V) (kvs : List (Key × V)), σ = [some (.ref st), some (.ref u), some (.int wy), some (.ref a), y4, y5] ∧ But st H H' ∧ StA st c H' ∧ DF 20 i H' a kvs ∧ NZ H' kvs ∧ KIn xs kvs)
      ⟨none, none, [], rfl, b1.trans (Same.but sn), s1.same sn, ⟨upd_same, List.nodup_nil, Nat.le_refl _, fun p hp => absurd hp List.not_mem_nil⟩, fun p hp => absurd hp List.not_mem_nil, KIn.nil⟩ ?_ ?_ ?_⟩
    · rintro i σ H' _ ⟨_, _, _, _, bt, _⟩
      exact SqL.of (bt _ _ nu hu0)
    · rintro i y σ H2 hy ⟨y4, y5, kvs, rfl, bt, s2, df, nz, kin⟩
      obtain ⟨x, hxi, rfl⟩ : ∃ x, x ∈ xs ∧ y = .str x := by
        rw [List.getElem?_map] at hy
        cases e : xs[i]? with
        | none =>
          rw [e] at hy
          cases hy
        | some x =>
          rw [e] at hy
          exact ⟨x, List.mem_of_getElem? e, (Option.some.inj hy).symm⟩
      have hi : i < xs.length := by
        have z := (List.getElem?_eq_some_iff.mp hy).1
        rw [List.length_map] at z
        exact z
      have dm : ∀ {H'}, DF 20 i H' a kvs → DF 20 (i + 1) H' a kvs := fun h => ⟨h.1, h.2.1, Nat.le_succ_of_le h.2.2.1, h.2.2.2⟩
      refine ⟨_, rfl, st, c, rfl, s2, fun H3 p b3 s3 fp => ?_⟩
      have df3 := df.but b3 s2
      have nz3 := nz.but df b3 s2
      obtain ⟨v1, v2, v3, v4, v5⟩ := fp.val
      refine ⟨_, rfl, p, _, 0, _, rfl, rfl, SqT.of v1, atI_nat (j := 0) rfl, rfl, _, rfl, ite2 (fun e => ?_) (fun e => iteF ?_)⟩
      · have n0 : (fval H3 (.ref p)).1 ≠ 0 := fun z => by
          rw [z] at e
          exact absurd e (by decide)
        have fin : ∀ H4, But st H3 H4 → StA st c H4 → ∃ (y4 y5 : Option V) (kvs' : List (Key × V)), [some (V.ref st), some (.ref u), some (.int wy), some (.ref a), some (.str x), some (.ref p)] = [some (.ref st), some (.ref u), some (.int wy), some (.ref a), y4, y5] ∧ But st H (upd H4 a (.dK (putK kvs (.inr x) (.ref p)))) ∧ StA st c (upd H4 a (.dK (putK kvs (.inr x) (.ref p)))) ∧ DF 20 (i + 1) (upd H4 a (.dK (putK kvs (.inr x) (.ref p)))) a kvs' ∧ NZ (upd H4 a (.dK (putK kvs (.inr x) (.ref p)))) kvs' ∧ KIn xs kvs' := fun H4 b4 s4 => by
          have df4 := df3.but b4 s3
          refine ⟨_, _, _, rfl, ?_, s4.other as1 ac1, (dm df4).put (hx x hxi) (fp.but b4 s3) (Nat.lt_succ_of_le df.2.2.1), (nz3.but df3 b4 s3).put df4 (fp.but b4 s3) ?_, kin.put hxi⟩
          · intro b o nb e4
            rw [upd_ne fun z => ?_]
            · exact ((bt.trans b3).trans b4) b o nb e4
            · rw [z, na] at e4
              cases e4
          · rw [fp.fval fun ys e5 => b4.tup s3 e5]
            exact n0
        refine ⟨_, rfl, wy, 4, rfl, rfl, _, rfl, ite2 (fun e2 => iteT ?_) (fun e2 => ?_)⟩
        · refine ⟨_, rfl, _, rfl, _, rfl, a, _, rfl, DPut.k (k := .inr x) df3.1 (small1000 (Nat.le_trans df3.2.2.1 (by omega))), ?_⟩
          exact fin H3 (But.refl _ _) s3
        · refine ⟨_, rfl, st, c, 2, rfl, by decide, lt8 (by decide), s3, fun H4 d4 b4 s4 l4 u4 => ⟨rfl, _, rfl, ite2 (fun e3 => ?_) (fun e3 => ?_)⟩⟩
          · have df4 := df3.but b4 s3
            refine ⟨_, rfl, _, rfl, _, rfl, a, _, rfl, DPut.k (k := .inr x) df4.1 (small1000 (Nat.le_trans df4.2.2.1 (by omega))), ?_⟩
            exact fin H4 b4 s4
          · exact ⟨_, _, kvs, rfl, (bt.trans b3).trans b4, s4, dm (df3.but b4 s3), nz3.but df3 b4 s3, kin⟩
      · exact ⟨_, _, kvs, rfl, bt.trans b3, s3, dm df3, nz3, kin⟩
    · rintro σ H2 ⟨y4, y5, kvs, rfl, bt, s2, df, nz, kin⟩
      rw [List.length_map] at df
      have dm : DF 20 (xs.length + 1) H2 a kvs := ⟨df.1, df.2.1, Nat.le_succ_of_le df.2.2.1, df.2.2.2⟩
      have hu2 := bt _ _ nu hu0
      refine ⟨_, rfl, rfl, _, rfl, ite2 (fun e => ?_) (fun e => ?_)⟩
      · intro a2 na2
        have s3 := same_new (o := .dK []) na2
        have a2n : H a2 = none := by
          cases e : H a2 with
          | none => rfl
          | some o =>
            have z := bt a2 o (s2.fresh na2) e
            rw [na2] at z
            cases z
        exact q _ a2 [] (bt.trans (Same.but s3)) (s2.same s3) a2n ⟨upd_same, List.nodup_nil, Nat.zero_le _, fun p hp => absurd hp List.not_mem_nil⟩ (fun p hp => absurd hp List.not_mem_nil) KIn.nil
      · refine ⟨_, rfl, fun a3 na3 => ?_⟩
        have s3 := same_new (o := .dK []) na3
        have df3 := dm.same s3
        have nz3 := nz.same df s3
        have b3 : But st H (upd H2 a3 (.dK [])) := bt.trans (Same.but s3)
        have sa3 := s2.same s3
        have hu3 := s3 _ _ hu2
        have ha3 : (upd H2 a3 (.dK [])) a3 = some (.dK []) := upd_same
        generalize upd H2 a3 (.dK []) = H3 at s3 df3 nz3 b3 sa3 hu3 ha3 ⊢
        have el : ((xs.map V.str).length : Int) = (xs.length : Int) := by rw [List.length_map]
        refine ⟨a, a3, kvs, rfl, rfl, df3.1, ha3, _, rfl, ite2 (fun e2 => ?n1) (fun e2 => iteF ?r1)⟩
        case' n1 => refine ⟨_, rfl, wy, 1, rfl, rfl, _, rfl, ite2 (fun e3 => ?n2) (fun e3 => iteF ?r2)⟩
        case' n2 => refine ⟨_, rfl, u, _, rfl, .inl (SqL.of hu3), (xs.length : Int), 0, congrArg V.int el, rfl, _, rfl, ite2 (fun e4 => ?_) (fun e4 => ?r3)⟩
        case r1 | r2 | r3 => exact ⟨_, rfl, q _ a kvs b3 sa3 na df3 nz3 kin⟩
        have lp : 0 < (xs.length : Int) := of_decide_eq_true e4
        refine ⟨_, rfl, st, c, 2, rfl, by decide, lt8 (by decide), sa3, fun H4 d4 b4 s4 l4 u4 => ⟨2, d4, rfl, rfl, .inl ⟨by decide, by decide⟩, 1, 2 * d4, rfl, rfl, small2, fun T nT => ?_⟩⟩
        have sT := same_new (o := .tup [.int (1 - 2 * d4), .int 1]) nT
        have hT : (upd H4 T (.tup [.int (1 - 2 * d4), .int 1])) T = some (.tup [.int (1 - 2 * d4), .int 1]) := upd_same
        have fT : Frg 20 (upd H4 T (.tup [.int (1 - 2 * d4), .int 1])) T := ⟨_, _, hT, by decide, by omega, by decide, Int.gcd_one_right _⟩
        have df5 := (df3.but b4 sa3).same sT
        have nz5 := (nz3.but df3 b4 sa3).same (df3.but b4 sa3) sT
        have b5 := (b3.trans b4).trans (Same.but (st := st) sT)
        have s5 := s4.same sT
        have hu5 := sT _ _ (b4 _ _ nu hu3)
        have vT := fval_at hT
        generalize upd H4 T (.tup [.int (1 - 2 * d4), .int 1]) = H5 at fT df5 nz5 b5 s5 hu5 vT ⊢
        refine ⟨_, rfl, _, rfl, _, rfl, _, rfl, u, _, rfl, .inl (SqL.of hu5), st, c, (xs.length : Int), congrArg (fun z => [V.ref st, V.int z]) el, lp, lt8 (by omega), s5, fun H6 d6 b6 s6 l6 u6 => ?_⟩
        obtain ⟨x, hxi, hat⟩ := at_str (xs := xs) l6 u6
        have df6 := df5.but b6 s5
        have f6 := fT.but b6 s5
        have k0 : kvs.length < xs.length + 1 := by
          have z := df.2.2.1
          omega
        refine ⟨u, _, d6, _, rfl, rfl, SqL.of (b6 _ _ nu hu5), hat, a, _, rfl, DPut.k (k := .inr x) df6.1 (small1000 (by omega)), _, rfl, ?_⟩
        refine q _ a _ ?_ (s6.other as1 ac1) na (df6.put (hx x hxi) f6 k0) ((nz5.but df5 b6 s5).put df6 f6 ?_) (kin.put hxi)
        · intro b o nb e9
          rw [upd_ne fun z => ?_]
          · exact (b5.trans b6) b o nb e9
          · rw [z, na] at e9
            cases e9
        · rw [fT.fval fun ys e5 => b6.tup s5 e5, vT]
          show 1 - 2 * d4 ≠ 0
          omega
end
end SS

namespace SS
open PySem PySem.Spec PyProof.Rows L2
def fplus (a b : Int × Int) : Int × Int := (fr1 (a.1 * b.2 + b.1 * a.2) (a.2 * b.2), fr2 (a.1 * b.2 + b.1 * a.2) (a.2 * b.2))
def ftimes (a b : Int × Int) : Int × Int := (fr1 (a.1 * b.1) (a.2 * b.2), fr2 (a.1 * b.1) (a.2 * b.2))
def Okb (k : Nat) (a : Int × Int) : Prop := 0 < a.2 ∧ a.1.natAbs < 2 ^ k ∧ a.2.natAbs < 2 ^ k ∧ Int.gcd a.1 a.2 = 1
theorem Okb.mono {k j : Nat} {a : Int × Int} (h : Okb k a) (l : k ≤ j) : Okb j a := ⟨h.1, sm_mono h.2.1 l, sm_mono h.2.2.1 l, h.2.2.2⟩
theorem okb_times {a b : Int × Int} {k j : Nat} (ha : Okb k a) (hb : Okb j b) : Okb (k + j) (ftimes a b) := by
  have nz : a.2 * b.2 ≠ 0 := pos_ne ha.1 hb.1
  exact ⟨fr2_pos nz, Nat.lt_of_le_of_lt (fr1_le nz) (sm_mul ha.2.1 hb.2.1), Nat.lt_of_le_of_lt (fr2_le nz) (sm_mul ha.2.2.1 hb.2.2.1), fr_gcd nz⟩
theorem okb_plus {a b : Int × Int} {k j : Nat} (ha : Okb k a) (hb : Okb j b) : Okb (k + j + 1) (fplus a b) := by
  have nz : a.2 * b.2 ≠ 0 := pos_ne ha.1 hb.1
  have t1 : (a.1 * b.2).natAbs < 2 ^ (k + j) := sm_mul ha.2.1 hb.2.2.1
  have t2 : (b.1 * a.2).natAbs < 2 ^ (k + j) := by
    rw [Int.mul_comm]
    exact sm_mul ha.2.2.1 hb.2.1
  exact ⟨fr2_pos nz, Nat.lt_of_le_of_lt (fr1_le nz) (sm_add t1 t2), Nat.lt_of_le_of_lt (fr2_le nz) (sm_mono (sm_mul ha.2.2.1 hb.2.2.1) (Nat.le_succ _)), fr_gcd nz⟩
theorem okb_zero (k : Nat) : Okb (k + 1) (0, 1) := ⟨by decide, by show 0 < 2 ^ (k + 1); exact Nat.pow_pos (by decide), by show 1 < 2 ^ (k + 1); exact Nat.one_lt_pow (by omega) (by decide), by decide⟩
theorem Frg.okb {k : Nat} {H : Hp} {r : Addr} (h : Frg k H r) : Okb k (SS.fval H (.ref r)) := h.val.2
theorem mem_valV {ls : List (Key × V)} {k : Key} {v : V} (h : valV ls k = some v) : ∃ p ∈ ls, p.1 = k ∧ p.2 = v := by
  unfold valV at h
  cases e : ls.find? fun kv => decide (kv.1 = k) with
  | none =>
    rw [e] at h
    cases h
  | some p =>
    rw [e] at h
    exact ⟨p, List.mem_of_find?_eq_some e, of_decide_eq_true (List.find?_some (p := fun kv : Key × V => decide (kv.1 = k)) e), Option.some.inj h⟩
theorem FrT.unlock {K : PySem.W.Frag} {H : Hp} {a p : Addr} {n d : Int} {od : Obj} {kvs : List (Key × V)} {o : HO} (h : FrT K H p n d) (ha : H a = some (.frz od (.dK kvs))) : FrT K (upd H a o) p n d := by
  obtain ⟨h1, h2⟩ := h
  rcases h1 with (h1 | ⟨o1, h1⟩) | ⟨o1, its, m, k1, k2, k3⟩
  · have e : (upd H a o) p = some (.tup [.int n, .int d]) := by
      rw [upd_ne fun z => ?_]
      · exact h1
      · rw [z, ha] at h1
        cases h1
    exact FrT.of e
  · have e : (upd H a o) p = some (.frz o1 (.tup [.int n, .int d])) := by
      rw [upd_ne fun z => ?_]
      · exact h1
      · rw [z, ha] at h1
        cases h1
    exact ⟨.inl (.inr ⟨o1, e⟩), .fTuple e⟩
  · exact ⟨.inr ⟨o1, its, m, k1, k2, k3⟩, .kTuple k1 k2⟩
end SS

namespace SS
open PySem PySem.Spec PyProof.Rows L2
section
variable {P : Program} {w : World} {K : PySem.W.Frag} {mg : Str → Option Value} {base : Heap}
def spTurned : Sp := fun vs H Q _ => ∃ (p : Addr) (n d : Int), vs = [.ref p] ∧ H p = some (.tup [.int n, .int d]) ∧ ∀ r, H r = none → Q (.ref r) (upd H r (.tup [.int (0 - n), .int d]))
end
end SS

namespace SS
open PySem PySem.Spec PyProof.Rows L2
/-! ### fractions added up -/
theorem okb_top0 {B : Nat} {x : Int × Int} (h : Okb B x) (z : x.1 = 0) : x = (0, 1) := by
  obtain ⟨h1, _, _, h4⟩ := h
  rw [z] at h4
  have e : x.2.natAbs = 1 := by
    have q : Int.gcd 0 x.2 = x.2.natAbs := Int.gcd_zero_left ..
    rw [← q]
    exact h4
  have e2 : x.2 = 1 := by omega
  exact Prod.ext z e2
/-- a fraction in lowest terms is its own -/
theorem fr_self {n d : Int} (hd : 0 < d) (g : Int.gcd n d = 1) : fr1 n d = n ∧ fr2 n d = d := by
  have nz : d ≠ 0 := by omega
  have s1 : sgd n d = 1 := by
    unfold sgd
    rw [if_neg (by omega), g]
    rfl
  have a := fr1_eq (t := n) nz
  have b := fr2_eq (t := n) nz
  rw [s1, Int.mul_one] at a b
  exact ⟨a, b⟩
theorem fplus_zero {B : Nat} {x : Int × Int} (h : Okb B x) : fplus x (0, 1) = x := by
  obtain ⟨h1, _, _, h4⟩ := h
  have e := fr_self h1 h4
  show (fr1 (x.1 * 1 + 0 * x.2) (x.2 * 1), fr2 (x.1 * 1 + 0 * x.2) (x.2 * 1)) = x
  rw [Int.mul_one, Int.mul_one, Int.zero_mul, Int.add_zero, e.1, e.2]
theorem zero_fplus {B : Nat} {x : Int × Int} (h : Okb B x) : fplus (0, 1) x = x := by
  obtain ⟨h1, _, _, h4⟩ := h
  have e := fr_self h1 h4
  show (fr1 (0 * x.2 + x.1 * 1) (1 * x.2), fr2 (0 * x.2 + x.1 * 1) (1 * x.2)) = x
  rw [Int.mul_one, Int.one_mul, Int.zero_mul, Int.zero_add, e.1, e.2]
theorem ftimes_one {B : Nat} {x : Int × Int} (h : Okb B x) : ftimes x (1, 1) = x := by
  obtain ⟨h1, _, _, h4⟩ := h
  have e := fr_self h1 h4
  show (fr1 (x.1 * 1) (x.2 * 1), fr2 (x.1 * 1) (x.2 * 1)) = x
  rw [Int.mul_one, Int.mul_one, e.1, e.2]
theorem zero_ftimes {B : Nat} {x : Int × Int} (h : Okb B x) : ftimes (0, 1) x = (0, 1) := by
  have nz : (1 : Int) * x.2 ≠ 0 := by
    have := h.1
    omega
  have ok : Okb (B + 1 + B) (ftimes (0, 1) x) := okb_times (k := B + 1) (okb_zero B) h
  refine okb_top0 ok ?_
  show fr1 (0 * x.1) (1 * x.2) = 0
  have e := fr1_eq (t := 0 * x.1) nz
  rw [Int.zero_mul] at e
  rcases Int.mul_eq_zero.mp e with z | z
  · rw [Int.zero_mul]
    exact z
  · exact absurd z (sgd_ne nz)
/-! ### a dict that holds just what f says -/
/-- all that stands in the dict at a is f's; where it lacks, f is nought; z: no nought stands in it -/
def DM (z : Prop) (m : Nat) (H : Hp) (a : Addr) (kvs : List (Key × V)) (f : Key → Int × Int) : Prop :=
  H a = some (.dK kvs) ∧ (kvs.map (·.1)).Nodup ∧ kvs.length ≤ m ∧
  (∀ p ∈ kvs, (∃ x, p.1 = .inr x ∧ NmOk x) ∧ (∃ r, p.2 = .ref r ∧ H r = some (.tup [.int (f p.1).1, .int (f p.1).2])) ∧ (z → (f p.1).1 ≠ 0)) ∧ ∀ k, valV kvs k = none → f k = (0, 1)
theorem DM.same {z : Prop} {m : Nat} {H H' : Hp} {a : Addr} {kvs : List (Key × V)} {f : Key → Int × Int} (h : DM z m H a kvs f) (s : Same H H') : DM z m H' a kvs f := by
  obtain ⟨h1, h2, h3, h4, h5⟩ := h
  refine ⟨s _ _ h1, h2, h3, fun p hp => ?_, h5⟩
  obtain ⟨e1, ⟨r, e2, e3⟩, e4⟩ := h4 p hp
  exact ⟨e1, ⟨r, e2, s _ _ e3⟩, e4⟩
theorem DM.lk {z : Prop} {m : Nat} {H H' : Hp} {a b : Addr} {kvs ks : List (Key × V)} {f : Key → Int × Int} (h : DM z m H a kvs f) (hb : H b = some (.dK ks)) (n : a ≠ b) (s : ∀ x o, x ≠ b → H x = some o → H' x = some o) : DM z m H' a kvs f := by
  obtain ⟨h1, h2, h3, h4, h5⟩ := h
  refine ⟨s _ _ n h1, h2, h3, fun p hp => ?_, h5⟩
  obtain ⟨e1, ⟨r, e2, e3⟩, e4⟩ := h4 p hp
  refine ⟨e1, ⟨r, e2, s _ _ (fun c => ?_) e3⟩, e4⟩
  rw [c, hb] at e3
  cases e3
theorem DM.get {z : Prop} {m : Nat} {H : Hp} {a : Addr} {kvs : List (Key × V)} {f : Key → Int × Int} {k : Key} {v : V} (h : DM z m H a kvs f) (e : valV kvs k = some v) : ∃ r, v = .ref r ∧ H r = some (.tup [.int (f k).1, .int (f k).2]) := by
  obtain ⟨p, hp, e1, e2⟩ := mem_valV e
  obtain ⟨_, ⟨r, e3, e4⟩, _⟩ := h.2.2.2.1 p hp
  rw [e1] at e4
  exact ⟨r, e2.symm.trans e3, e4⟩
theorem DM.mono {z : Prop} {m n : Nat} {H : Hp} {a : Addr} {kvs : List (Key × V)} {f : Key → Int × Int} (h : DM z m H a kvs f) (l : m ≤ n) : DM z n H a kvs f := ⟨h.1, h.2.1, Nat.le_trans h.2.2.1 l, h.2.2.2⟩
theorem DM.fn {z : Prop} {m : Nat} {H : Hp} {a : Addr} {kvs : List (Key × V)} {f g : Key → Int × Int} (h : DM z m H a kvs f) (e : ∀ k, g k = f k) : DM z m H a kvs g := by
  have : g = f := funext e
  rw [this]
  exact h
theorem DM.copy {z : Prop} {m : Nat} {H : Hp} {a c : Addr} {kvs : List (Key × V)} {f : Key → Int × Int} (h : DM z m H a kvs f) (n : H c = none) : DM z m (upd H c (.dK kvs)) c kvs f := by
  have q := h.same (same_new (o := .dK kvs) n)
  exact ⟨upd_same, q.2⟩
/-- d[k] = v, f changed there -/
theorem DM.put {z : Prop} {m : Nat} {H : Hp} {a r : Addr} {kvs : List (Key × V)} {f : Key → Int × Int} {x : Str} {v : Int × Int} (h : DM z m H a kvs f) (hx : NmOk x) (hr : H r = some (.tup [.int v.1, .int v.2])) (hz : z → v.1 ≠ 0) :
    DM z (m + 1) (upd H a (.dK (putK kvs (.inr x) (.ref r)))) a (putK kvs (.inr x) (.ref r)) (fun k => if k = .inr x then v else f k) := by
  obtain ⟨h1, h2, h3, h4, h5⟩ := h
  have keep : ∀ r' xs, H r' = some (.tup xs) → (upd H a (.dK (putK kvs (.inr x) (.ref r)))) r' = some (.tup xs) := fun r' xs e => by
    rw [upd_ne fun c => ?_]
    · exact e
    · rw [c, h1] at e
      cases e
  have hv := valV_put kvs (.inr x) (y := .ref r)
  refine ⟨upd_same, nd_put _ _ h2, Nat.le_trans (length_putK ..) (Nat.succ_le_succ h3), fun p hp => ?_, fun k e => ?_⟩
  · have e0 : valV (putK kvs (.inr x) (.ref r)) p.1 = some p.2 := val_nodup (nd_put _ _ h2) p hp
    rw [hv] at e0
    by_cases c : p.1 = .inr x
    · rw [if_pos c] at e0
      dsimp only
      rw [if_pos c]
      exact ⟨⟨x, c, hx⟩, ⟨r, (Option.some.inj e0).symm, keep _ _ hr⟩, hz⟩
    · rw [if_neg c] at e0
      dsimp only
      rw [if_neg c]
      obtain ⟨q, hq, e1, e2⟩ := mem_valV e0
      obtain ⟨g1, ⟨r', g2, g3⟩, g4⟩ := h4 q hq
      rw [e1] at g1 g3 g4
      rw [e2] at g2
      exact ⟨g1, ⟨r', g2, keep _ _ g3⟩, g4⟩
  · rw [hv] at e
    by_cases c : k = .inr x
    · rw [if_pos c] at e
      cases e
    · rw [if_neg c] at e
      show (if k = .inr x then v else f k) = (0, 1)
      rw [if_neg c]
      exact h5 k e
/-- d.pop(k) where f is nought there -/
theorem DM.pop {m : Nat} {H : Hp} {a : Addr} {kvs : List (Key × V)} {f : Key → Int × Int} {x : Key} (h : DM False m H a kvs f) (nz : ∀ p ∈ kvs, p.1 ≠ x → (f p.1).1 ≠ 0) (e0 : f x = (0, 1)) :
    DM True m (upd H a (.dK (dropK kvs x))) a (dropK kvs x) f := by
  obtain ⟨h1, h2, h3, h4, h5⟩ := h
  have keep : ∀ r' xs, H r' = some (.tup xs) → (upd H a (.dK (dropK kvs x))) r' = some (.tup xs) := fun r' xs e => by
    rw [upd_ne fun c => ?_]
    · exact e
    · rw [c, h1] at e
      cases e
  have sub : ∀ p ∈ dropK kvs x, p ∈ kvs ∧ p.1 ≠ x := fun p hp => ⟨(List.mem_filter.mp hp).1, of_decide_eq_true (List.mem_filter.mp hp).2⟩
  refine ⟨upd_same, nd_dropK h2, ?_, fun p hp => ?_, fun k e => ?_⟩
  · exact Nat.le_trans (dropK_le ..) h3
  · obtain ⟨q1, q2⟩ := sub p hp
    obtain ⟨g1, ⟨r', g2, g3⟩, g4⟩ := h4 p q1
    exact ⟨g1, ⟨r', g2, keep _ _ g3⟩, fun _ => nz p q1 q2⟩
  · by_cases c : k = x
    · rw [c]
      exact e0
    · refine h5 k ?_
      cases e2 : valV kvs k with
      | none => rfl
      | some v =>
        obtain ⟨p, hp, e3, e4⟩ := mem_valV e2
        have hd : p ∈ dropK kvs x := List.mem_filter.mpr ⟨hp, decide_eq_true (by rw [e3]; exact c)⟩
        exact absurd (List.mem_map.mpr ⟨p, hd, e3⟩) (valV_not e)
theorem deq_of {m n : Nat} {H : Hp} {a b : Addr} {kvs ls : List (Key × V)} {f : Key → Int × Int} (h : DM True m H a kvs f) (h' : DM True n H b ls f) : DEq H (.ref a) (.ref b) := by
  obtain ⟨h1, h2, h3, h4, h5⟩ := h
  obtain ⟨g1, g2, g3, g4, g5⟩ := h'
  have key : ∀ (l1 l2 : List (Key × V)), (∀ p ∈ l1, (f p.1).1 ≠ 0) → (∀ k, valV l2 k = none → f k = (0, 1)) → ∀ x ∈ l1.map (·.1), x ∈ l2.map (·.1) := fun l1 l2 q1 q2 x hx => by
    obtain ⟨p, hp, rfl⟩ := List.mem_map.mp hx
    cases e : valV l2 p.1 with
    | none => exact absurd (by rw [q2 _ e]) (q1 p hp)
    | some v => exact valV_in e
  have m1 := key kvs ls (fun p hp => (h4 p hp).2.2 trivial) g5
  have m2 := key ls kvs (fun p hp => (g4 p hp).2.2 trivial) h5
  have pm : (kvs.map (·.1)).Perm (ls.map (·.1)) := (List.perm_ext_iff_of_nodup h2 g2).mpr fun x => ⟨m1 x, m2 x⟩
  have hl : kvs.length = ls.length := by
    have q := pm.length_eq
    rw [List.length_map, List.length_map] at q
    exact q
  refine ⟨a, b, kvs, ls, rfl, rfl, h1, g1, hl, fun p hp => ?_⟩
  cases e : valV ls p.1 with
  | none => exact absurd (by rw [g5 _ e]) ((h4 p hp).2.2 trivial)
  | some v =>
    obtain ⟨q, hq, e1, e2⟩ := mem_valV e
    obtain ⟨_, ⟨r, e3, e4⟩, _⟩ := g4 q hq
    obtain ⟨_, ⟨r', e5, e6⟩, _⟩ := h4 p hp
    rw [e1] at e4
    refine ⟨v, rfl, r', r, _, _, e5, e2.symm.trans e3, e6, e4⟩
end SS

namespace SS
open PySem PySem.Spec PyProof.Rows L2
theorem op_neDK {X : Cx} {K : PySem.W.Frag} (hK : K = X.K) (hu : X.A.units + 64 < cLine) : OpR X (compareOp .NotEq) (rNeD K) := by
  subst hK
  exact op_neD hu
theorem eqv_nought (n d : Int) : PyData.eqv (.tuple [.int n, .int d]) (.tuple [.int 0, .int 1]) = (n == 0 && d == 1) := by
  simp [PyData.eqv, PyData.eqvAll]
/-- g says of the keys of l what f says, of all others nought -/
def Upto (l : List (Key × V)) (f g : Key → Int × Int) : Prop := ∀ k, (k ∈ l.map (·.1) → g k = f k) ∧ (¬ k ∈ l.map (·.1) → g k = (0, 1))
theorem take_snoc {kvs : List (Key × V)} {i : Nat} {p : Key × V} (h : kvs[i]? = some p) : kvs.take (i + 1) = kvs.take i ++ [p] := by
  rw [List.take_add_one, h]
  rfl
theorem nd_at {kvs : List (Key × V)} {i : Nat} {p : Key × V} (hn : (kvs.map (·.1)).Nodup) (h : kvs[i]? = some p) : ¬ p.1 ∈ (kvs.take i).map (·.1) := fun hm => by
  have e : kvs = kvs.take i ++ p :: kvs.drop (i + 1) := by
    have hi := (List.getElem?_eq_some_iff.mp h)
    obtain ⟨hi, e⟩ := hi
    rw [← e, ← List.drop_eq_getElem_cons hi, List.take_append_drop]
  rw [e, List.map_append, List.map_cons] at hn
  have := List.nodup_append.mp hn
  exact this.2.2 _ hm _ List.mem_cons_self rfl
theorem Upto.snoc {kvs : List (Key × V)} {f g : Key → Int × Int} {i : Nat} {p : Key × V} (u : Upto (kvs.take i) f g) (h : kvs[i]? = some p) : Upto (kvs.take (i + 1)) f (fun k => if k = p.1 then f p.1 else g k) := fun k => by
  rw [take_snoc h, List.map_append, List.mem_append]
  constructor
  · intro hm
    by_cases c : k = p.1
    · show (if k = p.1 then f p.1 else g k) = f k
      rw [if_pos c, c]
    · show (if k = p.1 then f p.1 else g k) = f k
      rw [if_neg c]
      rcases hm with hm | hm
      · exact (u k).1 hm
      · exact absurd (List.mem_singleton.mp hm) c
  · intro hm
    have c : k ≠ p.1 := fun e => hm (.inr (List.mem_singleton.mpr e))
    show (if k = p.1 then f p.1 else g k) = (0, 1)
    rw [if_neg c]
    exact (u k).2 fun z => hm (.inl z)
theorem Upto.snoc0 {kvs : List (Key × V)} {f g : Key → Int × Int} {i : Nat} {p : Key × V} (u : Upto (kvs.take i) f g) (hn : (kvs.map (·.1)).Nodup) (h : kvs[i]? = some p) (z : f p.1 = (0, 1)) : Upto (kvs.take (i + 1)) f g := fun k => by
  rw [take_snoc h, List.map_append, List.mem_append]
  constructor
  · intro hm
    rcases hm with hm | hm
    · exact (u k).1 hm
    · have e := List.mem_singleton.mp hm
      have e' : k = p.1 := e
      rw [e', z]
      exact (u p.1).2 (nd_at hn h)
  · intro hm
    exact (u k).2 fun q => hm (.inl q)
theorem Upto.all {z : Prop} {m : Nat} {H : Hp} {a : Addr} {kvs : List (Key × V)} {f g : Key → Int × Int} (h : DM z m H a kvs f) (u : Upto kvs f g) : ∀ k, f k = g k := fun k => by
  by_cases c : k ∈ kvs.map (·.1)
  · exact ((u k).1 c).symm
  · rw [(u k).2 c]
    cases e : valV kvs k with
    | none => exact h.2.2.2.2 k e
    | some v => exact absurd (valV_in e) c
theorem dm_new {z : Prop} {m : Nat} {H : Hp} {D : Addr} (h : H D = some (.dK [])) : DM z m H D [] (fun _ => (0, 1)) := ⟨h, List.nodup_nil, Nat.zero_le _, fun p hp => absurd hp List.not_mem_nil, fun _ _ => rfl⟩
section
variable {P : Program} {w : World} {K : PySem.W.Frag} {mg : Str → Option Value} {base : Heap}
def spWn : Sp := fun vs H Q _ => ∃ (a : Addr) (kvs : List (Key × V)) (f : Key → Int × Int) (m B : Nat), vs = [.ref a] ∧ DM False m H a kvs f ∧ m ≤ 900 ∧ (∀ k, Okb B (f k)) ∧
  ∀ H' c ks, Same H H' → H c = none → DM True m H' c ks f → Q (.ref c) H'
theorem scWn : FnScope ["numbers", "unknown"] ["numbers"] (defScope sWn) := ⟨rfl, rfl, rfl, by decide +kernel, rfl, by decide +kernel, by decide +kernel⟩
theorem ok_wn {f' aN : Addr} {fd : FuncData} {k : Nat} (F : Fun K "without_noughts" "without_noughts" sWn f' fd) (gN : mg "NOUGHT" = some (.ref aN)) (hN : ∀ H, FrT K H aN 0 1) : FnOk P w K mg base CX0 (k + 1) f' fd ["numbers"] spWn := by
  refine F.ok scWn (fun vs H Q E h => ?_) (fun cdv A outer s H vs Q E hr h => ?_)
  · obtain ⟨_, _, _, _, _, rfl, _⟩ := h
    rfl
  · obtain ⟨a, kvs, f, m, B, rfl, da, hm, ok, q⟩ := h
    have hu := hu_of hr
    refine ⟨_, pss_one (ps_ret (pe_lock (pe_dc (own := [("unknown", 1)]) (g := gName 1) rfl scWn.nd (pi_keys (pv 0)) (blkOk_by (by rfl))
      (fun _ _ _ _ _ => pg_name (i := 1) scWn.nd rfl (Or.inl rfl))
      (fun _ _ _ _ _ => pts_one (pt_cmpR (op_neDK (K := K) rfl hr.units) (pe_dget hu (pv 0) (pv 1) (fun _ _ => rfl)) (pe_glob (v := .ref aN) (by rfl) gN rfl) (nomark _)))
      (fun _ _ _ _ _ => pv 1) (fun _ _ _ _ _ => pe_dget hu (pv 0) (pv 1) (fun _ _ => rfl))))), ?_⟩
    refine ⟨a, .dK kvs, da.1, trivial, fun od => ⟨_, rfl, a, od, rfl, .inl ⟨kvs, upd_same, fun D nD => ?_⟩⟩⟩
    have nDH : H D = none := by
      cases e : H D with
      | none => rfl
      | some o =>
        by_cases c : D = a
        · rw [c, upd_same] at nD
          cases nD
        · rw [upd_ne c, e] at nD
          cases nD
    have aD : a ≠ D := ne_of_none da.1 nDH
    refine ⟨fun i mm H' => ∃ ks g, i + mm = kvs.length ∧ (∀ x o, x ≠ a → x ≠ D → H x = some o → H' x = some o) ∧ H' a = some (.frz od (.dK kvs)) ∧ DM True i H' D ks g ∧ Upto (kvs.take i) f g,
      ⟨kvs.length, [], fun _ => (0, 1), by omega, fun x o n1 n2 e => by rw [upd_ne n2, upd_ne n1]; exact e, by rw [upd_ne aD]; exact upd_same, dm_new upd_same, fun k => ⟨fun z => absurd z List.not_mem_nil, fun _ => rfl⟩⟩, fun i mm H3 hW => ?_⟩
    obtain ⟨ks, g, em, kp, ha3, dm, up⟩ := hW
    have ml : kvs.length ≤ m := da.2.2.1
    by_cases hi : i < kvs.length
    · refine .inr ⟨⟨ha3, hi⟩, fun H' => ∃ ks g, (∀ x o, x ≠ a → x ≠ D → H x = some o → H' x = some o) ∧ H' a = some (.frz od (.dK kvs)) ∧ DM True (i + 1) H' D ks g ∧ Upto (kvs.take (i + 1)) f g, fun H' hN' => ?_, fun x H' hy => ?_⟩
      · obtain ⟨a1, a2, r1, r2, r3, r4⟩ := hN'
        exact ⟨mm - 1, by omega, a1, a2, by omega, r1, r2, r3, r4⟩
      · obtain ⟨rfl, key, v, hkv, rfl⟩ := hy
        obtain ⟨⟨nx, e1, okn⟩, ⟨rv, e2, e3⟩, _⟩ := da.2.2.2.1 (key, v) (List.mem_of_getElem? hkv)
        have e2' : v = .ref rv := e2
        have e1' : key = .inr nx := e1
        subst e2' e1'
        have ev : valV kvs (.inr nx) = some (.ref rv) := val_nodup da.2.1 (.inr nx, .ref rv) (List.mem_of_getElem? hkv)
        have rva : rv ≠ a := fun c => by
          rw [c, da.1] at e3
          cases e3
        have hv3 : H' rv = some (.tup [.int (f (.inr nx)).1, .int (f (.inr nx)).2]) := kp _ _ rva (ne_of_none e3 nDH) e3
        have dg : DGet H' a (kV (.inr nx)) (some (.ref rv)) := .inl ⟨kvs, .inr nx, .inr ⟨od, ha3⟩, rfl, ev.symm⟩
        refine ⟨rfl, _, rfl, _, rfl, a, _, rfl, dg, .tuple [.int (f (.inr nx)).1, .int (f (.inr nx)).2], .tuple [.int 0, .int 1], .tup (SqT.of hv3) (.cons (.int _) (.cons (.int _) .nil)), .tup (hN _).1 (.cons (.int _) (.cons (.int _) .nil)), rfl, rfl, _, rfl, ite2 (fun e => ?_) (fun e => ?_)⟩
        · rw [eqv_nought] at e
          have nz : (f (.inr nx)).1 ≠ 0 := fun z => by
            have zz := okb_top0 (ok _) z
            rw [zz] at e
            exact absurd e (by decide)
          refine ⟨_, rfl, _, rfl, _, rfl, a, _, rfl, dg, ks, .inr nx, rfl, dm.1, small1000 (by have := dm.2.2.1; omega), ?_⟩
          have dp := dm.put (x := nx) (r := rv) (v := f (.inr nx)) okn hv3 (fun _ => nz)
          refine ⟨_, _, ?_, ?_, dp, up.snoc hkv⟩
          · intro x o n1 n2 e
            rw [upd_ne n2]
            exact kp x o n1 n2 e
          · rw [upd_ne aD]
            exact ha3
        · rw [eqv_nought] at e
          have z : f (.inr nx) = (0, 1) := by
            have e' : (f (.inr nx)).1 = 0 := by
              by_cases c : (f (.inr nx)).1 = 0
              · exact c
              · exact absurd (by rw [show ((f (.inr nx)).1 == 0) = false from beq_eq_false_iff_ne.mpr c]; rfl) e
            exact okb_top0 (ok _) e'
          exact ⟨ks, g, kp, ha3, dm.mono (Nat.le_succ _), up.snoc0 da.2.1 hkv z⟩
    · have ei : kvs.take i = kvs := List.take_of_length_le (by omega)
      rw [ei] at up
      have fg := up.all da
      refine .inl ⟨⟨ha3, by omega⟩, ha3, q _ D ks ?_ nDH ?_⟩
      · intro x o e
        by_cases c : x = a
        · subst c
          rw [upd_same, ← da.1]
          exact e
        · rw [upd_ne c]
          exact kp x o c (ne_of_none e nDH) e
      · obtain ⟨d1, d2, d3, d4, d5⟩ := dm.fn (g := f) fg
        refine ⟨by rw [upd_ne aD.symm]; exact d1, d2, by omega, fun p hp => ?_, d5⟩
        obtain ⟨g1, ⟨r', g2, g3⟩, g4⟩ := d4 p hp
        refine ⟨g1, ⟨r', g2, ?_⟩, g4⟩
        rw [upd_ne fun c => ?_]
        · exact g3
        · rw [c, ha3] at g3
          cases g3
end
end SS

namespace SS
open PySem PySem.Spec PyProof.Rows L2
/-! ### pairs added up -/
def tstep (f : Key → Int × Int) (p : Str × (Int × Int)) : Key → Int × Int := fun k => if k = .inr p.1 then fplus (f k) p.2 else f k
def tot (ps : List (Str × (Int × Int))) : Key → Int × Int := ps.foldl tstep fun _ => (0, 1)
theorem tot_snoc (ps : List (Str × (Int × Int))) (p : Str × (Int × Int)) : tot (ps ++ [p]) = tstep (tot ps) p := by
  unfold tot
  rw [List.foldl_append]
  rfl
theorem tot_ok {B : Nat} {ps : List (Str × (Int × Int))} (h : ∀ p ∈ ps, Okb B p.2) : ∀ k, Okb ((B + 1) * ps.length + 1) (tot ps k) := by
  have key : ∀ (n : Nat) (ps : List (Str × (Int × Int))), ps.length = n → (∀ p ∈ ps, Okb B p.2) → ∀ k, Okb ((B + 1) * ps.length + 1) (tot ps k) := fun n => by
    induction n with
    | zero =>
      intro ps e _ k
      rw [List.eq_nil_of_length_eq_zero e]
      exact okb_zero 0
    | succ n ih =>
      intro ps e hp k
      obtain ⟨qs, p, rfl⟩ : ∃ qs p, ps = qs ++ [p] := by
        have ne : ps ≠ [] := fun z => by
          rw [z] at e
          cases e
        exact ⟨ps.dropLast, ps.getLast ne, (List.dropLast_concat_getLast ne).symm⟩
      have lq : qs.length = n := by
        rw [List.length_append] at e
        exact Nat.succ.inj e
      have i1 := ih qs lq (fun p hp' => hp p (List.mem_append.mpr (.inl hp'))) k
      rw [tot_snoc, List.length_append]
      unfold tstep
      split
      · exact (okb_plus i1 (hp p (List.mem_append.mpr (.inr (List.mem_singleton.mpr rfl))))).mono (by show (B + 1) * qs.length + 1 + B + 1 ≤ (B + 1) * (qs.length + 1) + 1; rw [Nat.mul_succ]; omega)
      · exact i1.mono (by show (B + 1) * qs.length + 1 ≤ (B + 1) * (qs.length + 1) + 1; rw [Nat.mul_succ]; omega)
  exact key _ ps rfl h
/-- at the addresses rs stand the pairs ps -/
def PL (H : Hp) (rs : List Addr) (ps : List (Str × (Int × Int))) : Prop := rs.length = ps.length ∧ ∀ (i : Nat) (r : Addr), rs[i]? = some r → ∃ (x : Str) (q : Addr) (e : Int × Int), ps[i]? = some (x, e) ∧ H r = some (.tup [.str x, .ref q]) ∧ H q = some (.tup [.int e.1, .int e.2])
theorem PL.same {H H' : Hp} {rs : List Addr} {ps : List (Str × (Int × Int))} (h : PL H rs ps) (s : Same H H') : PL H' rs ps := ⟨h.1, fun i r e => by
  obtain ⟨x, q, v, e1, e2, e3⟩ := h.2 i r e
  exact ⟨x, q, v, e1, s _ _ e2, s _ _ e3⟩⟩
section
variable {P : Program} {w : World} {K : PySem.W.Frag} {mg : Str → Option Value} {base : Heap}
def spSumOf (K : PySem.W.Frag) : Sp := fun vs H Q _ => ∃ (p : Addr) (rs : List Addr) (ps : List (Str × (Int × Int))) (B : Nat), vs = [.ref p] ∧ (SqL K H p (rs.map V.ref) ∨ SqT K H p (rs.map V.ref)) ∧ PL H rs ps ∧ ps.length ≤ 400 ∧ (∀ i k, Okb 2900 (tot (ps.take i) k)) ∧ B ≤ 2900 ∧ (∀ p ∈ ps, NmOk p.1 ∧ Okb B p.2) ∧
  ∀ H' c ks, Same H H' → H c = none → DM True ps.length H' c ks (tot ps) → Q (.ref c) H'
theorem Same.seqT {H H' : Hp} {a : Addr} {xs : List V} (e : Same H H') (h : SqT K H a xs) : SqT K H' a xs := by
  rcases h with (h | ⟨o, h⟩) | h
  · exact .inl (.inl (e _ _ h))
  · exact .inl (.inr ⟨o, e _ _ h⟩)
  · exact .inr h
theorem scSumOf : FnScope ["pairs", "numbers", "unknown", "number"] ["pairs"] (defScope sSumOf) := ⟨rfl, rfl, rfl, by decide +kernel, rfl, by decide +kernel, by decide +kernel⟩
theorem ok_sumof {f' aN : Addr} {fd : FuncData} (F : Fun K "sum_of" "sum_of" sSumOf f' fd) (gN : mg "NOUGHT" = some (.ref aN)) (hN : ∀ H, FrT K H aN 0 1) (pl : Cl P w K mg base CX0 3 "plus" (spPlus K) []) (wn : Cl P w K mg base CX0 1 "without_noughts" spWn []) : FnOk P w K mg base CX0 4 f' fd ["pairs"] (spSumOf K) := by
  refine F.ok scSumOf (fun vs H Q E h => ?_) (fun cdv A outer s H vs Q E hr h => ?_)
  · obtain ⟨_, _, _, _, rfl, _⟩ := h
    rfl
  · obtain ⟨p, rs, ps, B, rfl, hS, hp, hl, hB, hB2, hx, q⟩ := h
    have hu := hu_of hr
    rcases hS with hS | hS
    · refine ⟨_, pss_cons (ps_set (i := 1) scSumOf.nd rfl (.inl rfl) pe_dnewK)
        (pss_cons (ps_for PassesOwn.never rfl (pi_list (pv 0)) (pg_tup rfl (pgs_cons (pg_name (i := 2) scSumOf.nd rfl (.inl rfl)) (pgs_cons (pg_name (i := 3) scSumOf.nd rfl (.inl rfl)) pgs_nil)))
          (pss_one (ps_dput hu (pv 1) (pv 2) (pc0 pl hr (by decide) (pa_cons (pe_dget2 hu (pv 1) (pv 2) (pe_glob (v := .ref aN) (by rfl) gN rfl) ⟨rfl, rfl, rfl, rfl⟩) (pa_cons (pv 3) pa_nil))) rfl)))
        (pss_one (ps_ret (pc0 wn hr (by decide) (pa_cons (pv 1) pa_nil))))), ?_⟩
      intro D nD
      have s0 := same_new (o := .dK []) nD
      refine ⟨_, rfl, p, rfl, ⟨_, s0.seq hS⟩, for_list (K := K) (a := p) (xs := rs.map V.ref) (fun i σ H' => ∃ (y2 y3 : Option V) (ks : List (Key × V)), σ = [some (.ref p), some (.ref D), y2, y3] ∧ Same H H' ∧ DM False i H' D ks (tot (ps.take i)))
        ⟨none, none, [], rfl, s0, dm_new upd_same⟩ (fun i σ H' _ hW => ?_) ?_ ?_⟩
      · obtain ⟨_, _, _, _, sm, _⟩ := hW
        exact sm.seq hS
      · rintro i y σ H3 hy ⟨y2, y3, ks, rfl, sm, dm⟩
        obtain ⟨r, hri, rfl⟩ : ∃ r, rs[i]? = some r ∧ y = .ref r := by
          rw [List.getElem?_map] at hy
          cases e : rs[i]? with
          | none =>
            rw [e] at hy
            cases hy
          | some r =>
            rw [e] at hy
            exact ⟨r, rfl, (Option.some.inj hy).symm⟩
        obtain ⟨x, qa, e, hpi, hr1, hq1⟩ := hp.2 i r hri
        have il : i < ps.length := (List.getElem?_eq_some_iff.mp hpi).1
        have hxe := hx _ (List.mem_of_getElem? hpi)
        have et : ps.take (i + 1) = ps.take i ++ [(x, e)] := by
          rw [List.take_add_one, hpi]
          rfl
        have okt : ∀ k, Okb 2900 (tot (ps.take i) k) := fun k => hB i k
        have hr3 := sm _ _ hr1
        refine ⟨r, _, rfl, SqT.of hr3, rfl, _, _, rfl, _, _, rfl, rfl, ?_⟩
        obtain ⟨rp, ep, fp⟩ : ∃ rp, (valV ks (.inr x)).getD (.ref aN) = .ref rp ∧ FrT K H3 rp (tot (ps.take i) (.inr x)).1 (tot (ps.take i) (.inr x)).2 := by
          cases ev : valV ks (.inr x) with
          | none =>
            rw [dm.2.2.2.2 _ ev]
            exact ⟨aN, rfl, hN _⟩
          | some v =>
            obtain ⟨r', rfl, f'⟩ := dm.get ev
            exact ⟨r', rfl, FrT.of f'⟩
        have o1 := okt (.inr x)
        have o2 := hxe.2.mono hB2
        refine ⟨_, rfl, D, rfl, .inl ⟨ks, .inl dm.1⟩, _, rfl, valV ks (.inr x), DGet.k (k := .inr x) dm.1, _, rfl, _, _, e.1, e.2, ⟨rp, qa, by rw [ep]; rfl, fp, FrT.of (sm _ _ hq1), o1.1, o2.1, sm_mono o1.2.1 (by decide), sm_mono o1.2.2.1 (by decide), sm_mono o2.2.1 (by decide), sm_mono o2.2.2.1 (by decide), o1.2.2.2, o2.2.2.2⟩, fun r2 nr2 => ?_⟩
        have s4 := same_new (o := .tup [.int (fplus (tot (ps.take i) (.inr x)) e).1, .int (fplus (tot (ps.take i) (.inr x)) e).2]) nr2
        have dm4 := dm.same s4
        refine ⟨_, rfl, _, rfl, D, _, rfl, DPut.k (k := .inr x) dm4.1 (small1000 (by have := dm.2.2.1; omega)), ?_⟩
        refine ⟨_, _, _, rfl, ?_, (dm4.put (x := x) (r := r2) (v := fplus (tot (ps.take i) (.inr x)) e) hxe.1 upd_same (fun z => z.elim)).fn fun k => ?_⟩
        · intro b o eb
          rw [upd_ne (ne_of_none eb nD)]
          exact s4 _ _ (sm _ _ eb)
        · rw [et, tot_snoc]
          show (if k = .inr x then fplus (tot (ps.take i) k) e else tot (ps.take i) k) = if k = .inr x then fplus (tot (ps.take i) (.inr x)) e else tot (ps.take i) k
          by_cases c : k = .inr x
          · rw [if_pos c, if_pos c, c]
          · rw [if_neg c, if_neg c]
      · rintro σ H3 ⟨y2, y3, ks, rfl, sm, dm⟩
        rw [List.length_map, hp.1, List.take_length] at dm
        refine ⟨_, rfl, D, ks, tot ps, ps.length, 2900, rfl, dm, (by omega), fun k => by
          have z := hB ps.length k
          rw [List.take_length] at z
          exact z, fun H4 c ks' s4 nc d4 => ?_⟩
        exact q _ c ks' (sm.trans s4) (sm.free nc) d4
    · refine ⟨_, pss_cons (ps_set (i := 1) scSumOf.nd rfl (.inl rfl) pe_dnewK)
        (pss_cons (ps_for PassesOwn.never rfl (pi_tup (pv 0)) (pg_tup rfl (pgs_cons (pg_name (i := 2) scSumOf.nd rfl (.inl rfl)) (pgs_cons (pg_name (i := 3) scSumOf.nd rfl (.inl rfl)) pgs_nil)))
          (pss_one (ps_dput hu (pv 1) (pv 2) (pc0 pl hr (by decide) (pa_cons (pe_dget2 hu (pv 1) (pv 2) (pe_glob (v := .ref aN) (by rfl) gN rfl) ⟨rfl, rfl, rfl, rfl⟩) (pa_cons (pv 3) pa_nil))) rfl)))
        (pss_one (ps_ret (pc0 wn hr (by decide) (pa_cons (pv 1) pa_nil))))), ?_⟩
      intro D nD
      have s0 := same_new (o := .dK []) nD
      refine ⟨_, rfl, p, rfl, ⟨_, Same.seqT s0 hS⟩, for_tup (K := K) (a := p) (xs := rs.map V.ref) (fun i σ H' => ∃ (y2 y3 : Option V) (ks : List (Key × V)), σ = [some (.ref p), some (.ref D), y2, y3] ∧ Same H H' ∧ DM False i H' D ks (tot (ps.take i)))
        ⟨none, none, [], rfl, s0, dm_new upd_same⟩ (fun i σ H' _ hW => ?_) ?_ ?_⟩
      · obtain ⟨_, _, _, _, sm, _⟩ := hW
        exact Same.seqT sm hS
      · rintro i y σ H3 hy ⟨y2, y3, ks, rfl, sm, dm⟩
        obtain ⟨r, hri, rfl⟩ : ∃ r, rs[i]? = some r ∧ y = .ref r := by
          rw [List.getElem?_map] at hy
          cases e : rs[i]? with
          | none =>
            rw [e] at hy
            cases hy
          | some r =>
            rw [e] at hy
            exact ⟨r, rfl, (Option.some.inj hy).symm⟩
        obtain ⟨x, qa, e, hpi, hr1, hq1⟩ := hp.2 i r hri
        have il : i < ps.length := (List.getElem?_eq_some_iff.mp hpi).1
        have hxe := hx _ (List.mem_of_getElem? hpi)
        have et : ps.take (i + 1) = ps.take i ++ [(x, e)] := by
          rw [List.take_add_one, hpi]
          rfl
        have okt : ∀ k, Okb 2900 (tot (ps.take i) k) := fun k => hB i k
        have hr3 := sm _ _ hr1
        refine ⟨r, _, rfl, SqT.of hr3, rfl, _, _, rfl, _, _, rfl, rfl, ?_⟩
        obtain ⟨rp, ep, fp⟩ : ∃ rp, (valV ks (.inr x)).getD (.ref aN) = .ref rp ∧ FrT K H3 rp (tot (ps.take i) (.inr x)).1 (tot (ps.take i) (.inr x)).2 := by
          cases ev : valV ks (.inr x) with
          | none =>
            rw [dm.2.2.2.2 _ ev]
            exact ⟨aN, rfl, hN _⟩
          | some v =>
            obtain ⟨r', rfl, f'⟩ := dm.get ev
            exact ⟨r', rfl, FrT.of f'⟩
        have o1 := okt (.inr x)
        have o2 := hxe.2.mono hB2
        refine ⟨_, rfl, D, rfl, .inl ⟨ks, .inl dm.1⟩, _, rfl, valV ks (.inr x), DGet.k (k := .inr x) dm.1, _, rfl, _, _, e.1, e.2, ⟨rp, qa, by rw [ep]; rfl, fp, FrT.of (sm _ _ hq1), o1.1, o2.1, sm_mono o1.2.1 (by decide), sm_mono o1.2.2.1 (by decide), sm_mono o2.2.1 (by decide), sm_mono o2.2.2.1 (by decide), o1.2.2.2, o2.2.2.2⟩, fun r2 nr2 => ?_⟩
        have s4 := same_new (o := .tup [.int (fplus (tot (ps.take i) (.inr x)) e).1, .int (fplus (tot (ps.take i) (.inr x)) e).2]) nr2
        have dm4 := dm.same s4
        refine ⟨_, rfl, _, rfl, D, _, rfl, DPut.k (k := .inr x) dm4.1 (small1000 (by have := dm.2.2.1; omega)), ?_⟩
        refine ⟨_, _, _, rfl, ?_, (dm4.put (x := x) (r := r2) (v := fplus (tot (ps.take i) (.inr x)) e) hxe.1 upd_same (fun z => z.elim)).fn fun k => ?_⟩
        · intro b o eb
          rw [upd_ne (ne_of_none eb nD)]
          exact s4 _ _ (sm _ _ eb)
        · rw [et, tot_snoc]
          show (if k = .inr x then fplus (tot (ps.take i) k) e else tot (ps.take i) k) = if k = .inr x then fplus (tot (ps.take i) (.inr x)) e else tot (ps.take i) k
          by_cases c : k = .inr x
          · rw [if_pos c, if_pos c, c]
          · rw [if_neg c, if_neg c]
      · rintro σ H3 ⟨y2, y3, ks, rfl, sm, dm⟩
        rw [List.length_map, hp.1, List.take_length] at dm
        refine ⟨_, rfl, D, ks, tot ps, ps.length, 2900, rfl, dm, (by omega), fun k => by
          have z := hB ps.length k
          rw [List.take_length] at z
          exact z, fun H4 c ks' s4 nc d4 => ?_⟩
        exact q _ c ks' (sm.trans s4) (sm.free nc) d4
end
end SS

namespace SS
open PySem PySem.Spec PyProof.Rows L2
theorem DM.weak {z : Prop} {m : Nat} {H : Hp} {a : Addr} {kvs : List (Key × V)} {f : Key → Int × Int} (h : DM z m H a kvs f) : DM False m H a kvs f := ⟨h.1, h.2.1, h.2.2.1, fun p hp => ⟨(h.2.2.2.1 p hp).1, (h.2.2.2.1 p hp).2.1, fun c => c.elim⟩, h.2.2.2.2⟩
/-- the dict at b is given back -/
theorem DM.unlock {z : Prop} {m : Nat} {H : Hp} {a b : Addr} {kvs ls : List (Key × V)} {f : Key → Int × Int} {od : Obj} {o : HO} (h : DM z m H a kvs f) (hb : H b = some (.frz od (.dK ls))) (n : a ≠ b) : DM z m (upd H b o) a kvs f := by
  obtain ⟨h1, h2, h3, h4, h5⟩ := h
  refine ⟨by rw [upd_ne n]; exact h1, h2, h3, fun p hp => ?_, h5⟩
  obtain ⟨e1, ⟨r, e2, e3⟩, e4⟩ := h4 p hp
  refine ⟨e1, ⟨r, e2, ?_⟩, e4⟩
  rw [upd_ne fun c => ?_]
  · exact e3
  · rw [c, hb] at e3
    cases e3
section
variable {P : Program} {w : World} {K : PySem.W.Frag} {mg : Str → Option Value} {base : Heap}
def spAdd (K : PySem.W.Frag) : Sp := fun vs H Q _ => ∃ (a b n : Addr) (kvs ls : List (Key × V)) (f g : Key → Int × Int) (num : Int × Int) (m l : Nat), vs = [.ref a, .ref b, .ref n] ∧ DM True m H a kvs f ∧ DM False l H b ls g ∧ FrT K H n num.1 num.2 ∧
  (∀ k, Okb 2950 (f k)) ∧ (∀ k, Okb 1400 (g k)) ∧ Okb 1400 num ∧ m ≤ 100 ∧ l ≤ 100 ∧ ∀ H' c ks, Same H H' → H c = none → DM True (m + l) H' c ks (fun k => fplus (f k) (ftimes (g k) num)) → Q (.ref c) H'
theorem scAdd : FnScope ["_law_one", "_law_other", "_law_number_here", "_law_found", "_law_key", "_law_more"] ["_law_one", "_law_other", "_law_number_here"] (defScope sAdd) := ⟨rfl, rfl, rfl, by decide +kernel, rfl, by decide +kernel, by decide +kernel⟩
theorem ok_add {f' : Addr} {fd : FuncData} (F : Fun K "_law_add" "_law_add" sAdd f' fd) (md : mg "dict" = none) (pl : Cl P w K mg base CX0 3 "_law_plus" (spPlus K) []) (tm : Cl P w K mg base CX0 3 "_law_times" (spTimes K) []) : FnOk P w K mg base CX0 4 f' fd ["_law_one", "_law_other", "_law_number_here"] (spAdd K) := by
  refine F.ok scAdd (fun vs H Q E h => ?_) (fun cdv A outer s H vs Q E hr h => ?_)
  · obtain ⟨_, _, _, _, _, _, _, _, _, _, rfl, _⟩ := h
    rfl
  · obtain ⟨a, b, n, kvs, ls, f, g, num, m, l, rfl, da, db, fn, okf, okg, okn, hm, hl, q⟩ := h
    have hu := hu_of hr
    refine ⟨_, pss_cons (ps_set (i := 3) scAdd.nd rfl (.inl rfl) (pe_callTy call_dictD (by rfl) md (by decide +kernel) (pa_cons (pv 0) pa_nil)))
      (pss_cons (ps_lock (ps_for PassesOwn.never rfl (pi_keys (pv 1)) (pg_name (i := 4) scAdd.nd rfl (.inl rfl))
        (pss_cons (ps_set (i := 5) scAdd.nd rfl (.inl rfl) (pc0 pl hr (by decide) (pa_cons (pe_dget2 hu (pv 3) (pv 4) (pe_tup (pa_cons pe_int (pa_cons pe_int pa_nil))) ⟨rfl, rfl, rfl, rfl⟩)
          (pa_cons (pc0 tm hr (by decide) (pa_cons (pe_dget hu (pv 1) (pv 4) (fun _ _ => rfl)) (pa_cons (pv 2) pa_nil))) pa_nil))))
        (pss_cons (ps_dput hu (pv 3) (pv 4) (pv 5) rfl)
        (pss_one (ps_if (pt_cmpR op_eq (pe_ix ix_tup (pv 5) pe_int (fun _ _ => rfl)) pe_int (nomark _)) (pss_one (ps_expr (pe_dpop1 (pv 3) (pv 4) ⟨rfl, rfl, rfl, rfl⟩))) pss_nil))))))
      (pss_one (ps_ret (pv 3)))), ?_⟩
    refine ⟨_, rfl, a, kvs, rfl, .inl da.1, fun c nc => ?_⟩
    have s1 := same_new (o := .dK kvs) nc
    have dc := da.copy nc
    have db1 := db.same s1
    have bc : b ≠ c := ne_of_none db.1 nc
    refine ⟨b, .dK ls, db1.1, trivial, fun od => ⟨_, rfl, b, od, rfl, .inl ⟨ls, upd_same, ?_⟩⟩⟩
    have kp1 : ∀ x o, x ≠ b → H x = some o → (upd (upd H c (.dK kvs)) b (.frz od (.dK ls))) x = some o := fun x o nx e => by
      rw [upd_ne nx]
      exact s1 _ _ e
    have dc1 : DM True m (upd (upd H c (.dK kvs)) b (.frz od (.dK ls))) c kvs f := dc.lk db1.1 bc.symm fun x o nx e => by
      rw [upd_ne nx]
      exact e
    refine ⟨fun i mm σ H' => ∃ (y4 y5 : Option V) (ks : List (Key × V)) (fj : Key → Int × Int), σ = [some (.ref a), some (.ref b), some (.ref n), some (.ref c), y4, y5] ∧ i + mm = ls.length ∧ (∀ x o, x ≠ b → H x = some o → H' x = some o) ∧ H' b = some (.frz od (.dK ls)) ∧
        DM True (m + i) H' c ks fj ∧ ∀ k, (k ∈ (ls.take i).map (·.1) → fj k = fplus (f k) (ftimes (g k) num)) ∧ (¬ k ∈ (ls.take i).map (·.1) → fj k = f k),
      ⟨ls.length, none, none, kvs, f, rfl, by omega, kp1, upd_same, dc1, fun k => ⟨fun z => absurd z List.not_mem_nil, fun _ => rfl⟩⟩, fun i mm σ H3 hW => ?_⟩
    obtain ⟨y4, y5, ks, fj, rfl, em, kp, hb3, dm, fk⟩ := hW
    have ll : ls.length ≤ l := db.2.2.1
    by_cases hi : i < ls.length
    · refine .inr ⟨⟨hb3, hi⟩, fun σ' H' => ∃ (y4 y5 : Option V) (ks : List (Key × V)) (fj : Key → Int × Int), σ' = [some (.ref a), some (.ref b), some (.ref n), some (.ref c), y4, y5] ∧ (∀ x o, x ≠ b → H x = some o → H' x = some o) ∧ H' b = some (.frz od (.dK ls)) ∧
          DM True (m + (i + 1)) H' c ks fj ∧ ∀ k, (k ∈ (ls.take (i + 1)).map (·.1) → fj k = fplus (f k) (ftimes (g k) num)) ∧ (¬ k ∈ (ls.take (i + 1)).map (·.1) → fj k = f k), fun σ' H' hN' => ?_, fun x H' hy => ?_⟩
      · obtain ⟨a1, a2, a3, a4, r1, r2, r3, r4, r5⟩ := hN'
        exact ⟨mm - 1, by omega, a1, a2, a3, a4, r1, by omega, r2, r3, r4, r5⟩
      · obtain ⟨rfl, key, v, hkv, rfl⟩ := hy
        obtain ⟨⟨nx, e1, okx⟩, ⟨rv, e2, e3⟩, _⟩ := db.2.2.2.1 (key, v) (List.mem_of_getElem? hkv)
        have e2' : v = .ref rv := e2
        have e1' : key = .inr nx := e1
        subst e2' e1'
        have ev : valV ls (.inr nx) = some (.ref rv) := val_nodup db.2.1 (.inr nx, .ref rv) (List.mem_of_getElem? hkv)
        have rvb : rv ≠ b := fun z => by
          rw [z, db.1] at e3
          cases e3
        have ff : fj (.inr nx) = f (.inr nx) := (fk _).2 (nd_at db.2.1 hkv)
        have nb : n ≠ b ∨ True := .inr trivial
        refine ⟨_, rfl, c, rfl, .inl ⟨ks, .inl dm.1⟩, _, rfl, small2, fun N nN => ?_⟩
        have s4 := same_new (o := .tup [.int 0, .int 1]) nN
        have fN : FrT K (upd H' N (.tup [.int 0, .int 1])) N 0 1 := FrT.of upd_same
        have dm4 := dm.same s4
        have kp4 : ∀ x o, x ≠ b → H x = some o → (upd H' N (.tup [.int 0, .int 1])) x = some o := fun x o nx e => s4 _ _ (kp x o nx e)
        have hb4 := s4 _ _ hb3
        generalize upd H' N (.tup [.int 0, .int 1]) = H4 at fN dm4 kp4 hb4 ⊢
        obtain ⟨rp, ep, fp⟩ : ∃ rp, (valV ks (.inr nx)).getD (.ref N) = .ref rp ∧ FrT K H4 rp (f (.inr nx)).1 (f (.inr nx)).2 := by
          rw [← ff]
          cases ev2 : valV ks (.inr nx) with
          | none =>
            rw [dm4.2.2.2.2 _ ev2]
            exact ⟨N, rfl, fN⟩
          | some v =>
            obtain ⟨r', rfl, f'⟩ := dm4.get ev2
            exact ⟨r', rfl, FrT.of f'⟩
        have o1 := okf (.inr nx)
        have o2 := okg (.inr nx)
        have fn4 : FrT K H4 n num.1 num.2 := by
          obtain ⟨q1, q2⟩ := fn
          rcases q1 with (q1 | ⟨o, q1⟩) | ⟨o, its, mq, k1, k2, k3⟩
          · exact FrT.of (kp4 _ _ (fun z => by
              rw [z, db.1] at q1
              cases q1) q1)
          · have z := kp4 _ _ (fun z => by
              rw [z, db.1] at q1
              cases q1) q1
            exact ⟨.inl (.inr ⟨o, z⟩), .fTuple z⟩
          · exact ⟨.inr ⟨o, its, mq, k1, k2, k3⟩, .kTuple k1 k2⟩
        refine ⟨valV ks (.inr nx), DGet.k (k := .inr nx) dm4.1, _, rfl, _, rfl, b, _, rfl, .inl ⟨ls, .inr nx, .inr ⟨od, hb4⟩, rfl, ev.symm⟩, _, rfl, (g (.inr nx)).1, (g (.inr nx)).2, num.1, num.2, ⟨rv, n, rfl, FrT.of (kp4 _ _ rvb e3), fn4, o2.1, okn.1, sm_mono o2.2.1 (by decide), sm_mono o2.2.2.1 (by decide), sm_mono okn.2.1 (by decide), sm_mono okn.2.2.1 (by decide), o2.2.2.2, okn.2.2.2⟩, fun r1 nr1 => ?_⟩
        have okt : Okb 2800 (ftimes (g (.inr nx)) num) := okb_times o2 okn
        have s5 := same_new (o := .tup [.int (ftimes (g (.inr nx)) num).1, .int (ftimes (g (.inr nx)) num).2]) nr1
        refine ⟨(f (.inr nx)).1, (f (.inr nx)).2, (ftimes (g (.inr nx)) num).1, (ftimes (g (.inr nx)) num).2, ⟨rp, r1, by rw [ep]; rfl, fp.new s5, FrT.of upd_same, o1.1, okt.1, sm_mono o1.2.1 (by decide), sm_mono o1.2.2.1 (by decide), sm_mono okt.2.1 (by decide), sm_mono okt.2.2.1 (by decide), o1.2.2.2, okt.2.2.2⟩, fun r2 nr2 => ?_⟩
        have s6 := same_new (o := .tup [.int (fplus (f (.inr nx)) (ftimes (g (.inr nx)) num)).1, .int (fplus (f (.inr nx)) (ftimes (g (.inr nx)) num)).2]) nr2
        have okm : Okb 5751 (fplus (f (.inr nx)) (ftimes (g (.inr nx)) num)) := okb_plus o1 okt
        have dm6 := (dm4.same s5).same s6
        have hb6 := s6 _ _ (s5 _ _ hb4)
        have kp6 : ∀ x o, x ≠ b → H x = some o → _ := fun x o nx' e => s6 _ _ (s5 _ _ (kp4 x o nx' e))
        refine ⟨_, rfl, _, rfl, _, rfl, c, _, rfl, DPut.k (k := .inr nx) dm6.1 (small1000 (by have := dm.2.2.1; omega)), ?_⟩
        have r2c : r2 ≠ c := (ne_of_none (dm4.same s5).1 nr2).symm
        have hr2 : ∀ o : HO, (upd (upd (upd H4 r1 (.tup [.int (ftimes (g (.inr nx)) num).1, .int (ftimes (g (.inr nx)) num).2])) r2 (.tup [.int (fplus (f (.inr nx)) (ftimes (g (.inr nx)) num)).1, .int (fplus (f (.inr nx)) (ftimes (g (.inr nx)) num)).2])) c o) r2 = some (.tup [.int (fplus (f (.inr nx)) (ftimes (g (.inr nx)) num)).1, .int (fplus (f (.inr nx)) (ftimes (g (.inr nx)) num)).2]) := fun o => by
          rw [upd_ne r2c]
          exact upd_same
        have kpc : ∀ (o1 : HO) x o, x ≠ b → H x = some o → (upd (upd (upd H4 r1 (.tup [.int (ftimes (g (.inr nx)) num).1, .int (ftimes (g (.inr nx)) num).2])) r2 (.tup [.int (fplus (f (.inr nx)) (ftimes (g (.inr nx)) num)).1, .int (fplus (f (.inr nx)) (ftimes (g (.inr nx)) num)).2])) c o1) x = some o := fun o1 x o nx' e => by
          rw [upd_ne (ne_of_none e nc)]
          exact kp6 x o nx' e
        have fk' : ∀ k, (k ∈ (ls.take (i + 1)).map (·.1) → (if k = .inr nx then fplus (f (.inr nx)) (ftimes (g (.inr nx)) num) else fj k) = fplus (f k) (ftimes (g k) num)) ∧ (¬ k ∈ (ls.take (i + 1)).map (·.1) → (if k = .inr nx then fplus (f (.inr nx)) (ftimes (g (.inr nx)) num) else fj k) = f k) := fun k => by
          rw [take_snoc hkv, List.map_append, List.mem_append]
          constructor
          · intro hm'
            by_cases z : k = .inr nx
            · rw [if_pos z, z]
            · rw [if_neg z]
              rcases hm' with hm' | hm'
              · exact (fk k).1 hm'
              · exact absurd (List.mem_singleton.mp hm') z
          · intro hm'
            have z : k ≠ .inr nx := fun e => hm' (.inr (List.mem_singleton.mpr e))
            rw [if_neg z]
            exact (fk k).2 fun y => hm' (.inl y)
        refine ⟨_, rfl, r2, _, 0, _, rfl, rfl, SqT.of (hr2 _), atI_nat (j := 0) rfl, rfl, _, rfl, ite2 (fun e => ?_) (fun e => ?_)⟩
        · have z0 : (fplus (f (.inr nx)) (ftimes (g (.inr nx)) num)).1 = 0 := V.int.inj (of_decide_eq_true e)
          have zz := okb_top0 okm z0
          have dp := dm6.weak.put (x := nx) (r := r2) (v := fplus (f (.inr nx)) (ftimes (g (.inr nx)) num)) okx upd_same (fun z => z.elim)
          have dd := dp.pop (x := .inr nx) (fun p hp np => ?_) ?_
          · refine ⟨_, rfl, c, rfl, .inl ⟨_, .inl upd_same⟩, _, rfl, _, .inr nx, .ref r2, upd_same, rfl, ?_, ?_⟩
            · rw [valV_put, if_pos rfl]
            · rw [upd_upd]
              rw [upd_upd] at dd
              refine ⟨_, _, _, _, rfl, kpc _, ?_, dd.mono (by omega), fk'⟩
              rw [upd_ne bc]
              exact hb6
          · have e9 : valV (putK ks (.inr nx) (.ref r2)) p.1 = some p.2 := val_nodup dp.2.1 p hp
            rw [valV_put, if_neg np] at e9
            obtain ⟨p', hp', e10, _⟩ := mem_valV e9
            show (if p.1 = .inr nx then _ else fj p.1).1 ≠ 0
            rw [if_neg np, ← e10]
            exact (dm6.2.2.2.1 p' hp').2.2 trivial
          · show (if (.inr nx : Key) = .inr nx then _ else fj (.inr nx)) = (0, 1)
            rw [if_pos rfl]
            exact zz
        · have nz : (fplus (f (.inr nx)) (ftimes (g (.inr nx)) num)).1 ≠ 0 := fun z => e (by rw [z]; exact decide_eq_true rfl)
          have dp := dm6.put (x := nx) (r := r2) (v := fplus (f (.inr nx)) (ftimes (g (.inr nx)) num)) okx upd_same (fun _ => nz)
          refine ⟨_, _, _, _, rfl, kpc _, ?_, dp, fk'⟩
          rw [upd_ne bc]
          exact hb6
    · have ei : ls.take i = ls := List.take_of_length_le (by omega)
      rw [ei] at fk
      have dm' : DM True (m + l) H3 c ks (fun k => fplus (f k) (ftimes (g k) num)) := (dm.mono (by omega)).fn fun k => by
        by_cases cz : k ∈ ls.map (·.1)
        · exact ((fk k).1 cz).symm
        · rw [(fk k).2 cz]
          have gz : g k = (0, 1) := by
            cases e : valV ls k with
            | none => exact db.2.2.2.2 k e
            | some v => exact absurd (valV_in e) cz
          show fplus (f k) (ftimes (g k) num) = f k
          rw [gz, zero_ftimes okn, fplus_zero (okf k)]
      refine .inl ⟨⟨hb3, by omega⟩, hb3, _, rfl, q _ c ks ?_ nc (dm'.unlock hb3 bc.symm)⟩
      intro x o e
      by_cases z : x = b
      · subst z
        rw [upd_same, ← db.1]
        exact e
      · rw [upd_ne z]
        exact kp x o z e
end
end SS

namespace SS
open PySem PySem.Spec PyProof.Rows L2
theorem abc_mem : ∀ i : Nat, i < 26 → 97 + i ∈ abc.cps.toList := by decide +kernel
theorem ix_tupK {X : Cx} {K : PySem.W.Frag} (hK : K = X.K) : IxR X (rIxT K) := by
  subst hK
  exact ix_tup
theorem alls (n : Nat) : (List.replicate n true).all id = true := List.all_eq_true.mpr fun x hx => by
  rw [(List.mem_replicate.mp hx).2]
  rfl
section
variable {P : Program} {w : World} {K : PySem.W.Frag} {mg : Str → Option Value} {base : Heap}
def spIsName : Sp := fun vs H Q _ => ∃ x : Str, vs = [.str x] ∧ NmOk x ∧ ∀ H', Same H H' → Q (.bl true) H'
theorem scIsName : FnScope ["_law_thing", "_law_sign"] ["_law_thing"] (defScope sIsName) := ⟨rfl, rfl, rfl, by decide +kernel, rfl, by decide +kernel, by decide +kernel⟩
theorem ok_isname {f : Addr} {fd : FuncData} {k : Nat} (F : Fun K "_law_is_name" "_law_is_name" sIsName f fd) (mi : mg "isinstance" = none) (ms : mg "str" = none) (ml : mg "len" = none) (ma : mg "all" = none) : FnOk P w K mg base CX0 (k + 1) f fd ["_law_thing"] spIsName := by
  refine F.ok scIsName (fun vs H Q E h => ?_) (fun cdv A outer s H vs Q E hr h => ?_)
  · obtain ⟨_, rfl, _⟩ := h
    rfl
  · obtain ⟨x, rfl, ok, q⟩ := h
    refine ⟨_, pss_cons (ps_if (PW.pt (pw_or (pt_not (pt_val (pe_callB call_isi (by rfl) mi boot_isinstance (pa_cons (pv 0) (pa_cons (pe_bltn (v := .ty "str") (u := .type "str") (by rfl) ms (by decide +kernel) rfl) pa_nil)))))
        (pw_or1 (pt_not (pt_chain op_lt op_lt pe_int (pe_callB call_len (by rfl) ml PySem.boot_len (pa_cons (pv 0) pa_nil)) pe_int))))) (pss_one (ps_ret pe_bl)) pss_nil)
      (pss_one (ps_ret (pe_callB (cr_all rfl) (by rfl) ma boot_all (pa_cons
        (pe_lc (own := [("_law_sign", 1)]) (g := gName 1) (tt := tYes) rfl scIsName.nd (pi_str (pv 0)) (blkOk_by (by rfl)) (fun _ _ _ _ _ => pg_name (i := 1) scIsName.nd rfl (Or.inl rfl)) (fun _ _ _ _ _ => pts_nil)
          (fun _ _ _ _ _ => pe_cmpR op_in_sign (pv 1) pe_str rfl)) pa_nil)))), ?_⟩
    have el : x.length = x.cps.toList.length := by
      rw [Array.length_toList]
      rfl
    refine ⟨_, rfl, .str x, .ty "str", .type "str", .type "str", true, rfl, .ty _, .base (.str x), kit_ty (by decide +kernel), _, rfl, iteF ?_⟩
    have h0 : (0 : Int) < (x.length : Int) := by
      have := ok.1
      omega
    have h7 : (x.length : Int) < 7 := by
      have := ok.2.1
      omega
    refine ⟨_, rfl, _, x.length, rfl, ⟨ok.len, rfl⟩, 0, (x.length : Int), rfl, rfl, _, rfl, ite2 (fun _ => ?_) (fun e => absurd (decide_eq_true h0) e)⟩
    refine ⟨(x.length : Int), 7, rfl, rfl, true, congrArg V.bl (decide_eq_true h7), iteF ?_⟩
    refine ⟨_, rfl, x, rfl, fun D nD => lc_it walk_str (fun i H' => H' D = some (.lst ((List.replicate i true).map V.bl)) ∧ ∀ b o, b ≠ D → H b = some o → H' b = some o)
      ⟨upd_same, fun b o nb e => by rw [upd_ne nb]; exact e⟩ (fun _ _ _ _ => trivial) ?_ ?_⟩
    · rintro i y H2 H' hi ⟨w1, w2⟩ ⟨rfl, ch, hc, rfl⟩
      have hm : ch ∈ x.cps.toList := by
        rw [← Array.getElem?_toList] at hc
        exact List.mem_of_getElem? hc
      have hr' := ok.2.2 ch hm
      have hin : decide (ch ∈ abc.cps.toList) = true := decide_eq_true (by
        have z := abc_mem (ch - 97) (by omega)
        rw [show 97 + (ch - 97) = ch by omega] at z
        exact z)
      refine ⟨rfl, _, rfl, ch, abc, rfl, rfl, _, w1, ?_, ?_, ?_⟩
      · rw [List.length_map, List.length_replicate]
        have hi' : i < x.cps.toList.length := by
          rw [Array.length_toList]
          exact hi
        exact small1000 (by have := ok.2.1; omega)
      · rw [upd_same, hin, List.replicate_succ', List.map_append]
        rfl
      · intro b o nb e
        rw [upd_ne nb]
        exact w2 b o nb e
    · rintro H' ⟨w1, w2⟩
      refine ⟨D, _, rfl, SqL.of w1, ?_⟩
      rw [alls]
      exact q _ fun b o e => w2 b o (ne_of_none e nD) e
def spIsPoint : Sp := fun vs H Q _ => ∃ (a : Addr) (kvs : List (Key × V)) (f : Key → Int × Int) (z : Prop) (m B : Nat), vs = [.ref a] ∧ DM z m H a kvs f ∧ m ≤ 900 ∧ (∀ k, Okb B (f k)) ∧ ∀ H', Same H H' → Q (.bl true) H'
theorem scIsPoint : FnScope ["_law_thing", "_law_key"] ["_law_thing"] (defScope sIsPoint) := ⟨rfl, rfl, rfl, by decide +kernel, rfl, by decide +kernel, by decide +kernel⟩
theorem ok_ispoint {f' : Addr} {fd : FuncData} (F : Fun K "_law_is_point" "_law_is_point" sIsPoint f' fd) (mi : mg "isinstance" = none) (md : mg "dict" = none) (ma : mg "all" = none) (isn : Cl P w K mg base CX0 1 "_law_is_name" spIsName []) (isf : Cl P w K mg base CX0 2 "_law_is_fraction" (spIsf K) []) : FnOk P w K mg base CX0 3 f' fd ["_law_thing"] spIsPoint := by
  refine F.ok scIsPoint (fun vs H Q E h => ?_) (fun cdv A outer s H vs Q E hr h => ?_)
  · obtain ⟨_, _, _, _, _, _, rfl, _⟩ := h
    rfl
  · obtain ⟨a, kvs, f, z, m, B, rfl, da, hm, ok, q⟩ := h
    have hu := hu_of hr
    refine ⟨_, pss_cons (ps_if (pt_not (pt_val (pe_callB call_isi (by rfl) mi boot_isinstance (pa_cons (pv 0) (pa_cons (pe_bltn (v := .ty "dict") (u := .type "dict") (by rfl) md (by decide +kernel) rfl) pa_nil))))) (pss_one (ps_ret pe_bl)) pss_nil)
      (pss_one (ps_ret (pe_callB (cr_all rfl) (by rfl) ma boot_all (pa_cons
        (pe_lock (pe_lc (own := [("_law_key", 1)]) (g := gName 1) (tt := tYes) rfl scIsPoint.nd (pi_keys (pv 0)) (blkOk_by (by rfl)) (fun _ _ _ _ _ => pg_name (i := 1) scIsPoint.nd rfl (Or.inl rfl)) (fun _ _ _ _ _ => pts_nil)
          (fun _ _ _ _ _ => pe_and (pc0 isn hr (by decide) (pa_cons (pv 1) pa_nil)) (pe_one (pc0 isf hr (by decide) (pa_cons (pe_dget hu (pv 0) (pv 1) (fun _ _ => rfl)) pa_nil)))))) pa_nil)))), ?_⟩
    refine ⟨_, rfl, .ref a, .ty "dict", .type "dict", .type "dict", true, rfl, .ty _, .base (.dK da.1), kit_ty (by decide +kernel), _, rfl, iteF ?_⟩
    refine ⟨a, .dK kvs, da.1, trivial, fun od => ⟨_, rfl, a, od, rfl, .inl ⟨kvs, upd_same, fun D nD => ?_⟩⟩⟩
    have nDH : H D = none := by
      cases e : H D with
      | none => rfl
      | some o =>
        by_cases c : D = a
        · rw [c, upd_same] at nD
          cases nD
        · rw [upd_ne c, e] at nD
          cases nD
    have aD : a ≠ D := ne_of_none da.1 nDH
    refine lc_it walk_keys (fun i H' => H' D = some (.lst ((List.replicate i true).map V.bl)) ∧ H' a = some (.frz od (.dK kvs)) ∧ ∀ x o, x ≠ a → x ≠ D → H x = some o → H' x = some o)
      ⟨upd_same, by rw [upd_ne aD]; exact upd_same, fun x o n1 n2 e => by rw [upd_ne n2, upd_ne n1]; exact e⟩ (fun _ _ _ hW => hW.2.1) ?_ ?_
    · rintro i y H2 H' hi ⟨w1, w2, w3⟩ ⟨rfl, key, v, hkv, rfl⟩
      obtain ⟨⟨nx, e1, okx⟩, ⟨rv, e2, e3⟩, _⟩ := da.2.2.2.1 (key, v) (List.mem_of_getElem? hkv)
      have e2' : v = .ref rv := e2
      have e1' : key = .inr nx := e1
      subst e2' e1'
      have ev : valV kvs (.inr nx) = some (.ref rv) := val_nodup da.2.1 (.inr nx, .ref rv) (List.mem_of_getElem? hkv)
      have rva : rv ≠ a := fun c => by
        rw [c, da.1] at e3
        cases e3
      refine ⟨rfl, _, rfl, nx, rfl, okx, fun H3 s3 => ⟨_, rfl, iteT ?_⟩⟩
      have dg : DGet H3 a (kV (.inr nx)) (some (.ref rv)) := .inl ⟨kvs, .inr nx, .inr ⟨od, s3 _ _ w2⟩, rfl, ev.symm⟩
      refine ⟨_, rfl, _, rfl, a, _, rfl, dg, rv, _, _, rfl, FrT.of (s3 _ _ (w3 _ _ rva (ne_of_none e3 nDH) e3)), (ok _).1, (ok _).2.2.2, fun H4 s4 => ⟨_, s4 _ _ (s3 _ _ w1), ?_, ?_, ?_, ?_⟩⟩
      · rw [List.length_map, List.length_replicate]
        exact small1000 (by have := da.2.2.1; omega)
      · rw [upd_same, List.replicate_succ', List.map_append]
        rfl
      · rw [upd_ne aD]
        exact s4 _ _ (s3 _ _ w2)
      · intro x o n1 n2 e
        rw [upd_ne n2]
        exact s4 _ _ (s3 _ _ (w3 x o n1 n2 e))
    · rintro H' ⟨w1, w2, w3⟩
      refine ⟨w2, D, _, rfl, SqL.of (by rw [upd_ne aD.symm]; exact w1), ?_⟩
      rw [alls]
      refine q _ fun x o e => ?_
      by_cases c : x = a
      · subst c
        rw [upd_same, ← da.1]
        exact e
      · rw [upd_ne c]
        exact w3 x o c (ne_of_none e nDH) e
def spIsSum : Sp := fun vs H Q _ => ∃ (a : Addr) (kvs : List (Key × V)) (f : Key → Int × Int) (m B : Nat), vs = [.ref a] ∧ DM True m H a kvs f ∧ m ≤ 900 ∧ (∀ k, Okb B (f k)) ∧ ∀ H', Same H H' → Q (.bl true) H'
theorem scIsSum : FnScope ["_law_thing", "_law_key"] ["_law_thing"] (defScope sIsSum) := ⟨rfl, rfl, rfl, by decide +kernel, rfl, by decide +kernel, by decide +kernel⟩
theorem ok_issum {f' : Addr} {fd : FuncData} (F : Fun K "_law_is_sum" "_law_is_sum" sIsSum f' fd) (ma : mg "all" = none) (isp : Cl P w K mg base CX0 3 "_law_is_point" spIsPoint []) : FnOk P w K mg base CX0 4 f' fd ["_law_thing"] spIsSum := by
  refine F.ok scIsSum (fun vs H Q E h => ?_) (fun cdv A outer s H vs Q E hr h => ?_)
  · obtain ⟨_, _, _, _, _, rfl, _⟩ := h
    rfl
  · obtain ⟨a, kvs, f, m, B, rfl, da0, hm, ok, q⟩ := h
    have hu := hu_of hr
    refine ⟨_, pss_one (ps_ret (pe_and (pc0 isp hr (by decide) (pa_cons (pv 0) pa_nil)) (pe_one (pe_callB (cr_all rfl) (by rfl) ma boot_all (pa_cons
        (pe_lock (pe_lc (own := [("_law_key", 1)]) (g := gName 1) (tt := tYes) rfl scIsSum.nd (pi_keys (pv 0)) (blkOk_by (by rfl)) (fun _ _ _ _ _ => pg_name (i := 1) scIsSum.nd rfl (Or.inl rfl)) (fun _ _ _ _ _ => pts_nil)
          (fun _ _ _ _ _ => pe_cmpR op_ne (pe_ix (ix_tupK (K := K) rfl) (pe_dget hu (pv 0) (pv 1) (fun _ _ => rfl)) pe_int (fun _ _ => rfl)) pe_int (nomark _)))) pa_nil))))), ?_⟩
    refine ⟨_, rfl, a, kvs, f, True, m, B, rfl, da0, hm, ok, fun H0 s0 => ⟨_, rfl, iteT ?_⟩⟩
    have da := da0.same s0
    refine ⟨a, .dK kvs, da.1, trivial, fun od => ⟨_, rfl, a, od, rfl, .inl ⟨kvs, upd_same, fun D nD => ?_⟩⟩⟩
    have nDH : H0 D = none := by
      cases e : H0 D with
      | none => rfl
      | some o =>
        by_cases c : D = a
        · rw [c, upd_same] at nD
          cases nD
        · rw [upd_ne c, e] at nD
          cases nD
    have aD : a ≠ D := ne_of_none da.1 nDH
    refine lc_it walk_keys (fun i H' => H' D = some (.lst ((List.replicate i true).map V.bl)) ∧ H' a = some (.frz od (.dK kvs)) ∧ ∀ x o, x ≠ a → x ≠ D → H0 x = some o → H' x = some o)
      ⟨upd_same, by rw [upd_ne aD]; exact upd_same, fun x o n1 n2 e => by rw [upd_ne n2, upd_ne n1]; exact e⟩ (fun _ _ _ hW => hW.2.1) ?_ ?_
    · rintro i y H2 H' hi ⟨w1, w2, w3⟩ ⟨rfl, key, v, hkv, rfl⟩
      obtain ⟨⟨nx, e1, okx⟩, ⟨rv, e2, e3⟩, nz⟩ := da.2.2.2.1 (key, v) (List.mem_of_getElem? hkv)
      have e2' : v = .ref rv := e2
      have e1' : key = .inr nx := e1
      subst e2' e1'
      have ev : valV kvs (.inr nx) = some (.ref rv) := val_nodup da.2.1 (.inr nx, .ref rv) (List.mem_of_getElem? hkv)
      have rva : rv ≠ a := fun c => by
        rw [c, da.1] at e3
        cases e3
      have dg : DGet H' a (kV (.inr nx)) (some (.ref rv)) := .inl ⟨kvs, .inr nx, .inr ⟨od, w2⟩, rfl, ev.symm⟩
      have hn : (!decide (V.int (f (.inr nx)).1 = V.int 0)) = true := by
        rw [decide_eq_false fun c => nz trivial (V.int.inj c)]
        rfl
      refine ⟨rfl, _, rfl, _, rfl, a, _, rfl, dg, rv, _, 0, _, rfl, rfl, SqT.of (w3 _ _ rva (ne_of_none e3 nDH) e3), atI_nat (j := 0) rfl, rfl, _, w1, ?_, ?_, ?_, ?_⟩
      · rw [List.length_map, List.length_replicate]
        exact small1000 (by have := da.2.2.1; omega)
      · rw [upd_same, hn, List.replicate_succ', List.map_append]
        rfl
      · rw [upd_ne aD]
        exact w2
      · intro x o n1 n2 e
        rw [upd_ne n2]
        exact w3 x o n1 n2 e
    · rintro H' ⟨w1, w2, w3⟩
      refine ⟨w2, D, _, rfl, SqL.of (by rw [upd_ne aD.symm]; exact w1), ?_⟩
      rw [alls]
      refine q _ (s0.trans fun x o e => ?_)
      by_cases c : x = a
      · subst c
        rw [upd_same, ← da.1]
        exact e
      · rw [upd_ne c]
        exact w3 x o c (ne_of_none e nDH) e
end
end SS

namespace SS
open PySem PySem.Spec PyProof.Rows L2
theorem vals_refs : ∀ {rs : List Addr} {us : List Value}, Vals (rs.map V.ref) us → us = rs.map Value.ref
  | [], _, .nil => rfl
  | r :: rs, _, .cons h t => by
    have e : _ = Value.ref r := h
    rw [e, vals_refs t]
    rfl
/-- l != m, lists of the very same objects -/
def rNeS (K : PySem.W.Frag) : R2 := fun x y H Q => ∃ (p q : Addr) (rs : List Addr), x = .ref p ∧ y = .ref q ∧ SqL K H p (rs.map V.ref) ∧ SqL K H q (rs.map V.ref) ∧ Q (.bl false) H
theorem op_neS {X : Cx} (hu : X.A.units + 64 < cLine) : OpR X (compareOp .NotEq) (rNeS X.K) := by
  intro pins s σ H x y v u Q I rx ry h
  obtain ⟨p, r, rs, rfl, rfl, h1, h2, q⟩ := h
  obtain rfl : v = Value.ref p := rx
  obtain rfl : u = Value.ref r := ry
  obtain ⟨us, r1, p1, _⟩ := I.list h1
  obtain ⟨ws, r2, p2, _⟩ := I.list h2
  have e1 := vals_refs r1
  have e2 := vals_refs r2
  subst e1 e2
  refine SeqAt.RcNeAt.lists (e := fun _ => true) p1.isList p2.isList rfl (by omega) (fun j j1 j2 => SeqAt.EqAt.same _) X.prog X.w _ _ ?_
  refine ⟨.bl false, H, I, ?_, q⟩
  rw [show ((List.range (rs.map Value.ref).toArray.size).all fun _ => true) = true from List.all_eq_true.mpr fun _ _ => rfl]
  rfl
theorem PL.but {st c : Addr} {H H' : Hp} {rs : List Addr} {ps : List (Str × (Int × Int))} (h : PL H rs ps) (b : But st H H') (y : StA st c H) : PL H' rs ps := ⟨h.1, fun i r e => by
  obtain ⟨x, q, v, e1, e2, e3⟩ := h.2 i r e
  exact ⟨x, q, v, e1, b.tup y e2, b.tup y e3⟩⟩
/-- a list or a dict changes: the pairs stand -/
theorem PL.keep {H H' : Hp} {rs : List Addr} {ps : List (Str × (Int × Int))} (h : PL H rs ps) (k : ∀ r xs, H r = some (.tup xs) → H' r = some (.tup xs)) : PL H' rs ps := ⟨h.1, fun i r e => by
  obtain ⟨x, q, v, e1, e2, e3⟩ := h.2 i r e
  exact ⟨x, q, v, e1, k _ _ e2, k _ _ e3⟩⟩
theorem PL.snoc {H : Hp} {rs : List Addr} {ps : List (Str × (Int × Int))} {r q : Addr} {x : Str} {e : Int × Int} (h : PL H rs ps) (h1 : H r = some (.tup [.str x, .ref q])) (h2 : H q = some (.tup [.int e.1, .int e.2])) : PL H (rs ++ [r]) (ps ++ [(x, e)]) := by
  refine ⟨by rw [List.length_append, List.length_append, h.1]; rfl, fun i r' hi => ?_⟩
  by_cases c : i < rs.length
  · rw [List.getElem?_append_left c] at hi
    obtain ⟨x', q', v, e1, e2, e3⟩ := h.2 i r' hi
    refine ⟨x', q', v, ?_, e2, e3⟩
    rw [List.getElem?_append_left (by rw [← h.1]; exact c)]
    exact e1
  · have hl : i = rs.length := by
      have z := (List.getElem?_eq_some_iff.mp hi).1
      rw [List.length_append] at z
      have z' : i < rs.length + 1 := z
      omega
    rw [hl, List.getElem?_append_right (Nat.le_refl _), Nat.sub_self] at hi
    have e' : r = r' := Option.some.inj hi
    subst e'
    refine ⟨x, q, e, ?_, h1, h2⟩
    rw [hl, h.1, List.getElem?_append_right (Nat.le_refl _), Nat.sub_self]
    rfl
theorem keep_l {H : Hp} {l : Addr} {xs : List V} {o : HO} (hl : H l = some (.lst xs)) : ∀ r ys, H r = some (.tup ys) → (upd H l o) r = some (.tup ys) := fun r ys e => by
  rw [upd_ne fun c => ?_]
  · exact e
  · rw [c, hl] at e
    cases e
theorem keep_d {H : Hp} {l : Addr} {ks : List (Key × V)} {o : HO} (hl : H l = some (.dK ks)) : ∀ r ys, H r = some (.tup ys) → (upd H l o) r = some (.tup ys) := fun r ys e => by
  rw [upd_ne fun c => ?_]
  · exact e
  · rw [c, hl] at e
    cases e
theorem okb_turned {B : Nat} {e : Int × Int} (h : Okb B e) : Okb B (0 - e.1, e.2) := by
  obtain ⟨h1, h2, h3, h4⟩ := h
  have en : (0 - e.1).natAbs = e.1.natAbs := by omega
  refine ⟨h1, by rw [en]; exact h2, h3, ?_⟩
  show Nat.gcd (0 - e.1).natAbs e.2.natAbs = 1
  rw [en]
  exact h4
theorem tot_add {f : Key → Int × Int} {x : Str} {e : Int × Int} {B C : Nat} (hf : ∀ k, Okb B (f k)) (he : Okb C e) : ∀ k, tstep f (x, e) k = fplus (f k) (ftimes (if k = .inr x then e else (0, 1)) (1, 1)) := fun k => by
  show (if k = .inr x then fplus (f k) e else f k) = _
  by_cases c : k = .inr x
  · rw [if_pos c, if_pos c, ftimes_one he]
  · rw [if_neg c, if_neg c, zero_ftimes (B := 1) ⟨by decide, by decide, by decide, by decide⟩, fplus_zero (hf k)]
end SS

namespace SS
open PySem PySem.Spec PyProof.Rows L2
def nmOf : Key → Str
  | .inr x => x
  | .inl _ => ""
open Classical in
theorem fold_keys {f : Key → Int × Int} : ∀ {kvs : List (Key × V)}, (kvs.map (fun x : Key × V => x.1)).Nodup → (∀ p ∈ kvs, ∃ x, p.1 = .inr x) → ∀ (b : Key → Int × Int) (k : Key), ((kvs.map fun q => (nmOf q.1, f q.1)).foldl tstep b) k = if k ∈ kvs.map (fun x : Key × V => x.1) then fplus (b k) (f k) else b k
  | [], _, _, b, k => by
    rw [if_neg (by rw [List.map_nil]; exact List.not_mem_nil)]
    rfl
  | p :: r, hn, hx, b, k => by
    obtain ⟨n1, n2⟩ := List.nodup_cons.mp hn
    obtain ⟨x, ex⟩ := hx p List.mem_cons_self
    rw [List.map_cons, List.foldl_cons, fold_keys n2 (fun q hq => hx q (List.mem_cons_of_mem _ hq)), List.map_cons]
    have e1 : nmOf p.1 = x := by rw [ex]; rfl
    have et : ∀ k', tstep b (nmOf p.1, f p.1) k' = if k' = p.1 then fplus (b k') (f p.1) else b k' := fun k' => by
      rw [e1]
      show (if k' = .inr x then fplus (b k') (f p.1) else b k') = _
      rw [ex]
    rw [et k]
    by_cases c : k = p.1
    · subst c
      rw [if_neg n1, if_pos rfl, if_pos List.mem_cons_self]
    · rw [if_neg c]
      by_cases d : k ∈ r.map (fun x : Key × V => x.1)
      · rw [if_pos d, if_pos (List.mem_cons_of_mem _ d)]
      · rw [if_neg d, if_neg fun z => by
          rcases List.mem_cons.mp z with z | z
          · exact c z
          · exact d z]
theorem DM.out {z : Prop} {m : Nat} {H : Hp} {a : Addr} {kvs : List (Key × V)} {f : Key → Int × Int} (h : DM z m H a kvs f) {k : Key} (c : ¬ k ∈ kvs.map (·.1)) : f k = (0, 1) := by
  cases e : valV kvs k with
  | none => exact h.2.2.2.2 k e
  | some v => exact absurd (valV_in e) c
open Classical in
theorem tot_two {z z' : Prop} {m m' : Nat} {H H' : Hp} {a b : Addr} {kvs ls : List (Key × V)} {f g : Key → Int × Int} {B : Nat} (h : DM z m H a kvs f) (h' : DM z' m' H' b ls g) (hf : ∀ k, Okb B (f k)) (k : Key) :
    tot ((kvs.map fun q => (nmOf q.1, f q.1)) ++ (ls.map fun q => (nmOf q.1, g q.1))) k = fplus (f k) (g k) := by
  unfold tot
  rw [List.foldl_append, fold_keys h'.2.1 (fun p hp => let ⟨x, e, _⟩ := (h'.2.2.2.1 p hp).1; ⟨x, e⟩), fold_keys h.2.1 (fun p hp => let ⟨x, e, _⟩ := (h.2.2.2.1 p hp).1; ⟨x, e⟩)]
  have e1 : (if k ∈ kvs.map (·.1) then fplus (0, 1) (f k) else (0, 1)) = f k := by
    by_cases c : k ∈ kvs.map (·.1)
    · rw [if_pos c, zero_fplus (hf k)]
    · rw [if_neg c, h.out c]
  rw [e1]
  by_cases c : k ∈ ls.map (·.1)
  · rw [if_pos c]
  · rw [if_neg c, h'.out c, fplus_zero (hf k)]
theorem paired_at {F : Addr → Key × V → Prop} {ts : List Addr} {kvs : List (Key × V)} (h : Paired F ts kvs) : ts.length = kvs.length ∧ ∀ (i : Nat) (t : Addr), ts[i]? = some t → ∃ q, kvs[i]? = some q ∧ F t q := by
  induction h with
  | nil => exact ⟨rfl, fun i t e => by simp at e⟩
  | cons hd tl ih =>
    refine ⟨by rw [List.length_cons, List.length_cons, ih.1], fun i t e => ?_⟩
    match i, e with
    | 0, e =>
      have z := Option.some.inj e
      subst z
      exact ⟨_, rfl, hd⟩
    | i + 1, e => exact ih.2 i t e
theorem DM.pl {z : Prop} {m : Nat} {H : Hp} {a : Addr} {kvs : List (Key × V)} {f : Key → Int × Int} {ts : List Addr} (h : DM z m H a kvs f) (hp : Paired (fun (t : Addr) (q : Key × V) => H t = some (.tup [kV q.1, q.2])) ts kvs) : PL H ts (kvs.map fun q => (nmOf q.1, f q.1)) := by
  obtain ⟨e1, e2⟩ := paired_at hp
  refine ⟨by rw [List.length_map, e1], fun i t e => ?_⟩
  obtain ⟨q, hq, ht⟩ := e2 i t e
  obtain ⟨⟨x, ex, _⟩, ⟨r, er, hr⟩, _⟩ := h.2.2.2.1 q (List.mem_of_getElem? hq)
  refine ⟨x, r, f q.1, ?_, ?_, hr⟩
  · rw [List.getElem?_map, hq]
    show some (nmOf q.1, f q.1) = some (x, f q.1)
    rw [ex]
    rfl
  · rw [ht, ex, er]
    rfl
theorem PL.append {H : Hp} {rs rs' : List Addr} {ps ps' : List (Str × (Int × Int))} (h : PL H rs ps) (h' : PL H rs' ps') : PL H (rs ++ rs') (ps ++ ps') := by
  refine ⟨by rw [List.length_append, List.length_append, h.1, h'.1], fun i r hi => ?_⟩
  by_cases c : i < rs.length
  · rw [List.getElem?_append_left c] at hi
    obtain ⟨x, q, v, e1, e2, e3⟩ := h.2 i r hi
    refine ⟨x, q, v, ?_, e2, e3⟩
    rw [List.getElem?_append_left (by rw [← h.1]; exact c)]
    exact e1
  · rw [List.getElem?_append_right (by omega)] at hi
    obtain ⟨x, q, v, e1, e2, e3⟩ := h'.2 _ r hi
    refine ⟨x, q, v, ?_, e2, e3⟩
    rw [List.getElem?_append_right (by rw [← h.1]; omega), ← h.1]
    exact e1
theorem merge_nd : ∀ (more acc : List (Key × V)), ((acc ++ more).map (·.1)).Nodup → mergeK acc more = acc ++ more
  | [], acc, _ => by rw [List.append_nil]; rfl
  | p :: r, acc, h => by
    show mergeK (putK acc p.1 p.2) r = acc ++ p :: r
    have hn : valV acc p.1 = none := by
      cases e : valV acc p.1 with
      | none => rfl
      | some v =>
        rw [List.map_append] at h
        exact absurd rfl ((List.nodup_append.mp h).2.2 _ (valV_in e) _ List.mem_cons_self)
    rw [putK_new _ hn, merge_nd r (acc ++ [(p.1, p.2)]) (by rw [List.append_assoc]; exact h), List.append_assoc]
    rfl
theorem FrT.kept {K : PySem.W.Frag} {H H' : Hp} {a D p : Addr} {n d : Int} {kvs : List (Key × V)} (h : FrT K H p n d) (ha : H a = some (.dK kvs)) (nD : H D = none) (kp : ∀ x o, x ≠ a → x ≠ D → H x = some o → H' x = some o) : FrT K H' p n d := by
  obtain ⟨h1, h2⟩ := h
  rcases h1 with (h1 | ⟨o1, h1⟩) | ⟨o1, its, m, k1, k2, k3⟩
  · exact FrT.of (kp _ _ (fun z => by rw [z, ha] at h1; cases h1) (ne_of_none h1 nD) h1)
  · have e := kp _ _ (fun z => by rw [z, ha] at h1; cases h1) (ne_of_none h1 nD) h1
    exact ⟨.inl (.inr ⟨o1, e⟩), .fTuple e⟩
  · exact ⟨.inr ⟨o1, its, m, k1, k2, k3⟩, .kTuple k1 k2⟩
section
variable {P : Program} {w : World} {K : PySem.W.Frag} {mg : Str → Option Value} {base : Heap}
theorem keys_take {z : Prop} {m : Nat} {H : Hp} {a : Addr} {kvs : List (Key × V)} {f : Key → Int × Int} (h : DM z m H a kvs f) (i : Nat) : ((kvs.take i).map (fun x : Key × V => x.1)).Nodup ∧ ∀ p ∈ kvs.take i, ∃ x, p.1 = .inr x :=
  ⟨by rw [List.map_take]; exact h.2.1.sublist (List.take_sublist _ _), fun p hp => let ⟨x, e, _⟩ := (h.2.2.2.1 p (List.mem_of_mem_take hp)).1; ⟨x, e⟩⟩
open Classical in
/-- on the way, too, each number is nought, one of the summands, or their sum -/
theorem tot_way {z z' : Prop} {m m' : Nat} {H H' : Hp} {a b : Addr} {kvs ls : List (Key × V)} {f g : Key → Int × Int} {B : Nat} (h : DM z m H a kvs f) (h' : DM z' m' H' b ls g) (hf : ∀ k, Okb B (f k)) (hB : B ≤ 2900) (hs : ∀ k, Okb 2900 (fplus (f k) (g k))) (i : Nat) (k : Key) :
    Okb 2900 (tot (((kvs.map fun q => (nmOf q.1, f q.1)) ++ (ls.map fun q => (nmOf q.1, g q.1))).take i) k) := by
  have e1 : ∀ j, Okb 2900 (if k ∈ (kvs.take j).map (fun x : Key × V => x.1) then fplus (0, 1) (f k) else (0, 1)) := fun j => by
    by_cases c : k ∈ (kvs.take j).map (fun x : Key × V => x.1)
    · rw [if_pos c, zero_fplus (hf k)]
      exact (hf k).mono hB
    · rw [if_neg c]
      exact okb_zero 2899
  have e2 : (if k ∈ kvs.map (fun x : Key × V => x.1) then fplus (0, 1) (f k) else (0, 1)) = f k := by
    by_cases c : k ∈ kvs.map (fun x : Key × V => x.1)
    · rw [if_pos c, zero_fplus (hf k)]
    · rw [if_neg c, h.out c]
  rw [List.take_append, ← List.map_take, ← List.map_take]
  unfold tot
  rw [List.foldl_append, fold_keys (keys_take h' _).1 (keys_take h' _).2, fold_keys (keys_take h _).1 (keys_take h _).2]
  by_cases c : i < kvs.length
  · have e3 : i - (kvs.map fun q => (nmOf q.1, f q.1)).length = 0 := by
      rw [List.length_map]
      omega
    rw [e3, List.take_zero, if_neg (by rw [List.map_nil]; exact List.not_mem_nil)]
    exact e1 i
  · rw [List.take_of_length_le (l := kvs) (by omega), e2]
    split
    · exact hs k
    · exact (hf k).mono hB
def spSumPlus : Sp := fun vs H Q _ => ∃ (a b : Addr) (kvs ls : List (Key × V)) (f g : Key → Int × Int) (m l B : Nat), vs = [.ref a, .ref b] ∧ DM True m H a kvs f ∧ DM True l H b ls g ∧ (∀ k, Okb B (f k)) ∧ (∀ k, Okb B (g k)) ∧ m + l ≤ 400 ∧ (∀ k, Okb 2900 (fplus (f k) (g k))) ∧ B ≤ 2900 ∧
  ∀ H' c ks, Same H H' → H c = none → DM True (m + l) H' c ks (fun k => fplus (f k) (g k)) → Q (.ref c) H'
theorem scSumPlus : FnScope ["one", "other"] ["one", "other"] (defScope sSumPlus) := ⟨rfl, rfl, rfl, by decide +kernel, rfl, by decide +kernel, by decide +kernel⟩
theorem ok_sumplus {f' : Addr} {fd : FuncData} (F : Fun K "sum_plus" "sum_plus" sSumPlus f' fd) (mli : mg "list" = none) (su : Cl P w K mg base CX0 4 "sum_of" (spSumOf K) []) : FnOk P w K mg base CX0 5 f' fd ["one", "other"] spSumPlus := by
  refine F.ok scSumPlus (fun vs H Q E h => ?_) (fun cdv A outer s H vs Q E hr h => ?_)
  · obtain ⟨_, _, _, _, _, _, _, _, _, rfl, _⟩ := h
    rfl
  · obtain ⟨a, b, kvs, ls, f, g, m, l, B, rfl, da, db, okf, okg, hml, hB, hB2, q⟩ := h
    refine ⟨_, pss_one (ps_ret (pc0 su hr (by decide) (pa_cons (pe_op op_cat (LiI.pe_listItems rfl (pv 0) (by rfl) mli (by decide +kernel)) (LiI.pe_listItems rfl (pv 1) (by rfl) mli (by decide +kernel))) pa_nil))), ?_⟩
    refine ⟨_, rfl, a, kvs, rfl, da.1, fun H1 p1 ts1 s1 np1 _ _ hp1 pd1 => ?_⟩
    refine ⟨_, rfl, b, ls, rfl, s1 _ _ db.1, fun H2 p2 ts2 s2 np2 _ _ hp2 pd2 => ?_⟩
    have l1 := (paired_at pd1).1
    have l2 := (paired_at pd2).1
    have k1 : kvs.length ≤ m := da.2.2.1
    have k2 : ls.length ≤ l := db.2.2.1
    refine ⟨p1, p2, _, _, rfl, rfl, s2 _ _ hp1, hp2, ?_, fun L nL => ?_⟩
    · rw [List.length_map, List.length_map, l1, l2]
      exact Nat.le_of_lt (small1000 (by omega))
    · have s3 := same_new (o := .lst (ts1.map V.ref ++ ts2.map V.ref)) nL
      have S12 : Same H H2 := fun x o e => s2 _ _ (s1 _ _ e)
      have P1 : PL H2 ts1 (kvs.map fun q => (nmOf q.1, f q.1)) := ((da.same s1).pl pd1).same s2
      have P2 : PL H2 ts2 (ls.map fun q => (nmOf q.1, g q.1)) := (db.same S12).pl pd2
      have ln : ((kvs.map fun q => (nmOf q.1, f q.1)) ++ (ls.map fun q => (nmOf q.1, g q.1))).length ≤ m + l := by
        rw [List.length_append, List.length_map, List.length_map]
        omega
      refine ⟨L, ts1 ++ ts2, _, B, rfl, .inl (SqL.of (by rw [upd_same, List.map_append])), (P1.append P2).same s3, by omega, fun i k => tot_way da db okf hB2 hB i k, hB2, fun p' hp' => ?_, fun H4 c ks s4 nc dc => ?_⟩
      · rcases List.mem_append.mp hp' with z | z
        · obtain ⟨p, hp, rfl⟩ := List.mem_map.mp z
          obtain ⟨⟨x, ex, ox⟩, _⟩ := da.2.2.2.1 p hp
          refine ⟨?_, okf _⟩
          show NmOk (nmOf p.1)
          rw [ex]
          exact ox
        · obtain ⟨p, hp, rfl⟩ := List.mem_map.mp z
          obtain ⟨⟨x, ex, ox⟩, _⟩ := db.2.2.2.1 p hp
          refine ⟨?_, okg _⟩
          show NmOk (nmOf p.1)
          rw [ex]
          exact ox
      · exact q _ c ks ((S12.trans s3).trans s4) (S12.free (s3.free nc)) ((dc.mono ln).fn fun k => (tot_two da db okf k).symm)
def spSumTimes (K : PySem.W.Frag) : Sp := fun vs H Q _ => ∃ (a n : Addr) (kvs : List (Key × V)) (f : Key → Int × Int) (num : Int × Int) (m A B : Nat), vs = [.ref a, .ref n] ∧ DM True m H a kvs f ∧ FrT K H n num.1 num.2 ∧ (∀ k, Okb A (f k)) ∧ Okb B num ∧ m ≤ 400 ∧ A ≤ 2900 ∧ B ≤ 2900 ∧
  ∀ H' c ks, Same H H' → H c = none → DM True m H' c ks (fun k => ftimes (f k) num) → Q (.ref c) H'
theorem scSumTimes : FnScope ["one", "number", "unknown"] ["one", "number"] (defScope sSumTimes) := ⟨rfl, rfl, rfl, by decide +kernel, rfl, by decide +kernel, by decide +kernel⟩
theorem ok_sumtimes {f' : Addr} {fd : FuncData} (F : Fun K "sum_times" "sum_times" sSumTimes f' fd) (tm : Cl P w K mg base CX0 3 "times" (spTimes K) []) (wn : Cl P w K mg base CX0 1 "without_noughts" spWn []) : FnOk P w K mg base CX0 4 f' fd ["one", "number"] (spSumTimes K) := by
  refine F.ok scSumTimes (fun vs H Q E h => ?_) (fun cdv A outer s H vs Q E hr h => ?_)
  · obtain ⟨_, _, _, _, _, _, _, _, rfl, _⟩ := h
    rfl
  · obtain ⟨a, n, kvs, f, num, m, A', B', rfl, da, hn, okf, okn, hm, hA, hB, q⟩ := h
    have hu := hu_of hr
    refine ⟨_, pss_one (ps_ret (pc0 wn hr (by decide) (pa_cons (pe_lock (pe_dc (own := [("unknown", 2)]) (g := gName 2) (tt := tYes) rfl scSumTimes.nd (pi_keys (pv 0)) (blkOk_by (by rfl))
      (fun _ _ _ _ _ => pg_name (i := 2) scSumTimes.nd rfl (Or.inl rfl)) (fun _ _ _ _ _ => pts_nil)
      (fun _ _ _ _ _ => pv 2) (fun _ _ _ _ _ => pc0 tm hr (by decide) (pa_cons (pe_dget hu (pv 0) (pv 2) (fun _ _ => rfl)) (pa_cons (pv 1) pa_nil))))) pa_nil))), ?_⟩
    refine ⟨a, .dK kvs, da.1, trivial, fun od => ⟨_, rfl, a, od, rfl, .inl ⟨kvs, upd_same, fun D nD => ?_⟩⟩⟩
    have nDH : H D = none := by
      cases e : H D with
      | none => rfl
      | some o =>
        by_cases c : D = a
        · rw [c, upd_same] at nD
          cases nD
        · rw [upd_ne c, e] at nD
          cases nD
    have aD : a ≠ D := ne_of_none da.1 nDH
    have okt : ∀ k, Okb (A' + B') (ftimes (f k) num) := fun k => okb_times (okf k) okn
    refine ⟨fun i mm H' => ∃ ks g, i + mm = kvs.length ∧ (∀ x o, x ≠ a → x ≠ D → H x = some o → H' x = some o) ∧ H' a = some (.frz od (.dK kvs)) ∧ DM False i H' D ks g ∧ Upto (kvs.take i) (fun k => ftimes (f k) num) g,
      ⟨kvs.length, [], fun _ => (0, 1), by omega, fun x o n1 n2 e => by rw [upd_ne n2, upd_ne n1]; exact e, by rw [upd_ne aD]; exact upd_same, dm_new upd_same, fun k => ⟨fun z => absurd z List.not_mem_nil, fun _ => rfl⟩⟩, fun i mm H3 hW => ?_⟩
    obtain ⟨ks, g, em, kp, ha3, dm, up⟩ := hW
    have ml : kvs.length ≤ m := da.2.2.1
    by_cases hi : i < kvs.length
    · refine .inr ⟨⟨ha3, hi⟩, fun H' => ∃ ks g, (∀ x o, x ≠ a → x ≠ D → H x = some o → H' x = some o) ∧ H' a = some (.frz od (.dK kvs)) ∧ DM False (i + 1) H' D ks g ∧ Upto (kvs.take (i + 1)) (fun k => ftimes (f k) num) g, fun H' hN' => ?_, fun x H' hy => ?_⟩
      · obtain ⟨a1, a2, r1, r2, r3, r4⟩ := hN'
        exact ⟨mm - 1, by omega, a1, a2, by omega, r1, r2, r3, r4⟩
      · obtain ⟨rfl, key, v, hkv, rfl⟩ := hy
        obtain ⟨⟨nx, e1, okx⟩, ⟨rv, e2, e3⟩, _⟩ := da.2.2.2.1 (key, v) (List.mem_of_getElem? hkv)
        have e2' : v = .ref rv := e2
        have e1' : key = .inr nx := e1
        subst e2' e1'
        have ev : valV kvs (.inr nx) = some (.ref rv) := val_nodup da.2.1 (.inr nx, .ref rv) (List.mem_of_getElem? hkv)
        have rva : rv ≠ a := fun c => by
          rw [c, da.1] at e3
          cases e3
        have dg : DGet H' a (kV (.inr nx)) (some (.ref rv)) := .inl ⟨kvs, .inr nx, .inr ⟨od, ha3⟩, rfl, ev.symm⟩
        have o1 := okf (.inr nx)
        refine ⟨rfl, _, rfl, _, rfl, _, rfl, a, _, rfl, dg, _, rfl, (f (.inr nx)).1, (f (.inr nx)).2, num.1, num.2, ⟨rv, n, rfl, FrT.of (kp _ _ rva (ne_of_none e3 nDH) e3), hn.kept da.1 nDH kp, o1.1, okn.1, sm_mono o1.2.1 (by omega), sm_mono o1.2.2.1 (by omega), sm_mono okn.2.1 (by omega), sm_mono okn.2.2.1 (by omega), o1.2.2.2, okn.2.2.2⟩, fun r nr => ?_⟩
        have s4 := same_new (o := .tup [.int (ftimes (f (.inr nx)) num).1, .int (ftimes (f (.inr nx)) num).2]) nr
        have dm4 := dm.same s4
        refine ⟨ks, .inr nx, rfl, dm4.1, small1000 (by have := dm.2.2.1; omega), ?_⟩
        have dp := dm4.put (x := nx) (r := r) (v := ftimes (f (.inr nx)) num) okx upd_same (fun z => z.elim)
        refine ⟨_, _, ?_, ?_, dp, up.snoc hkv⟩
        · intro x o n1 n2 e
          rw [upd_ne n2]
          exact s4 _ _ (kp x o n1 n2 e)
        · rw [upd_ne aD]
          exact s4 _ _ ha3
    · have ei : kvs.take i = kvs := List.take_of_length_le (by omega)
      rw [ei] at up
      have fg : ∀ k, ftimes (f k) num = g k := fun k => by
        by_cases c : k ∈ kvs.map (·.1)
        · exact ((up k).1 c).symm
        · rw [(up k).2 c, da.out c, zero_ftimes okn]
      refine .inl ⟨⟨ha3, by omega⟩, ha3, ?_⟩
      have dmu := (dm.fn fg).unlock (o := .dK kvs) ha3 aD.symm
      have S : Same H (upd H3 a (.dK kvs)) := fun x o e => by
        by_cases c : x = a
        · subst c
          rw [upd_same, ← da.1]
          exact e
        · rw [upd_ne c]
          exact kp x o c (ne_of_none e nDH) e
      refine ⟨D, ks, fun k => ftimes (f k) num, m, A' + B', rfl, dmu.mono (by omega), by omega, okt, fun H5 c ks' s5 nc dc => q _ c ks' (S.trans s5) (S.free nc) dc⟩
def spWith : Sp := fun vs H Q _ => ∃ (a n : Addr) (x : Str) (kvs : List (Key × V)) (f : Key → Int × Int) (num : Int × Int), vs = [.ref a, .str x, .ref n] ∧ DM True 10 H a kvs f ∧ NmOk x ∧ H n = some (.tup [.int num.1, .int num.2]) ∧ num.1 ≠ 0 ∧
  ∀ H' c ks, Same H H' → H c = none → DM True 11 H' c ks (fun k => if k = .inr x then num else f k) → Q (.ref c) H'
def spOpp : Sp := fun vs H Q _ => ∃ (a : Addr) (kvs : List (Key × V)) (f : Key → Int × Int), vs = [.ref a] ∧ DM True 10 H a kvs f ∧
  ∀ H' c ks, Same H H' → H c = none → DM True 10 H' c ks (fun k => (0 - (f k).1, (f k).2)) → Q (.ref c) H'
theorem Paired.snocX {F : Addr → Key × V → Prop} {ts : List Addr} {ks : List (Key × V)} {t : Addr} {q : Key × V} (h : Paired F ts ks) (e : F t q) : Paired F (ts ++ [t]) (ks ++ [q]) := by
  induction h with
  | nil => exact .cons e .nil
  | cons hd tl ih => exact .cons hd ih
theorem Paired.impX {F G : Addr → Key × V → Prop} {ts : List Addr} {ks : List (Key × V)} (h : Paired F ts ks) (i : ∀ t q, F t q → G t q) : Paired G ts ks := by
  induction h with
  | nil => exact .nil
  | cons hd tl ih => exact .cons (i _ _ hd) ih
end
end SS

namespace SS
open PySem PySem.Spec PyProof.Rows L2
/-- what a drawn sum says -/
def pval (H : Hp) (ls : List (Key × V)) (k : Key) : Int × Int := match valV ls k with
  | some v => fval H v
  | none => (0, 1)
theorem DF.dm {k m : Nat} {H : Hp} {a : Addr} {kvs : List (Key × V)} (h : DF k m H a kvs) (z : NZ H kvs) : DM True m H a kvs (pval H kvs) := by
  refine ⟨h.1, h.2.1, h.2.2.1, fun p hp => ?_, fun y e => ?_⟩
  · obtain ⟨x, r, e1, e2, e3, e4⟩ := h.2.2.2 p hp
    have ev : pval H kvs p.1 = fval H p.2 := by
      unfold pval
      rw [val_nodup h.2.1 p hp]
    refine ⟨⟨x, e1, e2⟩, ⟨r, e3, ?_⟩, fun _ => ?_⟩
    · rw [ev, e3]
      exact e4.val.1
    · rw [ev]
      exact z p hp
  · unfold pval
    rw [e]
theorem DF.okp {k m : Nat} {H : Hp} {a : Addr} {kvs : List (Key × V)} (h : DF (k + 1) m H a kvs) (y : Key) : Okb (k + 1) (pval H kvs y) := by
  unfold pval
  cases e : valV kvs y with
  | none => exact okb_zero k
  | some v =>
    obtain ⟨p, hp, _, e2⟩ := mem_valV e
    obtain ⟨x, r, _, _, e3, e4⟩ := h.2.2.2 p hp
    rw [← e2, e3]
    exact e4.okb
theorem DM.but {z : Prop} {m : Nat} {H H' : Hp} {st c a : Addr} {kvs : List (Key × V)} {f : Key → Int × Int} (h : DM z m H a kvs f) (s : But st H H') (y : StA st c H) : DM z m H' a kvs f := by
  obtain ⟨h1, h2, h3, h4, h5⟩ := h
  refine ⟨s _ _ (fun e => ?_) h1, h2, h3, fun p hp => ?_, h5⟩
  · obtain ⟨i, n, ff, xs, g1, _⟩ := y
    rw [e, g1] at h1
    cases h1
  · obtain ⟨e1, ⟨r, e2, e3⟩, e4⟩ := h4 p hp
    exact ⟨e1, ⟨r, e2, s.tup y e3⟩, e4⟩
/-- another dict changes -/
theorem DM.upd {z : Prop} {m : Nat} {H : Hp} {a b : Addr} {kvs ks : List (Key × V)} {f : Key → Int × Int} {o : HO} (h : DM z m H a kvs f) (hb : H b = some (.dK ks)) (n : a ≠ b) : DM z m (upd H b o) a kvs f :=
  h.lk hb n fun x o nx e => by rw [upd_ne nx]; exact e
theorem cutTake4 {xs : List V} {d : Int} (h : 0 ≤ d) : cutV xs none (some d) = xs.take d.toNat := by
  obtain ⟨n, rfl⟩ := Int.eq_ofNat_of_zero_le h
  unfold cutV
  rw [HT.sIx_none, show HT.sIx xs.length xs.length (some (n : Int)) = min n xs.length from HT.sIx_nat xs.length xs.length n]
  show List.take (min n xs.length - 0) (xs.drop 0) = xs.take (n : Int).toNat
  rw [List.drop_zero, Nat.sub_zero, Int.toNat_natCast]
  by_cases c : n ≤ xs.length
  · rw [Nat.min_eq_left c]
  · rw [Nat.min_eq_right (by omega), List.take_length, List.take_of_length_le (by omega)]
theorem zz_ok : NmOk "zz" := by decide +kernel
theorem same_growX {H H1 : Hp} {p : Addr} {o : HO} (s : Same H H1) (n : H p = none) : Same H (upd H1 p o) := fun b x e => by
  rw [upd_ne (ne_of_none e n)]
  exact s b x e
end SS

namespace SS
/-! ### fractions as Lean's own rational numbers -/
def Lo (a : Int × Int) : Prop := 0 < a.2 ∧ Int.gcd a.1 a.2 = 1
def toQ (a : Int × Int) : Rat := Rat.divInt a.1 a.2
theorem toQ_fr {t b : Int} (h : b ≠ 0) : toQ (fr1 t b, fr2 t b) = Rat.divInt t b :=
  (Rat.divInt_eq_divInt_iff (Int.ne_of_gt (fr2_pos h)) h).mpr (fr_cross h)
theorem lo_fr {t b : Int} (h : b ≠ 0) : Lo (fr1 t b, fr2 t b) := ⟨fr2_pos h, fr_gcd h⟩
theorem Lo.nz {a b : Int × Int} (ha : 0 < a.2) (hb : 0 < b.2) : a.2 * b.2 ≠ 0 := Int.ne_of_gt (Int.mul_pos ha hb)
theorem toQ_plus {a b : Int × Int} (ha : 0 < a.2) (hb : 0 < b.2) : toQ (fplus a b) = toQ a + toQ b := by
  show toQ (fr1 _ _, fr2 _ _) = Rat.divInt a.1 a.2 + Rat.divInt b.1 b.2
  rw [toQ_fr (Lo.nz ha hb), Rat.divInt_add_divInt _ _ (Int.ne_of_gt ha) (Int.ne_of_gt hb)]
theorem toQ_times {a b : Int × Int} (ha : 0 < a.2) (hb : 0 < b.2) : toQ (ftimes a b) = toQ a * toQ b := by
  show toQ (fr1 _ _, fr2 _ _) = Rat.divInt a.1 a.2 * Rat.divInt b.1 b.2
  rw [toQ_fr (Lo.nz ha hb), Rat.divInt_mul_divInt]
theorem lo_plus {a b : Int × Int} (ha : 0 < a.2) (hb : 0 < b.2) : Lo (fplus a b) := lo_fr (Lo.nz ha hb)
theorem lo_times {a b : Int × Int} (ha : 0 < a.2) (hb : 0 < b.2) : Lo (ftimes a b) := lo_fr (Lo.nz ha hb)
theorem Okb.lo {k : Nat} {a : Int × Int} (h : Okb k a) : Lo a := ⟨h.1, h.2.2.2⟩
theorem lo_zero : Lo (0, 1) := ⟨by decide, by decide⟩
theorem toQ_zero : toQ (0, 1) = 0 := by
  show Rat.divInt 0 1 = 0
  exact Rat.zero_divInt 1
theorem toQ_one : toQ (1, 1) = 1 := by
  show Rat.divInt 1 1 = 1
  rfl
theorem dvd_cop {a b c : Int} (z : a ∣ b * c) (h : Int.gcd a b = 1) : a ∣ c := by
  rw [← Int.natAbs_dvd_natAbs] at z ⊢
  rw [Int.natAbs_mul] at z
  exact Nat.Coprime.dvd_of_dvd_mul_left h z
/-- in lowest terms there is one pair for a worth -/
theorem toQ_inj {a b : Int × Int} (ha : Lo a) (hb : Lo b) (h : toQ a = toQ b) : a = b := by
  have e : a.1 * b.2 = b.1 * a.2 := (Rat.divInt_eq_divInt_iff (Int.ne_of_gt ha.1) (Int.ne_of_gt hb.1)).mp h
  have d1 : a.2 ∣ b.2 := by
    have z : a.2 ∣ a.1 * b.2 := ⟨b.1, by rw [e, Int.mul_comm]⟩
    exact dvd_cop z (by rw [Int.gcd_comm]; exact ha.2)
  have d2 : b.2 ∣ a.2 := by
    have z : b.2 ∣ b.1 * a.2 := ⟨a.1, by rw [← e, Int.mul_comm]⟩
    exact dvd_cop z (by rw [Int.gcd_comm]; exact hb.2)
  have e2 : a.2 = b.2 := Int.dvd_antisymm (Int.le_of_lt ha.1) (Int.le_of_lt hb.1) d1 d2
  have e1 : a.1 = b.1 := by
    rw [e2] at e
    exact Int.eq_of_mul_eq_mul_right (Int.ne_of_gt hb.1) e
  exact Prod.ext e1 e2
theorem toQ_eq_iff {a b : Int × Int} (ha : Lo a) (hb : Lo b) : a = b ↔ toQ a = toQ b := ⟨fun e => e ▸ rfl, toQ_inj ha hb⟩
theorem toQ_lt_iff {a b : Int × Int} (ha : 0 < a.2) (hb : 0 < b.2) : a.1 * b.2 < b.1 * a.2 ↔ toQ a < toQ b := by
  have hx : ((a.2 : Int) : Rat) ≠ 0 := by
    intro e
    have : a.2 = 0 := by exact_mod_cast e
    omega
  have hy : ((b.2 : Int) : Rat) ≠ 0 := by
    intro e
    have : b.2 = 0 := by exact_mod_cast e
    omega
  have px : (0 : Rat) < ((a.2 : Int) : Rat) := by exact_mod_cast ha
  have py : (0 : Rat) < ((b.2 : Int) : Rat) := by exact_mod_cast hb
  have ea : toQ a * (a.2 : Rat) = (a.1 : Rat) := by
    unfold toQ
    rw [Rat.divInt_eq_div, Rat.div_mul_cancel hx]
  have eb : toQ b * (b.2 : Rat) = (b.1 : Rat) := by
    unfold toQ
    rw [Rat.divInt_eq_div, Rat.div_mul_cancel hy]
  have k1 : ((a.1 * b.2 : Int) : Rat) = toQ a * ((a.2 : Rat) * (b.2 : Rat)) := by
    rw [Rat.intCast_mul, ← ea]; grind
  have k2 : ((b.1 * a.2 : Int) : Rat) = toQ b * ((a.2 : Rat) * (b.2 : Rat)) := by
    rw [Rat.intCast_mul, ← eb]; grind
  have pp : (0 : Rat) < (a.2 : Rat) * (b.2 : Rat) := Rat.mul_pos px py
  rw [← Rat.mul_lt_mul_right pp, ← k1, ← k2]
  exact (Rat.intCast_lt_intCast).symm
/-! ### sums over keys -/
def sumQ {α : Type _} (F : α → Rat) (ks : List α) : Rat := ks.foldr (fun k r => F k + r) 0
theorem sumQ_perm {α : Type _} {F : α → Rat} {ks ls : List α} (h : ks.Perm ls) : sumQ F ks = sumQ F ls :=
  h.foldr_eq' (fun x _ y _ z => by grind) 0
theorem sumQ_filter {α : Type _} {F : α → Rat} {p : α → Bool} : ∀ {ks : List α}, (∀ k ∈ ks, p k = false → F k = 0) → sumQ F (ks.filter p) = sumQ F ks
  | [], _ => rfl
  | k :: ks, h => by
    have i := sumQ_filter (F := F) (p := p) (ks := ks) fun x hx => h x (.tail _ hx)
    cases e : p k with
    | true =>
      rw [List.filter_cons_of_pos e]
      show F k + sumQ F (ks.filter p) = F k + sumQ F ks
      rw [i]
    | false =>
      rw [List.filter_cons_of_neg (by rw [e]; decide), i]
      show sumQ F ks = F k + sumQ F ks
      rw [h k (.head _) e, Rat.zero_add]
open Classical in
/-- a sum over unlike keys hangs on what isn't nought alone -/
theorem sumQ_ext {α : Type _} {F : α → Rat} {ks ls : List α} (nk : ks.Nodup) (nl : ls.Nodup) (hk : ∀ k, k ∉ ks → F k = 0) (hl : ∀ k, k ∉ ls → F k = 0) : sumQ F ks = sumQ F ls := by
  let p : α → Bool := fun k => decide (F k ≠ 0)
  have z : ∀ k, p k = false → F k = 0 := fun k e => by
    have : ¬ (F k ≠ 0) := of_decide_eq_false e
    exact Classical.not_not.mp this
  have t : ∀ k, p k = true → F k ≠ 0 := fun k e => of_decide_eq_true e
  rw [← sumQ_filter (p := p) (ks := ks) fun k _ e => z k e, ← sumQ_filter (p := p) (ks := ls) fun k _ e => z k e]
  refine sumQ_perm ((List.perm_ext_iff_of_nodup (nk.sublist List.filter_sublist) (nl.sublist List.filter_sublist)).mpr fun k => ?_)
  rw [List.mem_filter, List.mem_filter]
  constructor
  · intro ⟨_, e⟩
    exact ⟨Classical.byContradiction fun n => t k e (hl k n), e⟩
  · intro ⟨_, e⟩
    exact ⟨Classical.byContradiction fun n => t k e (hk k n), e⟩
theorem sumQ_add {α : Type _} {F G : α → Rat} : ∀ ks : List α, sumQ (fun k => F k + G k) ks = sumQ F ks + sumQ G ks
  | [] => by show (0 : Rat) = 0 + 0; grind
  | k :: ks => by
    have i := sumQ_add (F := F) (G := G) ks
    show F k + G k + sumQ (fun k => F k + G k) ks = F k + sumQ F ks + (G k + sumQ G ks)
    rw [i]; grind
theorem sumQ_mul {α : Type _} {F : α → Rat} (c : Rat) : ∀ ks : List α, sumQ (fun k => F k * c) ks = sumQ F ks * c
  | [] => by show (0 : Rat) = 0 * c; grind
  | k :: ks => by
    have i := sumQ_mul (F := F) c ks
    show F k * c + sumQ (fun k => F k * c) ks = (F k + sumQ F ks) * c
    rw [i]; grind
theorem sumQ_congr {α : Type _} {F G : α → Rat} : ∀ {ks : List α}, (∀ k ∈ ks, F k = G k) → sumQ F ks = sumQ G ks
  | [], _ => rfl
  | k :: ks, h => by
    show F k + sumQ F ks = G k + sumQ G ks
    rw [h k (.head _), sumQ_congr fun x hx => h x (.tail _ hx)]
/-- a worth, taken key by key -/
def wof {α : Type _} (f g : α → Int × Int) (ks : List α) : Int × Int := ks.foldl (fun acc k => fplus acc (ftimes (f k) (g k))) (0, 1)
theorem wof_gen {α : Type _} {f g : α → Int × Int} (hf : ∀ k, Lo (f k)) (hg : ∀ k, Lo (g k)) : ∀ (ks : List α) (acc : Int × Int), Lo acc →
    Lo (ks.foldl (fun acc k => fplus acc (ftimes (f k) (g k))) acc) ∧ toQ (ks.foldl (fun acc k => fplus acc (ftimes (f k) (g k))) acc) = toQ acc + sumQ (fun k => toQ (f k) * toQ (g k)) ks
  | [], acc, h => ⟨h, by show toQ acc = toQ acc + 0; grind⟩
  | k :: ks, acc, h => by
    have t := lo_times (hf k).1 (hg k).1
    obtain ⟨i1, i2⟩ := wof_gen hf hg ks _ (lo_plus h.1 t.1)
    refine ⟨i1, ?_⟩
    show toQ (ks.foldl (fun acc k => fplus acc (ftimes (f k) (g k))) (fplus acc (ftimes (f k) (g k)))) = _
    rw [i2, toQ_plus h.1 t.1, toQ_times (hf k).1 (hg k).1]
    show _ = toQ acc + (toQ (f k) * toQ (g k) + sumQ (fun k => toQ (f k) * toQ (g k)) ks)
    grind
theorem wof_lo {α : Type _} {f g : α → Int × Int} (hf : ∀ k, Lo (f k)) (hg : ∀ k, Lo (g k)) (ks : List α) : Lo (wof f g ks) := (wof_gen hf hg ks _ lo_zero).1
theorem wof_q {α : Type _} {f g : α → Int × Int} (hf : ∀ k, Lo (f k)) (hg : ∀ k, Lo (g k)) (ks : List α) : toQ (wof f g ks) = sumQ (fun k => toQ (f k) * toQ (g k)) ks := by
  have e := (wof_gen hf hg ks _ lo_zero).2
  rw [toQ_zero, Rat.zero_add] at e
  exact e
open Classical in
/-- the worth of a sum of sums -/
theorem wof_plus {α : Type _} {f g h p : α → Int × Int} {ks ls ms : List α} (hf : ∀ k, Lo (f k)) (hg : ∀ k, Lo (g k)) (hh : ∀ k, Lo (h k)) (hp : ∀ k, Lo (p k))
    (nk : ks.Nodup) (nl : ls.Nodup) (nm : ms.Nodup) (ok : ∀ k, k ∉ ks → f k = (0, 1)) (ol : ∀ k, k ∉ ls → g k = (0, 1)) (om : ∀ k, k ∉ ms → h k = (0, 1)) (e : ∀ k, toQ (h k) = toQ (f k) + toQ (g k)) :
    wof h p ms = fplus (wof f p ks) (wof g p ls) := by
  have lf := wof_lo hf hp ks
  have lg := wof_lo hg hp ls
  refine toQ_inj (wof_lo hh hp ms) (lo_plus lf.1 lg.1) ?_
  rw [toQ_plus lf.1 lg.1, wof_q hh hp, wof_q hf hp, wof_q hg hp]
  let us := (ks ++ (ls.filter fun k => decide (k ∉ ks)))
  let vs := us ++ (ms.filter fun k => decide (k ∉ us))
  have nus : us.Nodup := List.nodup_append.mpr ⟨nk, nl.sublist List.filter_sublist, fun a ha b hb e => by
    subst e
    exact of_decide_eq_true (List.mem_filter.mp hb).2 ha⟩
  have nvs : vs.Nodup := List.nodup_append.mpr ⟨nus, nm.sublist List.filter_sublist, fun a ha b hb e => by
    subst e
    exact of_decide_eq_true (List.mem_filter.mp hb).2 ha⟩
  have iu : ∀ k, k ∉ us → k ∉ ks ∧ k ∉ ls := fun k n => ⟨fun c => n (List.mem_append_left _ c), fun c => n (by
    by_cases z : k ∈ ks
    · exact List.mem_append_left _ z
    · exact List.mem_append_right _ (List.mem_filter.mpr ⟨c, decide_eq_true z⟩))⟩
  have iv : ∀ k, k ∉ vs → k ∉ us ∧ k ∉ ms := fun k n => ⟨fun c => n (List.mem_append_left _ c), fun c => n (by
    by_cases z : k ∈ us
    · exact List.mem_append_left _ z
    · exact List.mem_append_right _ (List.mem_filter.mpr ⟨c, decide_eq_true z⟩))⟩
  have zz : ∀ {f' : α → Int × Int} {k : α}, f' k = (0, 1) → toQ (f' k) * toQ (p k) = 0 := fun e => by rw [e, toQ_zero, Rat.zero_mul]
  rw [sumQ_ext (F := fun k => toQ (h k) * toQ (p k)) nm nvs (fun k n => zz (om k n)) (fun k n => zz (om k (iv k n).2)),
    sumQ_ext (F := fun k => toQ (f k) * toQ (p k)) nk nvs (fun k n => zz (ok k n)) (fun k n => zz (ok k (iu k (iv k n).1).1)),
    sumQ_ext (F := fun k => toQ (g k) * toQ (p k)) nl nvs (fun k n => zz (ol k n)) (fun k n => zz (ol k (iu k (iv k n).1).2)),
    ← sumQ_add]
  exact sumQ_congr fun k _ => by rw [e k]; grind
/-- the worth of a sum so many times -/
theorem wof_times {α : Type _} {f h p : α → Int × Int} {n : Int × Int} {ks ms : List α} (hf : ∀ k, Lo (f k)) (hh : ∀ k, Lo (h k)) (hp : ∀ k, Lo (p k)) (hn : Lo n)
    (nk : ks.Nodup) (nm : ms.Nodup) (ok : ∀ k, k ∉ ks → f k = (0, 1)) (om : ∀ k, k ∉ ms → h k = (0, 1)) (e : ∀ k, toQ (h k) = toQ (f k) * toQ n) : wof h p ms = ftimes (wof f p ks) n := by
  have lf := wof_lo hf hp ks
  refine toQ_inj (wof_lo hh hp ms) (lo_times lf.1 hn.1) ?_
  rw [toQ_times lf.1 hn.1, wof_q hh hp, wof_q hf hp, ← sumQ_mul]
  have z0 : ∀ k, k ∉ ks → toQ (f k) * toQ (p k) * toQ n = 0 := fun k c => by rw [ok k c, toQ_zero]; grind
  rw [sumQ_ext (F := fun k => toQ (f k) * toQ (p k) * toQ n) (ks := ks) (ls := ms) nk nm z0 (fun k c => by
    have z : toQ (h k) = 0 := by rw [om k c, toQ_zero]
    have z2 := e k
    rw [z] at z2
    have : toQ (f k) * toQ (p k) * toQ n = (toQ (f k) * toQ n) * toQ (p k) := by grind
    rw [this, ← z2, Rat.zero_mul])]
  exact sumQ_congr fun k _ => by rw [e k]; grind
end SS

namespace SS
open PySem PySem.Spec PyProof.Rows L2
/-! ### worths of dicts that are functions -/
theorem wof_take {f g : Key → Int × Int} {kvs : List (Key × V)} {i : Nat} {p : Key × V} (h : kvs[i]? = some p) :
    wof f g ((kvs.take (i + 1)).map (·.1)) = fplus (wof f g ((kvs.take i).map (·.1))) (ftimes (f p.1) (g p.1)) := by
  unfold wof
  rw [List.take_add_one, h]
  show ((kvs.take i ++ [p]).map (·.1)).foldl _ (0, 1) = _
  rw [List.map_append, List.foldl_append]
  rfl
theorem wb_step {c i : Nat} (h : 2 ≤ c) : c * (i + 1) + (c - 2) + 1 ≤ c * (i + 1 + 1) := by
  have e : c * (i + 1 + 1) = c * (i + 1) + c := Nat.mul_succ ..
  omega
theorem wb_le {c i m : Nat} (h : i ≤ m) (hm : c * (m + 1) ≤ 3000) : c * (i + 1) ≤ 3000 := Nat.le_trans (Nat.mul_le_mul_left c (by omega)) hm
theorem wb_c {c m : Nat} (hm : c * (m + 1) ≤ 3000) : c ≤ 3000 := by
  have := wb_le (c := c) (i := 0) (Nat.zero_le m) hm
  omega
def Lk (a : Addr) (H H' : Hp) : Prop := ∀ b o, b ≠ a → H b = some o → H' b = some o
section
variable {P : Program} {w : World} {K : PySem.W.Frag} {mg : Str → Option Value} {base : Heap}
def spWorth (K : PySem.W.Frag) : Sp := fun vs H Q _ => ∃ (a b : Addr) (kvs ls : List (Key × V)) (f g : Key → Int × Int) (z z' : Prop) (m m' A B : Nat), vs = [.ref a, .ref b] ∧ DM z m H a kvs f ∧ DM z' m' H b ls g ∧
  (∀ k, Okb A (f k)) ∧ (∀ k, Okb B (g k)) ∧ (A + B + 2) * (m + 1) ≤ 3000 ∧ a ≠ b ∧
  ∀ H' r, Same H H' → FrT K H' r (wof f g (kvs.map (·.1))).1 (wof f g (kvs.map (·.1))).2 → Okb ((A + B + 2) * (m + 1)) (wof f g (kvs.map (·.1))) → Q (.ref r) H'
end
end SS

namespace SS
open PySem PySem.Spec PyProof.Rows L2
/-! ### dicts put together of pairs -/
def PM (H : Hp) (n : Nat) (kvs : List (Key × V)) (g : Key → Int × Int) : Prop := (kvs.map (·.1)).Nodup ∧ kvs.length ≤ n ∧
  (∀ p ∈ kvs, (∃ x, p.1 = .inr x ∧ NmOk x) ∧ (∃ r, p.2 = .ref r ∧ H r = some (.tup [.int (g p.1).1, .int (g p.1).2]))) ∧ ∀ k, valV kvs k = none → g k = (0, 1)
theorem PM.put {H : Hp} {n : Nat} {kvs : List (Key × V)} {g : Key → Int × Int} {x : Str} {r : Addr} {v : Int × Int} (h : PM H n kvs g) (hx : NmOk x) (hr : H r = some (.tup [.int v.1, .int v.2])) :
    PM H (n + 1) (putK kvs (.inr x) (.ref r)) (fun k => if k = .inr x then v else g k) := by
  obtain ⟨h2, h3, h4, h5⟩ := h
  have hv := valV_put kvs (.inr x) (y := .ref r)
  refine ⟨nd_put _ _ h2, Nat.le_trans (length_putK ..) (Nat.succ_le_succ h3), fun p hp => ?_, fun k e => ?_⟩
  · have e0 : valV (putK kvs (.inr x) (.ref r)) p.1 = some p.2 := val_nodup (nd_put _ _ h2) p hp
    rw [hv] at e0
    by_cases c : p.1 = .inr x
    · rw [if_pos c] at e0
      dsimp only
      rw [if_pos c]
      exact ⟨⟨x, c, hx⟩, ⟨r, (Option.some.inj e0).symm, hr⟩⟩
    · rw [if_neg c] at e0
      dsimp only
      rw [if_neg c]
      obtain ⟨q, hq, e1, e2⟩ := mem_valV e0
      obtain ⟨g1, ⟨r', g2, g3⟩⟩ := h4 q hq
      rw [e1] at g1 g3
      rw [e2] at g2
      exact ⟨g1, ⟨r', g2, g3⟩⟩
  · rw [hv] at e
    by_cases c : k = .inr x
    · rw [if_pos c] at e
      cases e
    · rw [if_neg c] at e
      show (if k = .inr x then v else g k) = (0, 1)
      rw [if_neg c]
      exact h5 k e
/-- a name and a fraction -/
def NF (B : Nat) (H : Hp) (p : Key × V) : Prop := ∃ (x : Str) (r : Addr) (v : Int × Int), p = (.inr x, .ref r) ∧ NmOk x ∧ H r = some (.tup [.int v.1, .int v.2]) ∧ Okb B v
theorem PM.merge {H : Hp} {B : Nat} : ∀ (ks acc : List (Key × V)) (n : Nat) (g : Key → Int × Int), PM H n acc g → (∀ k, Okb B (g k)) → (∀ p ∈ ks, NF B H p) → ∃ g', PM H (n + ks.length) (mergeK acc ks) g' ∧ ∀ k, Okb B (g' k)
  | [], acc, n, g, h, ok, _ => ⟨g, h, ok⟩
  | p :: ks, acc, n, g, h, ok, hp => by
    obtain ⟨x, r, v, rfl, hx, hr, hv⟩ := hp p (.head _)
    have h' := h.put hx hr
    obtain ⟨g', i1, i2⟩ := PM.merge ks _ _ _ h' (fun k => by
      by_cases c : k = .inr x
      · rw [if_pos c]
        exact hv
      · rw [if_neg c]
        exact ok k) fun q hq => hp q (.tail _ hq)
    refine ⟨g', ?_, i2⟩
    have e : n + (((.inr x, V.ref r) : Key × V) :: ks).length = n + 1 + ks.length := by
      rw [List.length_cons]
      omega
    rw [e]
    exact i1
theorem PM.new (H : Hp) : PM H 0 [] (fun _ => (0, 1)) := ⟨List.nodup_nil, Nat.le_refl _, fun p hp => absurd hp List.not_mem_nil, fun _ _ => rfl⟩
theorem PM.dm {H : Hp} {n : Nat} {kvs : List (Key × V)} {g : Key → Int × Int} {c : Addr} (h : PM H n kvs g) (nc : H c = none) : DM False n (upd H c (.dK kvs)) c kvs g := by
  obtain ⟨h2, h3, h4, h5⟩ := h
  refine ⟨upd_same, h2, h3, fun p hp => ?_, h5⟩
  obtain ⟨e1, r, e2, e3⟩ := h4 p hp
  exact ⟨e1, ⟨r, e2, same_new nc _ _ e3⟩, fun z => z.elim⟩
/-! ### what keeps tells -/
abbrev sorts : List Str := ["is", "most", "least", "below", "above"]
def keptB (s : Str) (W N : Rat) : Bool := if s = "is" then decide (W = N) else if s = "most" then decide (W ≤ N) else if s = "least" then decide (N ≤ W) else if s = "below" then decide (W < N) else decide (N < W)
theorem kept_is (W N : Rat) : keptB "is" W N = decide (W = N) := if_pos rfl
theorem kept_most (W N : Rat) : keptB "most" W N = decide (W ≤ N) := by
  unfold keptB
  rw [if_neg (by decide +kernel), if_pos rfl]
theorem kept_least (W N : Rat) : keptB "least" W N = decide (N ≤ W) := by
  unfold keptB
  rw [if_neg (by decide +kernel), if_neg (by decide +kernel), if_pos rfl]
theorem kept_below (W N : Rat) : keptB "below" W N = decide (W < N) := by
  unfold keptB
  rw [if_neg (by decide +kernel), if_neg (by decide +kernel), if_neg (by decide +kernel), if_pos rfl]
theorem kept_above (W N : Rat) : keptB "above" W N = decide (N < W) := by
  unfold keptB
  rw [if_neg (by decide +kernel), if_neg (by decide +kernel), if_neg (by decide +kernel), if_neg (by decide +kernel)]
theorem kept_all (W N : Rat) : keptB "is" W N = (keptB "most" W N && keptB "least" W N) ∧ keptB "below" W N = !keptB "least" W N ∧ keptB "above" W N = !keptB "most" W N := by
  rw [kept_is, kept_most, kept_least, kept_below, kept_above]
  refine ⟨?_, ?_, ?_⟩
  · rw [← Bool.decide_and]
    exact decide_eq_decide.mpr ⟨fun h => by rw [h]; exact ⟨Rat.le_refl, Rat.le_refl⟩, fun h => Rat.le_antisymm h.1 h.2⟩
  · rw [← decide_not]
    exact decide_eq_decide.mpr Rat.not_le.symm
  · rw [← decide_not]
    exact decide_eq_decide.mpr Rat.not_le.symm
section
variable {P : Program} {w : World} {K : PySem.W.Frag} {mg : Str → Option Value} {base : Heap}
def spRowOf (K : PySem.W.Frag) : Sp := fun vs H Q _ => ∃ (a n : Addr) (srt : Str) (kvs : List (Key × V)) (f : Key → Int × Int) (num : Int × Int), vs = [.ref a, .str srt, .ref n] ∧ DM True 10 H a kvs f ∧ FrT K H n num.1 num.2 ∧ srt ∈ sorts ∧
  (∀ k, Okb 2000 (f k)) ∧ Okb 2000 num ∧ ∀ H' r a' n' ks, Same H H' → H r = none → H a' = none → H' r = some (.tup [.ref a', .str srt, .ref n']) → DM True 10 H' a' ks f → FrT K H' n' num.1 num.2 → Q (.ref r) H'
def spKeeps (K : PySem.W.Frag) : Sp := fun vs H Q _ => ∃ (r a b n : Addr) (srt : Str) (kvs ls : List (Key × V)) (f g : Key → Int × Int) (num : Int × Int) (z z' : Prop) (m m' A B : Nat), vs = [.ref r, .ref b] ∧ H r = some (.tup [.ref a, .str srt, .ref n]) ∧
  DM z m H a kvs f ∧ DM z' m' H b ls g ∧ FrT K H n num.1 num.2 ∧ srt ∈ sorts ∧ (∀ k, Okb A (f k)) ∧ (∀ k, Okb B (g k)) ∧ Okb 3000 num ∧ (A + B + 2) * (m + 1) ≤ 3000 ∧ a ≠ b ∧
  ∀ H', Same H H' → Q (.bl (keptB srt (toQ (wof f g (kvs.map (·.1)))) (toQ num))) H'
end
end SS

namespace SS
open PySem PySem.Spec PyProof.Rows L2
section
variable {P : Program} {w : World} {K : PySem.W.Frag} {mg : Str → Option Value} {base : Heap}
/-! ### the law's own worth -/
theorem scLWorth : FnScope ["_law_one", "_law_point", "_law_worth_here", "_law_key"] ["_law_one", "_law_point"] (defScope sLWorth) := ⟨rfl, rfl, rfl, by decide +kernel, rfl, by decide +kernel, by decide +kernel⟩
theorem ok_lworth {f' : Addr} {fd : FuncData} (F : Fun K "_law_worth" "_law_worth" sLWorth f' fd) (pl : Cl P w K mg base CX0 3 "_law_plus" (spPlus K) []) (tm : Cl P w K mg base CX0 3 "_law_times" (spTimes K) []) :
    FnOk P w K mg base CX0 4 f' fd ["_law_one", "_law_point"] (spWorth K) := by
  refine F.ok scLWorth (fun vs H Q E h => ?_) (fun cdv A' outer s H vs Q E hr h => ?_)
  · obtain ⟨_, _, _, _, _, _, _, _, _, _, _, _, rfl, _⟩ := h
    rfl
  · obtain ⟨a, b, kvs, ls, f, g, z, z', m, m', A, B, rfl, da, db, okf, okg, hm, nab, q⟩ := h
    have hu := hu_of hr
    have wf : ∀ i, i ≤ m → (A + B + 2) * (i + 1) ≤ 3000 := fun i hi => wb_le hi hm
    have wc : A + B + 2 ≤ 3000 := wb_c hm
    refine ⟨_, pss_cons (ps_set (i := 2) scLWorth.nd rfl (.inl rfl) (pe_tup (pa_cons pe_int (pa_cons pe_int pa_nil))))
      (pss_cons (ps_lock (ps_for PassesOwn.never rfl (pi_keys (pv 0)) (pg_name (i := 3) scLWorth.nd rfl (.inl rfl))
        (pss_one (ps_set (i := 2) scLWorth.nd rfl (.inl rfl) (pc0 pl hr (by decide) (pa_cons (pv 2) (pa_cons (pc0 tm hr (by decide) (pa_cons (pe_dget hu (pv 0) (pv 3) (fun _ _ => rfl)) (pa_cons (pe_dget2 hu (pv 1) (pv 3) (pe_tup (pa_cons pe_int (pa_cons pe_int pa_nil))) ⟨rfl, rfl, rfl, rfl⟩) pa_nil))) pa_nil)))))))
      (pss_one (ps_ret (pv 2)))), ?_⟩
    refine ⟨small2, fun N0 nN0 => ?_⟩
    have s0 := same_new (o := .tup [.int 0, .int 1]) nN0
    have aN0 : a ≠ N0 := ne_of_none da.1 nN0
    have ha0 := s0 _ _ da.1
    refine ⟨a, .dK kvs, ha0, trivial, fun od => ?_⟩
    have l0 : Lk a H (upd (upd H N0 (.tup [.int 0, .int 1])) a (.frz od (.dK kvs))) := fun b' o nb e => by
      rw [upd_ne nb]
      exact s0 _ _ e
    have f1 : FrT K (upd (upd H N0 (.tup [.int 0, .int 1])) a (.frz od (.dK kvs))) N0 0 1 := FrT.of (by rw [upd_ne aN0.symm]; exact upd_same)
    refine ⟨_, rfl, a, od, rfl, .inl ⟨kvs, upd_same, ?_⟩⟩
    refine ⟨fun i n σ H' => ∃ (y3 : Option V) (r : Addr), σ = [some (.ref a), some (.ref b), some (.ref r), y3] ∧ i + n = kvs.length ∧ Lk a H H' ∧ H' a = some (.frz od (.dK kvs)) ∧
        FrT K H' r (wof f g ((kvs.take i).map (·.1))).1 (wof f g ((kvs.take i).map (·.1))).2 ∧ Okb ((A + B + 2) * (i + 1)) (wof f g ((kvs.take i).map (·.1))),
      ⟨kvs.length, none, N0, rfl, by omega, l0, upd_same, f1, (okb_zero (A + B + 1)).mono (by rw [Nat.zero_add, Nat.mul_one]; exact Nat.le_refl _)⟩, fun i n σ H3 hW => ?_⟩
    obtain ⟨y3, r, rfl, em, lk, ha3, fr, ok⟩ := hW
    have h6 : kvs.length ≤ m := da.2.2.1
    by_cases hi : i < kvs.length
    · refine .inr ⟨⟨ha3, hi⟩, fun σ' H' => ∃ (y3 : Option V) (r : Addr), σ' = [some (.ref a), some (.ref b), some (.ref r), y3] ∧ Lk a H H' ∧ H' a = some (.frz od (.dK kvs)) ∧
          FrT K H' r (wof f g ((kvs.take (i + 1)).map (·.1))).1 (wof f g ((kvs.take (i + 1)).map (·.1))).2 ∧ Okb ((A + B + 2) * (i + 1 + 1)) (wof f g ((kvs.take (i + 1)).map (·.1))), fun σ' H' hN' => ?_, fun x H' hy => ?_⟩
      · obtain ⟨a1, a3, r1, r2, r3, r4, r5⟩ := hN'
        exact ⟨n - 1, by omega, a1, a3, r1, by omega, r2, r3, r4, r5⟩
      · obtain ⟨rfl, k, v, hkv, rfl⟩ := hy
        obtain ⟨e1, ⟨rv, e2, e3⟩, e4⟩ := da.2.2.2.1 (k, v) (List.mem_of_getElem? hkv)
        have e2' : v = .ref rv := e2
        subst e2'
        have e3' : H rv = some (.tup [.int (f k).1, .int (f k).2]) := e3
        have ev : valV kvs k = some (.ref rv) := val_nodup da.2.1 (k, .ref rv) (List.mem_of_getElem? hkv)
        have hb3 := lk _ _ nab.symm db.1
        have okv : Okb A (f k) := okf k
        have okp : Okb B (g k) := okg k
        refine ⟨_, rfl, _, rfl, _, rfl, a, _, rfl, .inl ⟨kvs, k, .inr ⟨od, ha3⟩, rfl, ev.symm⟩, _, rfl, b, rfl, .inl ⟨ls, .inl hb3⟩, _, rfl, small2, fun N1 nN1 => ?_⟩
        have s4 := same_new (o := .tup [.int 0, .int 1]) nN1
        have fN1 : FrT K (upd H' N1 (.tup [.int 0, .int 1])) N1 0 1 := FrT.of upd_same
        have lk4 : Lk a H (upd H' N1 (.tup [.int 0, .int 1])) := fun b' o nb e => s4 _ _ (lk b' o nb e)
        have ha4 := s4 _ _ ha3
        have fr4 := fr.new s4
        generalize upd H' N1 (.tup [.int 0, .int 1]) = H4 at lk4 ha4 fr4 fN1 ⊢
        have db4 := db.lk da.1 nab.symm lk4
        have rva : rv ≠ a := fun c => by
          rw [c, da.1] at e3'
          cases e3'
        have fv4 : FrT K H4 rv (f k).1 (f k).2 := FrT.of (lk4 _ _ rva e3')
        obtain ⟨rp, ep, fp⟩ : ∃ rp, (valV ls k).getD (.ref N1) = .ref rp ∧ FrT K H4 rp (g k).1 (g k).2 := by
          cases e : valV ls k with
          | none =>
            rw [db4.2.2.2.2 k e]
            exact ⟨N1, rfl, fN1⟩
          | some v' =>
            obtain ⟨r', rfl, f'⟩ := db4.get e
            exact ⟨r', rfl, FrT.of f'⟩
        refine ⟨valV ls k, DGet.k (k := k) db4.1, ?_⟩
        refine ⟨(f k).1, (f k).2, (g k).1, (g k).2, ⟨rv, rp, by rw [ep]; rfl, fv4, fp, okv.1, okp.1, sm_mono okv.2.1 (by omega), sm_mono okv.2.2.1 (by omega), sm_mono okp.2.1 (by omega), sm_mono okp.2.2.1 (by omega), okv.2.2.2, okp.2.2.2⟩, fun r1 nr1 => ?_⟩
        have okt : Okb (A + B) (ftimes (f k) (g k)) := okb_times okv okp
        have s5 := same_new (o := .tup [.int (ftimes (f k) (g k)).1, .int (ftimes (f k) (g k)).2]) nr1
        have ok2 : Okb 3000 (wof f g ((kvs.take i).map (·.1))) := ok.mono (wf i (by omega))
        refine ⟨_, _, (ftimes (f k) (g k)).1, (ftimes (f k) (g k)).2, ⟨r, r1, rfl, fr4.new s5, FrT.of upd_same, ok.1, okt.1, ok2.2.1, ok2.2.2.1, sm_mono okt.2.1 (by omega), sm_mono okt.2.2.1 (by omega), ok.2.2.2, okt.2.2.2⟩, fun r2 nr2 => ?_⟩
        have es := wof_take (f := f) (g := g) hkv
        have s6 := same_new (o := .tup [.int (fplus (wof f g ((kvs.take i).map (·.1))) (ftimes (f k) (g k))).1, .int (fplus (wof f g ((kvs.take i).map (·.1))) (ftimes (f k) (g k))).2]) nr2
        refine ⟨_, r2, rfl, fun b' o nb e => s6 _ _ (s5 _ _ (lk4 b' o nb e)), s6 _ _ (s5 _ _ ha4), ?_, ?_⟩
        · rw [es]
          exact FrT.of upd_same
        · rw [es]
          exact (okb_plus ok okt).mono (wb_step (c := A + B + 2) (by omega))
    · have ei : kvs.take i = kvs := List.take_of_length_le (by omega)
      rw [ei] at fr ok
      refine .inl ⟨⟨ha3, by omega⟩, ha3, _, rfl, q _ r ?_ ?_ (ok.mono (Nat.mul_le_mul_left _ (by omega)))⟩
      · intro b' o e
        by_cases eb : b' = a
        · subst eb
          rw [upd_same, ← da.1]
          exact e
        · rw [upd_ne eb]
          exact lk b' o eb e
      · exact fr.unlock ha3
/-! ### less -/
def spLess (K : PySem.W.Frag) : Sp := fun vs H Q _ => ∃ n1 d1 n2 d2 : Int, Two K H vs n1 d1 n2 d2 ∧ Q (.bl (decide (n1 * d2 < n2 * d1))) H
end
end SS

namespace SS
open PySem PySem.Spec PyProof.Rows L2
theorem NF.keep {B : Nat} {H H' : Hp} {p : Key × V} (h : NF B H p) (k : ∀ r xs, H r = some (.tup xs) → H' r = some (.tup xs)) : NF B H' p := by
  obtain ⟨x, r, v, h1, h2, h3, h4⟩ := h
  exact ⟨x, r, v, h1, h2, k _ _ h3, h4⟩
theorem DM.keep {z : Prop} {m : Nat} {H H' : Hp} {a : Addr} {kvs : List (Key × V)} {f : Key → Int × Int} (h : DM z m H a kvs f) (ha : H' a = some (.dK kvs)) (k : ∀ r xs, H r = some (.tup xs) → H' r = some (.tup xs)) : DM z m H' a kvs f := by
  obtain ⟨_, h2, h3, h4, h5⟩ := h
  refine ⟨ha, h2, h3, fun p hp => ?_, h5⟩
  obtain ⟨e1, ⟨r, e2, e3⟩, e4⟩ := h4 p hp
  exact ⟨e1, ⟨r, e2, k _ _ e3⟩, e4⟩
theorem DM.st {z : Prop} {m : Nat} {H : Hp} {a st c : Addr} {kvs : List (Key × V)} {f : Key → Int × Int} (h : DM z m H a kvs f) (s : StA st c H) : a ≠ st := fun e => by
  obtain ⟨i, n, ff, xs, g1, _⟩ := s
  have h1 := h.1
  rw [e, g1] at h1
  cases h1
theorem wof_ext {α : Type _} {f g : α → Int × Int} {ks ls : List α} (hf : ∀ k, Lo (f k)) (hg : ∀ k, Lo (g k)) (nk : ks.Nodup) (nl : ls.Nodup) (ok : ∀ k, k ∉ ks → f k = (0, 1)) (ol : ∀ k, k ∉ ls → f k = (0, 1)) : wof f g ks = wof f g ls := by
  refine toQ_inj (wof_lo hf hg ks) (wof_lo hf hg ls) ?_
  rw [wof_q hf hg, wof_q hf hg]
  exact sumQ_ext nk nl (fun k n => by rw [ok k n, toQ_zero, Rat.zero_mul]) (fun k n => by rw [ol k n, toQ_zero, Rat.zero_mul])
def kd5 (h : Str → Bool) (l : List Str) : List (Key × V) := l.map fun s => (.inr s, .bl (h s))
theorem kd5_in {h : Str → Bool} {s : Str} : ∀ {l : List Str}, s ∈ l → valV (kd5 h l) (.inr s) = some (.bl (h s))
  | [], e => absurd e List.not_mem_nil
  | x :: l, e => by
    unfold valV kd5
    rw [List.map_cons]
    by_cases c : x = s
    · subst c
      rw [List.find?_cons_of_pos (by exact decide_eq_true rfl)]
      rfl
    · rw [List.find?_cons_of_neg (by
        intro z
        exact c (Sum.inr.inj (of_decide_eq_true z)))]
      exact kd5_in (l := l) ((List.mem_cons.mp e).resolve_left fun z => c z.symm)
theorem kd5_out {h : Str → Bool} {s : Str} : ∀ {l : List Str}, s ∉ l → valV (kd5 h l) (.inr s) = none
  | [], _ => rfl
  | x :: l, e => by
    unfold valV kd5
    rw [List.map_cons, List.find?_cons_of_neg (by
        intro z
        exact e (List.mem_cons.mpr (.inl (Sum.inr.inj (of_decide_eq_true z)).symm)))]
    exact kd5_out (l := l) fun z => e (List.mem_cons_of_mem _ z)
theorem sorts_out : ∀ i : Nat, i < 5 → ∀ s, sorts[i]? = some s → s ∉ sorts.take i := by decide +kernel
end SS

namespace SS
open PySem PySem.Spec PyProof.Rows L2
theorem kept_vals {W N : Int × Int} (hW : 0 < W.2) (hN : 0 < N.2) {lh mo : Bool} (e1 : decide (W.1 * N.2 < N.1 * W.2) = lh) (e2 : decide (N.1 * W.2 < W.1 * N.2) = mo) :
    ([(.inr "is", V.bl (!lh && !mo)), (.inr "most", .bl (!mo)), (.inr "least", .bl (!lh)), (.inr "below", .bl lh), (.inr "above", .bl mo)] : List (Key × V)) = kd5 (fun s => keptB s (toQ W) (toQ N)) sorts := by
  have l1 : keptB "below" (toQ W) (toQ N) = lh := by
    rw [kept_below, ← e1]
    exact decide_eq_decide.mpr (toQ_lt_iff hW hN).symm
  have l2 : keptB "above" (toQ W) (toQ N) = mo := by
    rw [kept_above, ← e2]
    exact decide_eq_decide.mpr (toQ_lt_iff hN hW).symm
  obtain ⟨ka, kb, kc⟩ := kept_all (toQ W) (toQ N)
  have l3 : keptB "least" (toQ W) (toQ N) = !lh := by rw [← l1, kb, Bool.not_not]
  have l4 : keptB "most" (toQ W) (toQ N) = !mo := by rw [← l2, kc, Bool.not_not]
  have l5 : keptB "is" (toQ W) (toQ N) = (!lh && !mo) := by rw [ka, l3, l4, Bool.and_comm]
  show _ = [((.inr "is" : Key), V.bl (keptB "is" (toQ W) (toQ N))), (.inr "most", .bl (keptB "most" (toQ W) (toQ N))), (.inr "least", .bl (keptB "least" (toQ W) (toQ N))), (.inr "below", .bl (keptB "below" (toQ W) (toQ N))), (.inr "above", .bl (keptB "above" (toQ W) (toQ N)))]
  rw [l1, l2, l3, l4, l5]
theorem sorts_nd : (sorts.map fun s => (.inr s : Key)).Nodup := by decide +kernel
theorem merge5 (b1 b2 b3 b4 b5 : Bool) : mergeK [] ([(.inr "is", V.bl b1), (.inr "most", .bl b2), (.inr "least", .bl b3), (.inr "below", .bl b4), (.inr "above", .bl b5)] : List (Key × V)) = [(.inr "is", V.bl b1), (.inr "most", .bl b2), (.inr "least", .bl b3), (.inr "below", .bl b4), (.inr "above", .bl b5)] :=
  merge_nd [(.inr "is", V.bl b1), (.inr "most", .bl b2), (.inr "least", .bl b3), (.inr "below", .bl b4), (.inr "above", .bl b5)] [] sorts_nd
section
variable {P : Program} {w : World} {K : PySem.W.Frag} {mg : Str → Option Value} {base : Heap}
end
end SS

namespace SS
open PySem PySem.Spec PyProof.Rows L2
section
variable {P : Program} {w : World} {K : PySem.W.Frag} {mg : Str → Option Value} {base : Heap}
/-! ### short fractions, whole points -/
def spShort (K : PySem.W.Frag) : Sp := fun vs H Q _ => ∃ (p : Addr) (N : Int × Int), vs = [.ref p] ∧ FrT K H p N.1 N.2 ∧ Okb 3000 N ∧ ∀ H' r (M : Int × Int), Same H H' → FrT K H' r M.1 M.2 → Okb 11 M → Q (.ref r) H'
theorem scShort : FnScope ["_law_number_here"] ["_law_number_here"] (defScope sShort) := ⟨rfl, rfl, rfl, by decide +kernel, rfl, by decide +kernel, by decide +kernel⟩
theorem okb_whole {i : Int} (h : i.natAbs < 2 ^ 11) : Okb 11 (i, 1) := ⟨(by show (0 : Int) < 1; decide), h, (by show (1 : Int).natAbs < 2 ^ 11; decide), Int.gcd_one_right i⟩
theorem ok_short {f' : Addr} {fd : FuncData} {k : Nat} (F : Fun K "_law_short" "_law_short" sShort f' fd) (ma : mg "abs" = none) : FnOk P w K mg base CX0 (k + 1) f' fd ["_law_number_here"] (spShort K) := by
  refine F.ok scShort (fun vs H Q E h => ?_) (fun cdv A' outer s H vs Q E hr h => ?_)
  · obtain ⟨_, _, rfl, _⟩ := h
    rfl
  · obtain ⟨p, N, rfl, fp, ok, q⟩ := h
    refine ⟨_, pss_cons (ps_if (PW.pt (pw_and (pt_cmpR op_lt (pe_callB call_abs (by rfl) ma boot_abs (pa_cons (pe_ix ix_tup (pv 0) pe_int (fun _ _ => rfl)) pa_nil)) pe_int (nomark _)) (pw_and1 (pt_cmpR op_lt (pe_ix ix_tup (pv 0) pe_int (fun _ _ => rfl)) pe_int (nomark _))))) (pss_one (ps_ret (pv 0))) pss_nil)
      (pss_one (ps_ret (pe_tup (pa_cons (pe_op op_sub (pe_op op_mod (pe_op op_fdivG (pe_ix ix_tup (pv 0) pe_int (fun _ _ => rfl)) (pe_ix ix_tup (pv 0) pe_int (fun _ _ => rfl))) pe_int) pe_int) (pa_cons pe_int pa_nil))))), ?_⟩
    have bad : ∀ {X : Prop}, X → X := fun h => h
    have tail : ∃ (v : Int), v = (N.1.fdiv N.2) % 1999 - 999 ∧ v.natAbs < 2 ^ 11 := ⟨_, rfl, by omega⟩
    obtain ⟨v, ev, bv⟩ := tail
    refine ⟨_, rfl, p, _, 0, _, rfl, rfl, fp.1, atI_nat (j := 0) rfl, _, rfl, _, 1000, rfl, rfl, _, rfl, ite2 (fun e => ?n1) (fun e => iteF ?ex1)⟩
    case' n1 => refine ⟨_, rfl, p, _, 1, _, rfl, rfl, fp.1, atI_nat (j := 1) rfl, _, 100, rfl, rfl, _, rfl, ite2 (fun e2 => ?y) (fun e2 => ?ex2)⟩
    case y =>
      have a1 : (if N.1 < 0 then -N.1 else N.1) < 1000 := of_decide_eq_true e
      have a2 : N.2 < 100 := of_decide_eq_true e2
      have a3 := ok.1
      have a4 : N.1.natAbs < 2048 := by
        split at a1 <;> omega
      refine ⟨_, rfl, q H p N (Same.refl _) fp ⟨ok.1, a4, ?_, ok.2.2.2⟩⟩
      show N.2.natAbs < 2048
      omega
    case ex1 | ex2 =>
      refine ⟨_, rfl, p, _, 0, _, rfl, rfl, fp.1, atI_nat (j := 0) rfl, _, rfl, p, _, 1, _, rfl, rfl, fp.1, atI_nat (j := 1) rfl, N.1, N.2, rfl, rfl, ⟨Int.ne_of_gt ok.1, logOf (by decide) ok.2.2.1 (by decide)⟩, _, 1999, rfl, rfl, (by show (0 : Int) < 1999; decide), _, 999, rfl, rfl, small2, fun r nr => ?_⟩
      refine q _ r (v, 1) (same_new nr) ?_ (okb_whole bv)
      rw [ev]
      exact FrT.of upd_same
def spSpoint : Sp := fun vs H Q _ => ∃ (st c u : Addr) (xs : List Str), vs = [.ref st, .ref u] ∧ StA st c H ∧ H u = some (.lst (xs.map V.str)) ∧ xs.length ≤ 9 ∧ (∀ x ∈ xs, NmOk x) ∧
  ∀ H' a kvs g, But st H H' → StA st c H' → H a = none → DM False 10 H' a kvs g → (∀ k, Okb 20 (g k)) → Q (.ref a) H'
theorem scSpoint : FnScope ["_law_state", "_law_unknowns", "_law_key"] ["_law_state", "_law_unknowns"] (defScope sSpoint) := ⟨rfl, rfl, rfl, by decide +kernel, rfl, by decide +kernel, by decide +kernel⟩
theorem ok_spoint {f' : Addr} {fd : FuncData} (F : Fun K "_law_some_point" "_law_some_point" sSpoint f' fd) (md : mg "dict" = none) (tk : Cl P w K mg base CX0 3 "_law_take" spTake []) : FnOk P w K mg base CX0 4 f' fd ["_law_state", "_law_unknowns"] spSpoint := by
  refine F.ok scSpoint (fun vs H Q E h => ?_) (fun cdv A' outer s H vs Q E hr h => ?_)
  · obtain ⟨_, _, _, _, rfl, _⟩ := h
    rfl
  · obtain ⟨st, c, u, xs, rfl, s5, hu5, xl, hx, q⟩ := h
    have us := strs_ne s5 hu5
    refine ⟨_, pss_one (ps_ret (pe_callTy (call_dictP rfl) (by rfl) md (by decide +kernel) (pa_cons (pe_lc (own := [("_law_key", 2)]) (g := gName 2) (tt := tYes) rfl scSpoint.nd (pi_list (pv 1)) (blkOk_by (by rfl))
          (fun _ _ _ _ _ => pg_name (i := 2) scSpoint.nd rfl (Or.inl rfl)) (fun _ _ _ _ _ => pts_nil)
          (fun _ _ _ _ _ => pe_tup (pa_cons (pv 2) (pa_cons (pe_tup (pa_cons (pe_op op_sub (pc0 tk hr (by decide) (pa_cons (pv 0) (pa_cons pe_int pa_nil))) pe_int) (pa_cons pe_int pa_nil))) pa_nil)))) pa_nil))), ?_⟩
    refine ⟨_, rfl, u, rfl, ⟨_, SqL.of hu5⟩, fun D nD => ?_⟩
    have Ds := s5.fresh nD
    have Dc := s5.fresh2 nD
    have uD : u ≠ D := ne_of_none hu5 nD
    refine lc_list (K := K) (a := u) (xs := xs.map V.str) (fun i H' => ∃ (ts : List Addr) (ks : List (Key × V)), H' D = some (.lst (ts.map V.ref)) ∧ StA st c H' ∧ (∀ x o, x ≠ st → x ≠ D → H x = some o → H' x = some o) ∧ ts.length ≤ i ∧
        Paired (fun (t : Addr) (q : Key × V) => H' t = some (.tup [kV q.1, q.2])) ts ks ∧ ∀ p ∈ ks, NF 20 H' p)
      ⟨[], [], upd_same, s5.other Ds Dc, fun x o _ n2 e => by rw [upd_ne n2]; exact e, Nat.le_refl _, .nil, fun p hp => absurd hp List.not_mem_nil⟩ (fun i H' _ ⟨_, _, _, _, w3, _⟩ => SqL.of (w3 _ _ us uD hu5)) ?_ ?_
    · rintro i y H6 hy ⟨ts, ks, w1, w2, w3, w4, w5, w6⟩
      have hi : i < 9 := by
        have z := (List.getElem?_eq_some_iff.mp hy).1
        rw [List.length_map] at z
        omega
      obtain ⟨x, hxi, rfl⟩ : ∃ x, x ∈ xs ∧ y = .str x := by
        rw [List.getElem?_map] at hy
        cases e : xs[i]? with
        | none =>
          rw [e] at hy
          cases hy
        | some x =>
          rw [e] at hy
          exact ⟨x, List.mem_of_getElem? e, (Option.some.inj hy).symm⟩
      refine ⟨rfl, _, rfl, _, rfl, st, c, 9, rfl, by decide, lt8 (by decide), w2, fun H7 d7 b7 s7 l7 u7 => ⟨d7, 4, rfl, rfl, small2, fun p np => ⟨small2, fun T nT => ?_⟩⟩⟩
      have sp := same_new (o := .tup [.int (d7 - 4), .int 1]) np
      have sT := same_new (o := .tup [.str x, .ref p]) nT
      have sB := sp.trans sT
      have hp9 := sT _ _ (upd_same (H := H7) (a := p) (o := .tup [.int (d7 - 4), .int 1]))
      have hT : (upd (upd H7 p (.tup [.int (d7 - 4), .int 1])) T (.tup [.str x, .ref p])) T = some (.tup [.str x, .ref p]) := upd_same
      generalize upd (upd H7 p (.tup [.int (d7 - 4), .int 1])) T (.tup [.str x, .ref p]) = H9 at sB hp9 hT ⊢
      have hD8 : H9 D = some (.lst (ts.map V.ref)) := sB _ _ (b7 _ _ Ds w1)
      have k8 : ∀ r ys, H6 r = some (.tup ys) → H9 r = some (.tup ys) := fun r ys e => sB _ _ (b7.tup w2 e)
      have s9 := s7.same sB
      have kD := keep_l (o := .lst (ts.map V.ref ++ [.ref T])) hD8
      refine ⟨_, hD8, ?_, ts ++ [T], ks ++ [(.inr x, .ref p)], ?_, s9.other Ds Dc, ?_, ?_, ?_, ?_⟩
      · rw [List.length_map]
        exact small1000 (by omega)
      · rw [upd_same, List.map_append]
        rfl
      · intro x' o n1 n2 e'
        rw [upd_ne n2]
        exact sB _ _ (b7 _ _ n1 (w3 _ _ n1 n2 e'))
      · rw [List.length_append]
        exact Nat.succ_le_succ w4
      · exact Paired.snocX (Paired.impX w5 fun t q' ht => kD _ _ (k8 _ _ ht)) (kD _ _ hT)
      · intro p' hp'
        rcases List.mem_append.mp hp' with z | z
        · exact (w6 p' z).keep fun r ys e' => kD _ _ (k8 _ _ e')
        · rw [List.mem_singleton.mp z]
          exact ⟨x, p, (d7 - 4, 1), rfl, hx x hxi, kD _ _ hp9, (okb_whole (by omega)).mono (by decide)⟩
    · rintro H6 ⟨ts, ks, w1, w2, w3, w4, w5, w6⟩
      refine ⟨D, ts, ks, rfl, SqL.of w1, Paired.impX w5 (fun t q' ht => SqT.of ht), fun Pt nPt => ?_⟩
      obtain ⟨g, pm, okg⟩ := PM.merge ks [] 0 _ (PM.new H6) (fun _ => okb_zero 19) w6
      have kl : ks.length ≤ 9 := by
        have z := (paired_at w5).1
        rw [List.length_map] at w4
        omega
      have DP : DM False 10 _ Pt _ g := (pm.dm nPt).mono (by omega)
      have sP := same_new (o := .dK (mergeK [] ks)) nPt
      refine q _ Pt _ g (fun x' o n1 e' => sP _ _ (w3 _ _ n1 (ne_of_none e' nD) e')) (w2.same sP) ?_ DP okg
      cases e : H Pt with
      | none => rfl
      | some o =>
        exfalso
        by_cases c1 : Pt = st
        · obtain ⟨i, n, ff, xs', g1, _⟩ := w2
          rw [c1, g1] at nPt
          cases nPt
        · have z := w3 _ _ c1 (ne_of_none e nD) e
          rw [nPt] at z
          cases z
end
end SS

namespace SS
open PySem PySem.Spec PyProof.Rows L2
section
variable {P : Program} {w : World} {K : PySem.W.Frag} {mg : Str → Option Value} {base : Heap}
theorem eqv_fr (a b : Int × Int) : PyData.eqv (.tuple [.int a.1, .int a.2]) (.tuple [.int b.1, .int b.2]) = decide (a = b) := by
  have e : PyData.eqv (.tuple [.int a.1, .int a.2]) (.tuple [.int b.1, .int b.2]) = (a.1 == b.1 && a.2 == b.2) := by
    simp [PyData.eqv, PyData.eqvAll]
  rw [e, Bool.eq_iff_iff, Bool.and_eq_true, beq_iff_eq, beq_iff_eq, decide_eq_true_iff]
  exact ⟨fun h => Prod.ext h.1 h.2, fun h => by rw [h]; exact ⟨rfl, rfl⟩⟩
end
end SS

namespace SS
open PySem PySem.Spec PyProof.Rows L2
/-! ### tables of generator expressions: all else stays -/
def Tabs (T : List Addr) (H : Hp) : Prop := ∀ P ∈ T, GxR.TabG H P
structure SameT (T : List Addr) (H H' : Hp) : Prop where
  ext : ∀ b o, H b = some o → (∀ ps, o ≠ .tbl ps) → H' b = some o
  tab : Tabs T H'
  free : ∀ {b}, H' b = none → H b = none
section
variable {T : List Addr} {H H1 H2 H' : Hp} {P : Addr}
theorem SameT.refl (h : Tabs T H) : SameT T H H := ⟨fun _ _ e _ => e, h, fun e => e⟩
theorem SameT.trans (a : SameT T H H1) (b : SameT T H1 H2) : SameT T H H2 := ⟨fun x o e n => b.ext x o (a.ext x o e n) n, b.tab, fun e => a.free (b.free e)⟩
theorem Tabs.same (h : Tabs T H) (s : Same H H') : Tabs T H' := fun P hP => by
  obtain ⟨ps, e, r⟩ := h P hP
  exact ⟨ps, s _ _ e, r⟩
theorem Tabs.but {st c : Addr} (h : Tabs T H) (s : But st H H') (y : StA st c H) : Tabs T H' := fun P hP => by
  obtain ⟨ps, e, r⟩ := h P hP
  refine ⟨ps, s _ _ (fun z => ?_) e, r⟩
  obtain ⟨i, n, f, xs, h1, _⟩ := y
  rw [z, h1] at e
  cases e
/-- an object that is no table changes -/
theorem Tabs.upd {a : Addr} {o u : HO} (h : Tabs T H) (ha : H a = some u) (nu : ∀ ps, u ≠ .tbl ps) : Tabs T (upd H a o) := fun P hP => by
  obtain ⟨ps, e, r⟩ := h P hP
  refine ⟨ps, ?_, r⟩
  rw [upd_ne fun z => ?_]
  · exact e
  · rw [z, ha] at e
    exact nu ps (Option.some.inj e)
theorem SameT.of (h : Tabs T H) (s : Same H H') : SameT T H H' := ⟨fun b o e _ => s b o e, h.same s, fun e => s.free e⟩
theorem SameT.tabbed (h : Tabs T H) (hP : GxR.TabG H P) (t : GxR.Tabbed P H H') : SameT T H H' := by
  refine ⟨fun b o e n => ?_, fun R hR => ?_, fun {b} e => ?_⟩
  · by_cases c : b = P
    · obtain ⟨ps, e', _⟩ := hP
      rw [c, e'] at e
      exact absurd (Option.some.inj e).symm (n ps)
    · rw [t.2 b c]
      exact e
  · by_cases c : R = P
    · rw [c]
      exact t.1
    · obtain ⟨ps, e, r⟩ := h R hR
      exact ⟨ps, by rw [t.2 R c]; exact e, r⟩
  · by_cases c : b = P
    · obtain ⟨⟨ps, e', _⟩, _⟩ := t
      rw [c, e'] at e
      cases e
    · rw [t.2 b c] at e
      exact e
/-- a dict is locked, and unlocked behind it -/
theorem SameT.unlock {a : Addr} {od : Obj} {kvs : List (Key × V)} (ha : H a = some (.dK kvs)) (s : SameT T (upd H a (.frz od (.dK kvs))) H') (ha' : H' a = some (.frz od (.dK kvs))) : SameT T H (upd H' a (.dK kvs)) := by
  refine ⟨fun b o e n => ?_, s.tab.upd ha' (fun ps z => by cases z), fun {b} e => ?_⟩
  · by_cases c : b = a
    · rw [c] at e ⊢
      rw [upd_same, ← ha]
      exact e
    · rw [upd_ne c]
      exact s.ext b o (by rw [upd_ne c]; exact e) n
  · by_cases c : b = a
    · rw [c, upd_same] at e
      cases e
    · rw [upd_ne c] at e
      have z := s.free e
      rw [upd_ne c] at z
      exact z
/-- tuples and lists stay -/
def KTL (H H' : Hp) : Prop := ∀ b xs, (H b = some (.tup xs) → H' b = some (.tup xs)) ∧ (H b = some (.lst xs) → H' b = some (.lst xs)) ∧ ∀ ob, H b = some (.frz ob (.tup xs)) → H' b = some (.frz ob (.tup xs))
theorem SameT.ktl (s : SameT T H H') : KTL H H' := fun b xs => ⟨fun e => s.ext _ _ e (fun ps z => by cases z), fun e => s.ext _ _ e (fun ps z => by cases z), fun ob e => s.ext _ _ e (fun ps z => by cases z)⟩
theorem KTL.trans (a : KTL H H1) (b : KTL H1 H2) : KTL H H2 := fun x xs => ⟨fun e => (b x xs).1 ((a x xs).1 e), fun e => (b x xs).2.1 ((a x xs).2.1 e), fun ob e => (b x xs).2.2 ob ((a x xs).2.2 ob e)⟩
theorem KTL.dict {a : Addr} {kvs : List (Key × V)} {o : HO} (ha : H a = some (.dK kvs)) : KTL H (upd H a o) := fun b xs => by
  have ne : ∀ u, H b = some u → (∀ ks, u ≠ .dK ks) → b ≠ a := fun u e n z => by
    rw [z, ha] at e
    exact n kvs (Option.some.inj e).symm
  refine ⟨fun e => ?_, fun e => ?_, fun ob e => ?_⟩ <;> rw [upd_ne (ne _ e fun ks z => by cases z)] <;> exact e
theorem SqT.ktl {K : PySem.W.Frag} {p : Addr} {xs : List V} (h : SqT K H p xs) (k : KTL H H') : SqT K H' p xs := by
  rcases h with (h | ⟨o, h⟩) | h
  · exact .inl (.inl ((k _ _).1 h))
  · exact .inl (.inr ⟨o, (k _ _).2.2 _ h⟩)
  · exact .inr h
theorem FrT.ktl {K : PySem.W.Frag} {p : Addr} {n d : Int} (h : FrT K H p n d) (s : KTL H H') : FrT K H' p n d := by
  obtain ⟨h1, h2⟩ := h
  rcases h1 with (h1 | ⟨o, h1⟩) | ⟨o, its, m, k1, k2, k3⟩
  · exact FrT.of ((s _ _).1 h1)
  · exact ⟨.inl (.inr ⟨o, (s _ _).2.2 _ h1⟩), .fTuple ((s _ _).2.2 _ h1)⟩
  · exact ⟨.inr ⟨o, its, m, k1, k2, k3⟩, .kTuple k1 k2⟩
theorem SqT.ty {K : PySem.W.Frag} {p : Addr} {xs : List V} (h : SqT K H p xs) : TyX K H (.ref p) (.type "tuple") := by
  rcases h with (h | ⟨o, h⟩) | ⟨o, its, n, k1, k2, k3⟩
  · exact .base (.tup h)
  · exact .fTuple h
  · exact .kTuple k1 k2
theorem DM.sameT {z : Prop} {m : Nat} {a : Addr} {kvs : List (Key × V)} {f : Key → Int × Int} (h : DM z m H a kvs f) (s : SameT T H H') : DM z m H' a kvs f := by
  obtain ⟨h1, h2, h3, h4, h5⟩ := h
  refine ⟨s.ext _ _ h1 (fun ps z => by cases z), h2, h3, fun p hp => ?_, h5⟩
  obtain ⟨e1, ⟨r, e2, e3⟩, e4⟩ := h4 p hp
  exact ⟨e1, ⟨r, e2, s.ext _ _ e3 (fun ps z => by cases z)⟩, e4⟩
end
/-! ### whole numbers, fractions, names of anything -/
/-- things that are no numbers: what they are -/
inductive Odd (K : PySem.W.Frag) (H : Hp) : V → String → Prop where
  | non : Odd K H .non "NoneType"
  | str (x : Str) : Odd K H (.str x) "str"
  | lst {p : Addr} {xs : List V} (h : H p = some (.lst xs)) : Odd K H (.ref p) "list"
  | tup {p : Addr} {xs : List V} (h : SqT K H p xs) : Odd K H (.ref p) "tuple"
  | dct {p : Addr} {ks : List (Key × V)} (h : H p = some (.dK ks)) : Odd K H (.ref p) "dict"
theorem Odd.ty {K : PySem.W.Frag} {H : Hp} {v : V} {t : String} (h : Odd K H v t) : TyX K H v (.type t) := by
  cases h with
  | non => exact .base .non
  | str x => exact .base (.str x)
  | lst h => exact .base (.lst h)
  | tup h => exact SqT.ty h
  | dct h => exact .base (.dK h)
def WhB (K : PySem.W.Frag) (H : Hp) (v : V) (b : Bool) : Prop := (∃ i, v = .int i ∧ b = true) ∨ (∃ t, v = .bl t ∧ b = false) ∨ ∃ t, Odd K H v t ∧ b = false
theorem odd_kit {K : PySem.W.Frag} {H : Hp} {v : V} {t : String} (h : Odd K H v t) : PySem.W.kitOne K (.type t) (.type "int") = some false := by
  cases h <;> exact kit_ty (by decide +kernel)
/-- is a fraction, by b; no dict is asked for its inside -/
def FracB (K : PySem.W.Frag) (H : Hp) (v : V) (b : Bool) : Prop :=
  (((∃ i, v = .int i) ∨ (∃ t, v = .bl t) ∨ v = .non ∨ (∃ x, v = .str x) ∨ ∃ p xs, v = .ref p ∧ H p = some (.lst xs)) ∧ b = false) ∨
  ∃ p xs, v = .ref p ∧ SqT K H p xs ∧ ((xs.length ≠ 2 ∧ b = false) ∨ ∃ x y, xs = [x, y] ∧ ((∃ n d, x = .int n ∧ y = .int d ∧ b = decide (1 ≤ d ∧ Int.gcd n d = 1)) ∨ (((∃ t, x = .bl t) ∨ ∃ n t, x = .int n ∧ y = .bl t) ∧ b = false)))
theorem FracB.ktl {K : PySem.W.Frag} {H H' : Hp} {v : V} {b : Bool} (h : FracB K H v b) (k : KTL H H') : FracB K H' v b := by
  rcases h with ⟨h, e⟩ | ⟨p, xs, e, h, r⟩
  · refine .inl ⟨?_, e⟩
    rcases h with h | h | h | h | ⟨p, xs, e1, e2⟩
    · exact .inl h
    · exact .inr (.inl h)
    · exact .inr (.inr (.inl h))
    · exact .inr (.inr (.inr (.inl h)))
    · exact .inr (.inr (.inr (.inr ⟨p, xs, e1, (k _ _).2.1 e2⟩)))
  · exact .inr ⟨p, xs, e, SqT.ktl h k, r⟩
theorem FracB.fr {K : PySem.W.Frag} {H : Hp} {p : Addr} {n d : Int} (h : FrT K H p n d) (hd : 0 < d) (hg : Int.gcd n d = 1) : FracB K H (.ref p) true :=
  .inr ⟨p, _, rfl, h.1, .inr ⟨_, _, rfl, .inl ⟨n, d, rfl, rfl, (decide_eq_true ⟨by omega, hg⟩).symm⟩⟩⟩
theorem abc_in : ∀ i : Nat, i ∈ abc.cps.toList → 97 ≤ i ∧ i ≤ 122 := by
  have h : ∀ i ∈ abc.cps.toList, 97 ≤ i ∧ i ≤ 122 := by decide +kernel
  exact h
section
variable {P : Program} {w : World} {K : PySem.W.Frag} {mg : Str → Option Value} {base : Heap}
/-- a def whose code object is known -/
theorem Fun.okC {x qual : Str} {st : Stmt} {f c : Addr} {fd : FuncData} {N ps : List Str} {k : Nat} {sp : Sp} (F : Fun K x qual st f fd) (hcode : fd.code = .ref c) (S : FnScope N ps (defScope st)) (len : ∀ vs H Q E, sp vs H Q E → vs.length = ps.length)
    (hbody : ∀ (cdv : Value) (A : Around) (outer : List Env) (s : Shared) (H : Hp) (vs : List V) (Q : VK) (E : XK), cdv = .ref c → Room k (A.deeper (envOfC qual (defScope st) s.heap.objs.size f cdv)) → sp vs H Q E →
      ∃ t, PSs (cxOf CX0 P w K mg base N qual (defScope st) f cdv A outer s H E).nox (defBody st) t ∧ t { nx := fun _ H' => Q .non H', rt := Q } (start N vs) H) : FnOk P w K mg base CX0 (k + 1) f fd ps sp := by
  obtain ⟨oc, od, kV, doc, pm, an, cdv, ct, osl, rfl, lk, hcd⟩ := F.ex
  have hc : cdv = .ref c := hcode
  refine fn_of lk hcd S len fun A outer s H vs Q E hr hsp => ?_
  obtain ⟨t, h, q⟩ := hbody cdv A outer s H vs Q E hc hr hsp
  exact ⟨t, h.nox, q⟩
/-- all(..) over a walk -/
theorem all_it {J : It} {n : Nat} {G : Hp → Prop} {Y : Nat → Hp → V → Hp → Prop} (w : L2.Walk J n G Y) {te : TE} {σ : L2.St} {ix : Nat} {Q : VK} {H1 : Hp} (Pv : Nat → Hp → Prop) (h0 : Pv 0 H1) (hG : ∀ i H, i ≤ n → Pv i H → G H)
    (hs : ∀ i x H H', i < n → Pv i H → Y i H x H' → te (σ.set ix (some x)) H' fun v H3 => ∃ b, v = .bl b ∧ (b = true → Pv (i + 1) H3) ∧ (b = false → Q (.bl false) H3)) (hd : ∀ H, Pv n H → Q (.bl true) H) :
    ∃ W : Nat → Nat → Hp → Prop, (∃ m, W 0 m H1) ∧ GxA.AllW J te σ ix Q W := by
  refine ⟨fun i m H => m = n - i ∧ i ≤ n ∧ Pv i H, ⟨n, by simp, Nat.zero_le _, h0⟩, ?_⟩
  rintro i m H ⟨rfl, hi, p⟩
  have q := hG i H hi p
  by_cases hlt : i < n
  · exact .inr ⟨w.goes i H hlt q, Pv (i + 1), fun H' p' => ⟨n - (i + 1), by omega, rfl, hlt, p'⟩, fun x H' y => hs i x H H' hlt p (w.yields i H x H' hlt q y)⟩
  · have e : i = n := by omega
    subst e
    exact .inl ⟨w.stops H q, hd H p⟩
def spFWhole (K : PySem.W.Frag) : Sp := fun vs H Q _ => ∃ v b, vs = [v] ∧ WhB K H v b ∧ Q (.bl b) H
theorem scFitsW : FnScope ["thing"] ["thing"] (defScope sFitsW) := ⟨rfl, rfl, rfl, by decide +kernel, rfl, by decide +kernel, by decide +kernel⟩
theorem ok_fitsw {f : Addr} {fd : FuncData} {k : Nat} (F : Fun K "fits_whole" "fits_whole" sFitsW f fd) (mi : mg "isinstance" = none) (mn : mg "int" = none) (mb : mg "bool" = none) : FnOk P w K mg base CX0 (k + 1) f fd ["thing"] (spFWhole K) := by
  refine F.ok scFitsW (fun vs H Q E h => ?_) (fun cdv A outer s H vs Q E hr h => ?_)
  · obtain ⟨a, b, rfl, _⟩ := h
    rfl
  · obtain ⟨v, b, rfl, hv, q⟩ := h
    refine ⟨_, pss_one (ps_ret (pe_and (pe_callB call_isi (by rfl) mi boot_isinstance (pa_cons (pv 0) (pa_cons (pe_bltn (v := .ty "int") (u := .type "int") (by rfl) mn (by decide +kernel) rfl) pa_nil)))
      (pe_one (pe_not (pe_callB call_isi (by rfl) mi boot_isinstance (pa_cons (pv 0) (pa_cons (pe_bltn (v := .ty "bool") (u := .type "bool") (by rfl) mb (by decide +kernel) rfl) pa_nil))))))), ?_⟩
    rcases hv with ⟨i, rfl, rfl⟩ | ⟨t, rfl, rfl⟩ | ⟨t, ho, rfl⟩
    · refine ⟨_, rfl, .int i, .ty "int", .type "int", .type "int", true, rfl, .ty _, .base (.int i), kit_ty (by decide +kernel), _, rfl, iteT ?_⟩
      exact ⟨_, rfl, .int i, .ty "bool", .type "int", .type "bool", false, rfl, .ty _, .base (.int i), kit_ty (by decide +kernel), _, rfl, q⟩
    · refine ⟨_, rfl, .bl t, .ty "int", .type "bool", .type "int", true, rfl, .ty _, .base (.bl t), kit_ty (by decide +kernel), _, rfl, iteT ?_⟩
      exact ⟨_, rfl, .bl t, .ty "bool", .type "bool", .type "bool", true, rfl, .ty _, .base (.bl t), kit_ty (by decide +kernel), _, rfl, q⟩
    · exact ⟨_, rfl, v, .ty "int", .type t, .type "int", false, rfl, .ty _, ho.ty, odd_kit ho, _, rfl, iteF q⟩
def spFFrac (K : PySem.W.Frag) : Sp := fun vs H Q _ => ∃ v b, vs = [v] ∧ FracB K H v b ∧ Q (.bl b) H
theorem scFitsF : FnScope ["thing", "top", "bottom"] ["thing"] (defScope sFitsF) := ⟨rfl, rfl, rfl, by decide +kernel, rfl, by decide +kernel, by decide +kernel⟩
theorem ok_fitsf {f : Addr} {fd : FuncData} {k : Nat} (F : Fun K "fits_fraction" "fits_fraction" sFitsF f fd) (mi : mg "isinstance" = none) (mt : mg "tuple" = none) (ml : mg "len" = none) (fw : Cl P w K mg base CX0 1 "fits_whole" (spFWhole K) []) (cd : Cl P w K mg base CX0 1 "common_divisor" spGcd []) :
    FnOk P w K mg base CX0 2 f fd ["thing"] (spFFrac K) := by
  refine F.ok scFitsF (fun vs H Q E h => ?_) (fun cdv A outer s H vs Q E hr h => ?_)
  · obtain ⟨a, b, rfl, _⟩ := h
    rfl
  · obtain ⟨v, b, rfl, hv, q⟩ := h
    refine ⟨_, pss_cons (ps_if (PW.pt (pw_or (pt_not (pt_val (pe_callB call_isi (by rfl) mi boot_isinstance (pa_cons (pv 0) (pa_cons (pe_bltn (v := .ty "tuple") (u := .type "tuple") (by rfl) mt (by decide +kernel) rfl) pa_nil)))))
        (pw_or1 (pt_cmpR op_ne (pe_callB call_len_seq (by rfl) ml PySem.boot_len (pa_cons (pv 0) pa_nil)) pe_int (nomark _))))) (pss_one (ps_ret pe_bl)) pss_nil)
      (pss_cons (ps_asg (pv 0) (pg_tup rfl (pgs_cons (pg_name (i := 1) scFitsF.nd rfl (.inl rfl)) (pgs_cons (pg_name (i := 2) scFitsF.nd rfl (.inl rfl)) pgs_nil))))
      (pss_cons (ps_if (PW.pt (pw_or (pt_not (pt_val (pc0 fw hr (by decide) (pa_cons (pv 1) pa_nil)))) (pw_or1 (pt_not (pt_val (pc0 fw hr (by decide) (pa_cons (pv 2) pa_nil))))))) (pss_one (ps_ret pe_bl)) pss_nil)
      (pss_one (ps_ret (pe_and (pe_cmpR op_ge (pv 2) pe_int (nomark _)) (pe_one (pe_cmpR op_eq (pc0 cd hr (by decide) (pa_cons (pv 1) (pa_cons (pv 2) pa_nil))) pe_int (nomark _)))))))), ?_⟩
    rcases hv with ⟨hv, rfl⟩ | ⟨p, xs, rfl, hs, hv⟩
    · have hk : ∃ t, TyX K H v (.type t) ∧ PySem.W.kitOne K (.type t) (.type "tuple") = some false := by
        rcases hv with ⟨i, rfl⟩ | ⟨t, rfl⟩ | rfl | ⟨x, rfl⟩ | ⟨p, xs, rfl, e⟩
        · exact ⟨_, .base (.int i), kit_ty (by decide +kernel)⟩
        · exact ⟨_, .base (.bl t), kit_ty (by decide +kernel)⟩
        · exact ⟨_, .base .non, kit_ty (by decide +kernel)⟩
        · exact ⟨_, .base (.str x), kit_ty (by decide +kernel)⟩
        · exact ⟨_, .base (.lst e), kit_ty (by decide +kernel)⟩
      obtain ⟨t, h1, h2⟩ := hk
      exact ⟨_, rfl, v, .ty "tuple", .type t, .type "tuple", false, rfl, .ty _, h1, h2, _, rfl, iteT q⟩
    · refine ⟨_, rfl, .ref p, .ty "tuple", .type "tuple", .type "tuple", true, rfl, .ty _, SqT.ty hs, kit_ty (by decide +kernel), _, rfl, iteF ?_⟩
      rcases hv with ⟨hl, rfl⟩ | ⟨x, y, rfl, hv⟩
      · refine ⟨_, rfl, p, _, rfl, .inr hs, rfl, true, ?_, iteT q⟩
        refine congrArg V.bl ?_
        rw [decide_eq_false fun z => hl (by have := V.int.inj z; omega)]
        rfl
      · refine ⟨_, rfl, p, _, rfl, .inr hs, rfl, false, rfl, iteF ?_⟩
        refine ⟨_, rfl, p, _, rfl, hs, rfl, _, _, rfl, _, _, rfl, rfl, ?_⟩
        rcases hv with ⟨n, d, rfl, rfl, rfl⟩ | ⟨hv, rfl⟩
        · refine ⟨_, rfl, _, true, rfl, .inl ⟨n, rfl, rfl⟩, _, rfl, iteF ?_⟩
          refine ⟨_, rfl, _, true, rfl, .inl ⟨d, rfl, rfl⟩, _, rfl, iteF ?_⟩
          refine ⟨_, rfl, d, 1, rfl, rfl, _, rfl, ?_⟩
          by_cases c : (1 : Int) ≤ d
          · rw [decide_eq_true c]
            refine iteT ⟨_, rfl, _, rfl, n, d, rfl, rfl, ?_⟩
            have e : decide (1 ≤ d ∧ Int.gcd n d = 1) = decide (V.int ((Int.gcd n d : Nat) : Int) = V.int 1) := decide_eq_decide.mpr ⟨fun z => by rw [z.2]; rfl, fun z => ⟨c, by have := V.int.inj z; omega⟩⟩
            rw [e] at q
            exact q
          · rw [decide_eq_false c]
            rw [decide_eq_false fun z => c z.1] at q
            exact iteF q
        · rcases hv with ⟨t, rfl⟩ | ⟨n, t, rfl, rfl⟩
          · exact ⟨_, rfl, _, false, rfl, .inr (.inl ⟨t, rfl, rfl⟩), _, rfl, iteT q⟩
          · refine ⟨_, rfl, _, true, rfl, .inl ⟨n, rfl, rfl⟩, _, rfl, iteF ?_⟩
            exact ⟨_, rfl, _, false, rfl, .inr (.inl ⟨t, rfl, rfl⟩), _, rfl, iteT q⟩
/-- is a name, by b -/
def NmB (K : PySem.W.Frag) (H : Hp) (v : V) (b : Bool) : Prop := (∃ x : Str, v = .str x ∧ x.length ≤ 1000 ∧ b = decide (NmOk x)) ∨ (((∃ i, v = .int i) ∨ v = .non ∨ ∃ p xs, v = .ref p ∧ SqT K H p xs) ∧ b = false)
def spFUnk (K : PySem.W.Frag) (T : List Addr) : Sp := fun vs H Q _ => ∃ v b, vs = [v] ∧ NmB K H v b ∧ Tabs T H ∧ ∀ H', SameT T H H' → Q (.bl b) H'
end
end SS

namespace SS
open PySem PySem.Spec PyProof.Rows L2
/-- an entry of a sum, by b -/
def EntB (K : PySem.W.Frag) (H : Hp) (p : Key × V) (b : Bool) : Prop :=
  (∃ x : Str, p.1 = .inr x ∧ x.length ≤ 1000 ∧ ¬ NmOk x ∧ b = false) ∨ (∃ i, p.1 = .inl i ∧ b = false) ∨
  ∃ x, p.1 = .inr x ∧ NmOk x ∧ ((FracB K H p.2 false ∧ b = false) ∨ ∃ r n d, p.2 = .ref r ∧ FrT K H r n d ∧ 0 < d ∧ Int.gcd n d = 1 ∧ b = decide (n ≠ 0))
theorem EntB.ktl {K : PySem.W.Frag} {H H' : Hp} {p : Key × V} {b : Bool} (h : EntB K H p b) (k : KTL H H') : EntB K H' p b := by
  rcases h with h | h | ⟨x, e, hx, h⟩
  · exact .inl h
  · exact .inr (.inl h)
  · refine .inr (.inr ⟨x, e, hx, ?_⟩)
    rcases h with ⟨h, e⟩ | ⟨r, n, d, e1, e2, e3⟩
    · exact .inl ⟨h.ktl k, e⟩
    · exact .inr ⟨r, n, d, e1, e2.ktl k, e3⟩
/-- is a sum, by b -/
def SumB (K : PySem.W.Frag) (H : Hp) (v : V) (b : Bool) : Prop :=
  ((v = .non ∨ (∃ i, v = .int i) ∨ (∃ x, v = .str x) ∨ (∃ p xs, v = .ref p ∧ H p = some (.lst xs)) ∨ ∃ p xs, v = .ref p ∧ SqT K H p xs) ∧ b = false) ∨
  ∃ a kvs bs, v = .ref a ∧ H a = some (.dK kvs) ∧ (kvs.map (·.1)).Nodup ∧ kvs.length ≤ 900 ∧ Paired (EntB K H) kvs bs ∧ b = bs.all id
theorem paired_get {α β : Type} {F : α → β → Prop} {l : List α} {m : List β} (h : Paired F l m) : l.length = m.length ∧ ∀ (i : Nat) (x : α), l[i]? = some x → ∃ y, m[i]? = some y ∧ F x y := by
  induction h with
  | nil => exact ⟨rfl, fun i x e => by simp at e⟩
  | cons hd tl ih =>
    refine ⟨by rw [List.length_cons, List.length_cons, ih.1], fun i x e => ?_⟩
    match i, e with
    | 0, e =>
      have z := Option.some.inj e
      subst z
      exact ⟨_, rfl, hd⟩
    | i + 1, e => exact ih.2 i x e
theorem nmlen {x : Str} (h : NmOk x) : x.length ≤ 1000 := by
  have e : x.length = x.cps.toList.length := by
    rw [Array.length_toList]
    rfl
  have := h.2.1
  omega
/-- an entry of a point, by b -/
def EntPt (K : PySem.W.Frag) (H : Hp) (p : Key × V) (b : Bool) : Prop :=
  (∃ x : Str, p.1 = .inr x ∧ x.length ≤ 1000 ∧ ¬ NmOk x ∧ b = false) ∨ (∃ i, p.1 = .inl i ∧ b = false) ∨ ∃ x, p.1 = .inr x ∧ NmOk x ∧ FracB K H p.2 b
theorem EntPt.ktl {K : PySem.W.Frag} {H H' : Hp} {p : Key × V} {b : Bool} (h : EntPt K H p b) (k : KTL H H') : EntPt K H' p b := by
  rcases h with h | h | ⟨x, e, hx, h⟩
  · exact .inl h
  · exact .inr (.inl h)
  · exact .inr (.inr ⟨x, e, hx, h.ktl k⟩)
/-- what is no dict -/
def NoDict (K : PySem.W.Frag) (H : Hp) (v : V) : Prop := v = .non ∨ (∃ i, v = .int i) ∨ (∃ x, v = .str x) ∨ (∃ p xs, v = .ref p ∧ H p = some (.lst xs)) ∨ (∃ p xs, v = .ref p ∧ SqT K H p xs) ∨ ∃ t, v = .bl t
theorem NoDict.kit {K : PySem.W.Frag} {H : Hp} {v : V} (h : NoDict K H v) : ∃ t, TyX K H v (.type t) ∧ PySem.W.kitOne K (.type t) (.type "dict") = some false := by
  rcases h with rfl | ⟨i, rfl⟩ | ⟨x, rfl⟩ | ⟨p, xs, rfl, e⟩ | ⟨p, xs, rfl, e⟩ | ⟨t, rfl⟩
  · exact ⟨_, .base .non, kit_ty (by decide +kernel)⟩
  · exact ⟨_, .base (.int i), kit_ty (by decide +kernel)⟩
  · exact ⟨_, .base (.str x), kit_ty (by decide +kernel)⟩
  · exact ⟨_, .base (.lst e), kit_ty (by decide +kernel)⟩
  · exact ⟨_, SqT.ty e, kit_ty (by decide +kernel)⟩
  · exact ⟨_, .base (.bl t), kit_ty (by decide +kernel)⟩
/-- is a point, by b -/
def PntB (K : PySem.W.Frag) (H : Hp) (v : V) (b : Bool) : Prop := (NoDict K H v ∧ b = false) ∨
  ∃ a kvs bs, v = .ref a ∧ H a = some (.dK kvs) ∧ (kvs.map (·.1)).Nodup ∧ kvs.length ≤ 900 ∧ Paired (EntPt K H) kvs bs ∧ b = bs.all id
/-- entries of a sum are entries of a point, or none -/
theorem ents_pt {K : PySem.W.Frag} {H : Hp} {kvs : List (Key × V)} {bs : List Bool} (h : Paired (EntB K H) kvs bs) : ∃ cs, Paired (EntPt K H) kvs cs ∧ (cs.all id = false → bs.all id = false) ∧
    (cs.all id = true → ∀ (i : Nat) (p : Key × V), kvs[i]? = some p → ∃ r n d, p.2 = .ref r ∧ FrT K H r n d ∧ 0 < d ∧ Int.gcd n d = 1 ∧ bs[i]? = some (decide (n ≠ 0))) := by
  induction h with
  | nil => exact ⟨[], .nil, fun z => by simp at z, fun _ i p e => by simp at e⟩
  | cons hd tl ih =>
    obtain ⟨cs, h1, h2, h3⟩ := ih
    have bad : ∀ {b : Bool}, b = false → ∀ bs : List Bool, (b :: bs).all id = false := fun e bs => by rw [e]; rfl
    have ff : ∀ {ccs : List Bool}, ¬ ((false :: ccs).all id = true) := fun z => by simp at z
    rcases hd with ⟨x, e, hx, nx, rfl⟩ | ⟨j, e, rfl⟩ | ⟨x, e, hx, ⟨fb, rfl⟩ | ⟨r, n, d, e2, fr, hd, hg, rfl⟩⟩
    · exact ⟨false :: cs, .cons (.inl ⟨x, e, hx, nx, rfl⟩) h1, fun _ => rfl, fun z => absurd z ff⟩
    · exact ⟨false :: cs, .cons (.inr (.inl ⟨j, e, rfl⟩)) h1, fun _ => rfl, fun z => absurd z ff⟩
    · exact ⟨false :: cs, .cons (.inr (.inr ⟨x, e, hx, fb⟩)) h1, fun _ => rfl, fun z => absurd z ff⟩
    · refine ⟨true :: cs, .cons (.inr (.inr ⟨x, e, hx, by rw [e2]; exact FracB.fr fr hd hg⟩)) h1, fun z => ?_, fun z i p hp => ?_⟩
      · rw [List.all_cons, h2 (by rw [List.all_cons] at z; exact z), Bool.and_false]
      · match i, hp with
        | 0, hp =>
          have e3 := Option.some.inj hp
          subst e3
          exact ⟨r, n, d, e2, fr, hd, hg, rfl⟩
        | i + 1, hp => exact h3 (by rw [List.all_cons] at z; exact z) i p hp
theorem ne_nought {n d : Int} (hgc : Int.gcd n d = 1) (hd : 0 < d) : (!(n == 0 && d == 1)) = decide (n ≠ 0) := by
  by_cases c0 : n = 0
  · have d1 : d = 1 := by
      rw [c0] at hgc
      have q1 : Int.gcd 0 d = d.natAbs := Int.gcd_zero_left ..
      omega
    rw [c0, d1]
    rfl
  · rw [decide_eq_true c0, beq_eq_false_iff_ne.mpr c0]
    rfl
section
variable {P : Program} {w : World} {K : PySem.W.Frag} {mg : Str → Option Value} {base : Heap}
def spFPt (K : PySem.W.Frag) (T : List Addr) : Sp := fun vs H Q _ => ∃ v b, vs = [v] ∧ PntB K H v b ∧ Tabs T H ∧ ∀ H', SameT T H H' → Q (.bl b) H'
def spFSum (K : PySem.W.Frag) (T : List Addr) : Sp := fun vs H Q _ => ∃ v b, vs = [v] ∧ SumB K H v b ∧ Tabs T H ∧ ∀ H', SameT T H H' → Q (.bl b) H'
/-- a sort, by b: a text or another plain thing -/
def SortB (v : V) (b : Bool) : Prop := flatV v = true ∧ b = inV v (sorts.map V.str)
/-- row_of of anything: C is NoRow -/
def spRow (K : PySem.W.Frag) (T : List Addr) (C : Addr) : Sp := fun vs H Q E => ∃ v1 v2 v3 b1 b2 b3, vs = [v1, v2, v3] ∧ Tabs T H ∧ SumB K H v1 b1 ∧ SortB v2 b2 ∧ FracB K H v3 b3 ∧
  ((b1 && b2 && b3) = false → ∀ H', SameT T H H' → E (.ref C) none H') ∧
  ((b1 && b2 && b3) = true → ∃ a kvs, v1 = .ref a ∧ H a = some (.dK kvs) ∧ ∀ H1, SameT T H H1 → ∀ c, H1 c = none → ∀ r, (upd H1 c (.dK kvs)) r = none → Q (.ref r) (upd (upd H1 c (.dK kvs)) r (.tup [.ref c, v2, v3])))
/-- is a row: a tuple of three by b -/
def spFRow (K : PySem.W.Frag) (T : List Addr) : Sp := fun vs H Q _ => ∃ u v1 v2 v3 b1 b2 b3, vs = [.ref u] ∧ H u = some (.tup [v1, v2, v3]) ∧ Tabs T H ∧ SumB K H v1 b1 ∧ SortB v2 b2 ∧ FracB K H v3 b3 ∧ ∀ H', SameT T H H' → Q (.bl (b1 && b2 && b3)) H'
theorem SumB.ktl {K : PySem.W.Frag} {H H' : Hp} {v : V} {b : Bool} (h : SumB K H v b) (k : KTL H H') (s : ∀ x o, H x = some o → H' x = some o) : SumB K H' v b := by
  rcases h with ⟨h, e⟩ | ⟨a, kvs, bs, e, ha, nd, kl, hp, e2⟩
  · refine .inl ⟨?_, e⟩
    rcases h with h | h | h | ⟨p, xs, e, h⟩ | ⟨p, xs, e, h⟩
    · exact .inl h
    · exact .inr (.inl h)
    · exact .inr (.inr (.inl h))
    · exact .inr (.inr (.inr (.inl ⟨p, xs, e, s _ _ h⟩)))
    · exact .inr (.inr (.inr (.inr ⟨p, xs, e, SqT.ktl h k⟩)))
  · refine .inr ⟨a, kvs, bs, e, s _ _ ha, nd, kl, ?_, e2⟩
    clear e2 ha nd kl e
    induction hp with
    | nil => exact .nil
    | cons hd tl ih => exact .cons (hd.ktl k) ih
end
end SS

namespace SS
open PySem PySem.Spec PyProof.Rows L2
section
variable {T : List Addr} {H H1 H' : Hp}
theorem Tabs.but2 {st c D : Addr} (h : Tabs T H) (y : StA st c H) (nD : H D = none) (w3 : ∀ x o, x ≠ st → x ≠ D → H x = some o → H' x = some o) : Tabs T H' := fun P hP => by
  obtain ⟨ps, e, r⟩ := h P hP
  refine ⟨ps, w3 _ _ (fun z => ?_) (ne_of_none e nD) e, r⟩
  obtain ⟨i, n, f, xs, h1, _⟩ := y
  rw [z, h1] at e
  cases e
theorem SameT.growX {p : Addr} {o u : HO} (s : SameT T H H1) (n : H p = none) (h : H1 p = some u) (nu : ∀ ps, u ≠ .tbl ps) : SameT T H (upd H1 p o) := by
  refine ⟨fun b x e nx => ?_, s.tab.upd h nu, fun {b} e => ?_⟩
  · rw [upd_ne (ne_of_none e n)]
    exact s.ext b x e nx
  · by_cases c : b = p
    · rw [c]
      exact n
    · rw [upd_ne c] at e
      exact s.free e
theorem paired_true {α : Type} {F : α → Bool → Prop} : ∀ {l : List α}, (∀ x ∈ l, F x true) → Paired F l (l.map fun _ => true)
  | [], _ => .nil
  | x :: l, h => .cons (h x (.head _)) (paired_true fun y hy => h y (.tail _ hy))
theorem DM.sumB {K : PySem.W.Frag} {m B : Nat} {a : Addr} {kvs : List (Key × V)} {f : Key → Int × Int} (h : DM True m H a kvs f) (ok : ∀ k, Okb B (f k)) (hm : m ≤ 900) : SumB K H (.ref a) true := by
  refine .inr ⟨a, kvs, kvs.map fun _ => true, rfl, h.1, h.2.1, Nat.le_trans h.2.2.1 hm, paired_true fun p hp => ?_, (List.all_eq_true.mpr fun x hx => ?_).symm⟩
  · obtain ⟨⟨x, e1, hx⟩, ⟨r, e2, e3⟩, nz⟩ := h.2.2.2.1 p hp
    exact .inr (.inr ⟨x, e1, hx, .inr ⟨r, _, _, e2, FrT.of e3, (ok _).1, (ok _).2.2.2, (decide_eq_true (nz trivial)).symm⟩⟩)
  · obtain ⟨_, _, e⟩ := List.mem_map.mp hx
    rw [← e]
    rfl
end
theorem sort_in : ∀ s ∈ sorts, inV (.str s) (sorts.map V.str) = true := by decide +kernel
end SS

namespace SS
open PySem PySem.Spec PyProof.Rows L2
/-! ### rows: a tuple of a sum, a sort and a bound -/
def RowT (K : PySem.W.Frag) (m : Nat) (H : Hp) (r a : Addr) (kvs : List (Key × V)) (f : Key → Int × Int) (srt : Str) (num : Int × Int) : Prop :=
  ∃ n, H r = some (.tup [.ref a, .str srt, .ref n]) ∧ DM True m H a kvs f ∧ FrT K H n num.1 num.2 ∧ srt ∈ sorts
section
variable {K : PySem.W.Frag} {m m' : Nat} {H H' : Hp} {r r' a a' : Addr} {kvs ls : List (Key × V)} {f : Key → Int × Int} {srt : Str} {num : Int × Int} {T : List Addr}
theorem RowT.same (h : RowT K m H r a kvs f srt num) (s : Same H H') : RowT K m H' r a kvs f srt num := by
  obtain ⟨n, h1, h2, h3, h4⟩ := h
  exact ⟨n, s _ _ h1, h2.same s, h3.new s, h4⟩
theorem RowT.sameT (h : RowT K m H r a kvs f srt num) (s : SameT T H H') : RowT K m H' r a kvs f srt num := by
  obtain ⟨n, h1, h2, h3, h4⟩ := h
  exact ⟨n, s.ext _ _ h1 (fun ps z => by cases z), h2.sameT s, h3.ktl s.ktl, h4⟩
theorem KTL.but {st c : Addr} (b : But st H H') (y : StA st c H) (xs0 : ∀ b' xs, H b' = some (.lst xs) → b' ≠ st → H' b' = some (.lst xs)) : True := trivial
theorem FrT.but {st c p : Addr} {n d : Int} (h : FrT K H p n d) (b : But st H H') (y : StA st c H) : FrT K H' p n d := by
  obtain ⟨h1, h2⟩ := h
  have ne : ∀ o, H p = some o → (∀ xs, o ≠ .lst xs) → p ≠ st := fun o e no z => by
    obtain ⟨i, n, ff, xs, g1, _⟩ := y
    rw [z, g1] at e
    exact no _ (Option.some.inj e).symm
  rcases h1 with (h1 | ⟨o, h1⟩) | ⟨o, its, mm, k1, k2, k3⟩
  · exact FrT.of (b.tup y h1)
  · have e := b _ _ (ne _ h1 fun xs z => by cases z) h1
    exact ⟨.inl (.inr ⟨o, e⟩), .fTuple e⟩
  · exact ⟨.inr ⟨o, its, mm, k1, k2, k3⟩, .kTuple k1 k2⟩
theorem RowT.but {st c : Addr} (h : RowT K m H r a kvs f srt num) (b : But st H H') (y : StA st c H) : RowT K m H' r a kvs f srt num := by
  obtain ⟨n, h1, h2, h3, h4⟩ := h
  exact ⟨n, b.tup y h1, h2.but b y, h3.but b y, h4⟩
theorem RowT.mono (h : RowT K m H r a kvs f srt num) (l : m ≤ m') : RowT K m' H r a kvs f srt num := by
  obtain ⟨n, h1, h2, h3⟩ := h
  exact ⟨n, h1, h2.mono l, h3⟩
/-- another dict changes -/
theorem RowT.upd {b : Addr} {ks : List (Key × V)} {o : HO} (h : RowT K m H r a kvs f srt num) (hb : H b = some (.dK ks)) (n : a ≠ b) : RowT K m (upd H b o) r a kvs f srt num := by
  obtain ⟨n', h1, h2, h3, h4⟩ := h
  exact ⟨n', keep_d hb _ _ h1, h2.upd hb n, h3.ktl (KTL.dict hb), h4⟩
/-! ### equal things -/
theorem xv_int (k : Nat) (i : Int) : XV K H (k + 1) (.int i) (.int i) := .inl ⟨rfl, rfl⟩
theorem xv_str (k : Nat) (x : Str) : XV K H (k + 1) (.str x) (.str x) := .inl ⟨rfl, rfl⟩
theorem xv_fr {p q : Addr} {n d : Int} (k : Nat) (h : FrT K H p n d) (h' : FrT K H q n d) : XV K H (k + 2) (.ref p) (.ref q) :=
  .inr (.inr (.inr ⟨p, q, _, _, rfl, rfl, h.1, h'.1, .cons (xv_int k _) (.cons (xv_int k _) .nil)⟩))
theorem xv_dm (k : Nat) (h : DM True m H a kvs f) (h' : DM True m' H a' ls f) : XV K H (k + 3) (.ref a) (.ref a') := by
  obtain ⟨x, y, kx, ky, e1, e2, hx, hy, hl, hp⟩ := deq_of h h'
  cases e1
  cases e2
  refine .inr (.inr (.inl (.inr ⟨a, a', kx, ky, rfl, rfl, hx, hy, hl, fun p hpm => ?_⟩)))
  obtain ⟨u, eu, p1, p2, n, d, e3, e4, g1, g2⟩ := hp p hpm
  refine ⟨u, eu, ?_⟩
  rw [e3, e4]
  exact xv_fr k (FrT.of g1) (FrT.of g2)
theorem xr_row (k : Nat) (h : RowT K m H r a kvs f srt num) (h' : RowT K m' H r' a' ls f srt num) : XR K H (XV K H (k + 3)) (.ref r) (.ref r') := by
  obtain ⟨n, h1, h2, h3, _⟩ := h
  obtain ⟨n', g1, g2, g3, _⟩ := h'
  exact .inr ⟨r, r', _, _, rfl, rfl, SqT.of h1, SqT.of g1, .cons (xv_dm k h2 g2) (.cons (xv_str _ _) (.cons (xv_fr (k + 1) h3 g3) .nil))⟩
theorem ne_row (k : Nat) (hk : k ≤ 40) {Q : VK} (h : RowT K m H r a kvs f srt num) (h' : RowT K m' H r' a' ls f srt num) (q : Q (.bl false) H) : rNeXT K (.ref r) (.ref r') H Q := by
  obtain ⟨n, h1, h2, h3, _⟩ := h
  obtain ⟨n', g1, g2, g3, _⟩ := h'
  exact ⟨k + 3, r, r', _, _, by omega, rfl, rfl, SqT.of h1, SqT.of g1, .cons (xv_dm k h2 g2) (.cons (xv_str _ _) (.cons (xv_fr (k + 1) h3 g3) .nil)), q⟩
end
theorem sorts_flat : (sorts.map V.str).all flatV = true := flat_strs sorts
section
variable {P : Program} {w : World} {K : PySem.W.Frag} {mg : Str → Option Value} {base : Heap}
def spIsRow (K : PySem.W.Frag) : Sp := fun vs H Q _ => ∃ (r a : Addr) (kvs : List (Key × V)) (f : Key → Int × Int) (srt : Str) (num : Int × Int) (m B : Nat), vs = [.ref r] ∧ RowT K m H r a kvs f srt num ∧ m ≤ 900 ∧ (∀ k, Okb B (f k)) ∧ Okb B num ∧ ∀ H', Same H H' → Q (.bl true) H'
def spFar : Sp := fun vs H Q _ => ∃ st c : Addr, vs = [.ref st] ∧ StA st c H ∧ ∀ H' p (num : Int × Int), But st H H' → StA st c H' → H' p = some (.tup [.int num.1, .int num.2]) → Okb 100 num → num.1 ≠ 0 → Q (.ref p) H'
def spRowLike (K : PySem.W.Frag) : Sp := fun vs H Q _ => ∃ (r a r' a' : Addr) (kvs ls : List (Key × V)) (f : Key → Int × Int) (srt : Str) (num : Int × Int) (m m' B : Nat), vs = [.ref r, .ref r'] ∧ RowT K m H r a kvs f srt num ∧ RowT K m' H r' a' ls f srt num ∧ m ≤ 900 ∧ (∀ k, Okb B (f k)) ∧ Okb B num ∧ ∀ H', Same H H' → Q (.bl true) H'
end
end SS




namespace SS
open PySem PySem.Spec PyProof.Rows L2 NumText LamX KyS
/-! ### rows by name: what is handed in, what is told -/
/-- nothing there, or a table -/
def Fr0 (H : Hp) (a : Addr) : Prop := ∀ u, H a = some u → ∃ ps, u = .tbl ps
theorem Fr0.of {H : Hp} {a : Addr} (h : H a = none) : Fr0 H a := fun u e => by rw [h] at e; cases e
theorem Fr0.ne {H : Hp} {a b : Addr} {o : HO} (h : Fr0 H a) (e : H b = some o) (n : ∀ ps, o ≠ .tbl ps) : b ≠ a := fun z => by
  obtain ⟨ps, q⟩ := h o (by rw [← z]; exact e)
  exact n ps q
theorem Fr0.back {H H' : Hp} {a : Addr} (e : ExtN H H') (h : Fr0 H' a) : Fr0 H a := fun u q => by
  by_cases z : ∃ ps, u = .tbl ps
  · exact z
  · exact h u (e _ _ q fun ps y => z ⟨ps, y⟩)
theorem ExtN.same {H H' : Hp} (s : Same H H') : ExtN H H' := fun b o e _ => s b o e
structure Rw where
  f : Key → Int × Int
  s : Str
  n : Int × Int
/-- a pair (name, row) in a heap: the pair's address, its name, the row, the row's address, its sum's -/
structure Ent where
  t : Addr
  x : Str
  R : Rw
  r : Addr
  a : Addr
def Ent.it (e : Ent) : KyS.It := (e.t, e.x, [V.ref e.r])
def RowE (K : PySem.W.Frag) (m : Nat) (H : Hp) (r a : Addr) (R : Rw) : Prop := ∃ kvs, RowT K m H r a kvs R.f R.s R.n
def EntOk (K : PySem.W.Frag) (m : Nat) (H : Hp) (e : Ent) : Prop := H e.t = some (.tup [.str e.x, .ref e.r]) ∧ RowE K m H e.r e.a e.R
theorem FrT.extN {K : PySem.W.Frag} {H H' : Hp} {p : Addr} {n d : Int} (h : FrT K H p n d) (e : ExtN H H') : FrT K H' p n d := by
  obtain ⟨h1, h2⟩ := h
  rcases h1 with (h1 | ⟨o, h1⟩) | ⟨o, its, m, k1, k2, k3⟩
  · have q := e _ _ h1 fun ps => by simp
    exact ⟨.inl (.inl q), .base (.tup q)⟩
  · have q := e _ _ h1 fun ps => by simp
    exact ⟨.inl (.inr ⟨o, q⟩), .fTuple q⟩
  · exact ⟨.inr ⟨o, its, m, k1, k2, k3⟩, .kTuple k1 k2⟩
theorem DM.extN {z : Prop} {m : Nat} {H H' : Hp} {a : Addr} {kvs : List (Key × V)} {f : Key → Int × Int} (h : DM z m H a kvs f) (e : ExtN H H') : DM z m H' a kvs f := by
  obtain ⟨h1, h2, h3, h4, h5⟩ := h
  refine ⟨e _ _ h1 fun ps => by simp, h2, h3, fun p hp => ?_, h5⟩
  obtain ⟨e1, ⟨r, e2, e3⟩, e4⟩ := h4 p hp
  exact ⟨e1, ⟨r, e2, e _ _ e3 fun ps => by simp⟩, e4⟩
theorem RowE.extN {K : PySem.W.Frag} {m : Nat} {H H' : Hp} {r a : Addr} {R : Rw} (h : RowE K m H r a R) (e : ExtN H H') : RowE K m H' r a R := by
  obtain ⟨kvs, n, h1, h2, h3, h4⟩ := h
  exact ⟨kvs, n, e _ _ h1 fun ps => by simp, h2.extN e, h3.extN e, h4⟩
theorem EntOk.extN {K : PySem.W.Frag} {m : Nat} {H H' : Hp} {e : Ent} (h : EntOk K m H e) (x : ExtN H H') : EntOk K m H' e := ⟨x _ _ h.1 fun ps => by simp, h.2.extN x⟩
theorem perm_map_inv {α β : Type} (f : α → β) {ys l : List β} (h : ys.Perm l) : ∀ {zs : List α}, l = zs.map f → ∃ ws : List α, ws.Perm zs ∧ ys = ws.map f := by
  induction h with
  | nil =>
    intro zs e
    cases zs with
    | nil => exact ⟨[], .refl _, rfl⟩
    | cons _ _ => cases e
  | cons y _ ih =>
    intro zs e
    cases zs with
    | nil => cases e
    | cons z zs =>
      rw [List.map_cons] at e
      injection e with e1 e2
      obtain ⟨ws, p, q⟩ := ih e2
      exact ⟨z :: ws, p.cons _, by rw [List.map_cons, ← q, ← e1]⟩
  | swap x y l =>
    intro zs e
    match zs, e with
    | z1 :: z2 :: zs, e =>
      simp only [List.map_cons, List.cons.injEq] at e
      obtain ⟨e1, e2, e3⟩ := e
      exact ⟨z2 :: z1 :: zs, .swap _ _ _, by rw [e1, e2, e3]; rfl⟩
  | trans _ _ ih1 ih2 =>
    intro zs e
    obtain ⟨ws, p, q⟩ := ih2 e
    obtain ⟨vs, p2, q2⟩ := ih1 q
    exact ⟨vs, p2.trans p, q2⟩
theorem keys_nm {z : Prop} {m : Nat} {H : Hp} {a : Addr} {kvs : List (Key × V)} {f : Key → Int × Int} (h : DM z m H a kvs f) : kvs.map (·.1) = (kvs.map fun p => nmOf p.1).map Sum.inr := by
  rw [List.map_map]
  refine List.map_congr_left fun p hp => ?_
  obtain ⟨⟨x, e, _⟩, _⟩ := h.2.2.2.1 p hp
  show p.1 = Sum.inr (nmOf p.1)
  rw [e]
  rfl
theorem nm_of_mem {z : Prop} {m : Nat} {H : Hp} {a : Addr} {kvs : List (Key × V)} {f : Key → Int × Int} (h : DM z m H a kvs f) {y : Str} (hy : y ∈ kvs.map fun p => nmOf p.1) : NmOk y ∧ ∃ r, valV kvs (.inr y) = some (.ref r) ∧ H r = some (.tup [.int (f (.inr y)).1, .int (f (.inr y)).2]) := by
  obtain ⟨p, hp, rfl⟩ := List.mem_map.mp hy
  obtain ⟨⟨x, e, ox⟩, ⟨r, e2, e3⟩, _⟩ := h.2.2.2.1 p hp
  have ev := val_nodup h.2.1 p hp
  rw [e] at ev e3
  have en : nmOf p.1 = x := by rw [e]; rfl
  rw [en]
  exact ⟨ox, r, by rw [ev, e2], e3⟩
/-- a dict comprehension over a list that stays -/
theorem dc_list {K : PySem.W.Frag} {a : Addr} {xs : List V} {g : TG} {tt : TT} {tk tv : TE} {vs : List Nat} {σ : L2.St} {H1 : Hp} {D : Addr} {Qd : Hp → Prop} (Pv : Nat → Hp → Prop) (h0 : Pv 0 (upd H1 D (.dK []))) (hl : ∀ i H, i ≤ xs.length → Pv i H → SqL K H a xs)
    (hs : ∀ i x H, xs[i]? = some x → Pv i H → g x (wipe σ vs) H fun σ2 H2 => wipe σ2 vs = wipe σ vs ∧ tt σ2 H2 fun b H3 => if b = true then tk σ2 H3 fun y H4 => tv σ2 H4 fun z H5 => ∃ kvs k, y = kV k ∧ H5 D = some (.dK kvs) ∧ kvs.length < sizeLine ∧ Pv (i + 1) (upd H5 D (.dK (putK kvs k z))) else Pv (i + 1) H3)
    (hd : ∀ H, Pv xs.length H → Qd H) :
    ∃ W : Nat → Nat → Hp → Prop, (∃ m, W 0 m (upd H1 D (.dK []))) ∧ ∀ i m H, W i m H →
      ((Itl K a).stop i H ∧ Qd H) ∨ ((Itl K a).go i H ∧ ∃ Nx : Hp → Prop, (∀ H', Nx H' → ∃ m', m' < m ∧ W (i + 1) m' H') ∧ ∀ x H', (Itl K a).yld i H x H' → g x (wipe σ vs) H' fun σ2 H2 => wipe σ2 vs = wipe σ vs ∧ tt σ2 H2 fun b H3 =>
        if b = true then tk σ2 H3 fun y H4 => tv σ2 H4 fun z H5 => ∃ kvs k, y = kV k ∧ H5 D = some (.dK kvs) ∧ kvs.length < sizeLine ∧ Nx (upd H5 D (.dK (putK kvs k z))) else Nx H3) := by
  refine ⟨fun i m H => m = xs.length - i ∧ i ≤ xs.length ∧ Pv i H, ⟨_, rfl, Nat.zero_le _, h0⟩, fun i m H hW => ?_⟩
  obtain ⟨em, hi, p⟩ := hW
  have q := hl i H hi p
  by_cases hlt : i < xs.length
  · refine .inr ⟨⟨xs, xs[i], q, by simp [hlt]⟩, Pv (i + 1), fun H' p' => ⟨xs.length - (i + 1), by omega, rfl, hlt, p'⟩, fun x H' y => ?_⟩
    obtain ⟨e, y⟩ := y
    subst e
    exact hs i x H' (y xs q) p
  · have e : i = xs.length := by omega
    subst e
    exact .inl ⟨⟨xs, q, Nat.le_refl _⟩, hd H p⟩
/-- f on some names, nought elsewhere -/
noncomputable def rst (f : Key → Int × Int) (l : List Str) (k : Key) : Int × Int := open Classical in if k ∈ (l.map fun x => (Sum.inr x : Key)) then f k else (0, 1)
theorem rst_in {f : Key → Int × Int} {l : List Str} {k : Key} (h : k ∈ l.map fun x => (Sum.inr x : Key)) : rst f l k = f k := by
  unfold rst
  exact if_pos h
theorem rst_out {f : Key → Int × Int} {l : List Str} {k : Key} (h : ¬ k ∈ l.map fun x => (Sum.inr x : Key)) : rst f l k = (0, 1) := by
  unfold rst
  exact if_neg h
theorem rst_snoc {f : Key → Int × Int} {l : List Str} {x : Str} (k : Key) : rst f (l ++ [x]) k = if k = .inr x then f (.inr x) else rst f l k := by
  by_cases c : k = .inr x
  · subst c
    rw [if_pos rfl, rst_in (by simp)]
  · rw [if_neg c]
    by_cases d : k ∈ l.map fun x => (Sum.inr x : Key)
    · rw [rst_in d, rst_in (by rw [List.map_append]; exact List.mem_append_left _ d)]
    · rw [rst_out d, rst_out]
      intro z
      rw [List.map_append] at z
      rcases List.mem_append.mp z with z | z
      · exact d z
      · exact c (by simpa using z)
theorem rst_nil {f : Key → Int × Int} (k : Key) : rst f [] k = (0, 1) := rst_out (by simp)
end SS
namespace SS
open PySem PySem.Spec PyProof.Rows L2 NumText LamX KyS
section
variable {P : Program} {w : World} {K : PySem.W.Frag} {mg : Str → Option Value} {base : Heap}
/-- the pairs stand in a list or a tuple -/
def SqA (K : PySem.W.Frag) (H : Hp) (a : Addr) (xs : List V) : Prop := SqL K H a xs ∨ SqT K H a xs
theorem SqA.extN {H H' : Hp} {a : Addr} {xs : List V} (h : SqA K H a xs) (e : ExtN H H') : SqA K H' a xs := h.imp (fun z => KyS.SqL.extN z e) fun z => KyS.SqT.extN z e
/-- a dict from names to rows, all new since H -/
def NewD (K : PySem.W.Frag) (m : Nat) (H H' : Hp) (D : Addr) (es : List Ent) : Prop :=
  H' D = some (.dK (es.map fun e => (.inr e.x, V.ref e.r))) ∧ (∀ e ∈ es, RowE K m H' e.r e.a e.R ∧ Fr0 H e.a ∧ e.a ≠ D) ∧ (es.map (·.a)).Nodup ∧ Fr0 H D
theorem RowE.but {m : Nat} {H H' : Hp} {r a D : Addr} {R : Rw} {l : List (Key × V)} (h : RowE K m H r a R) (hD : H D = some (.dK l)) (k : ∀ b o, b ≠ D → H b = some o → H' b = some o) (n : a ≠ D) : RowE K m H' r a R := by
  have tp : ∀ b xs, H b = some (.tup xs) → H' b = some (.tup xs) := fun b xs e => k _ _ (ne_of e hD (fun z => by cases z)) e
  obtain ⟨kvs, q, h1, h2, h3, h4⟩ := h
  refine ⟨kvs, q, tp _ _ h1, ?_, ?_, h4⟩
  · obtain ⟨d1, d2, d3, d4, d5⟩ := h2
    refine ⟨k _ _ n d1, d2, d3, fun p hp => ?_, d5⟩
    obtain ⟨e1, ⟨r', e2, e3⟩, e4⟩ := d4 p hp
    exact ⟨e1, ⟨r', e2, tp _ _ e3⟩, e4⟩
  · obtain ⟨f1, f2⟩ := h3
    rcases f1 with (f1 | ⟨o, f1⟩) | ⟨o, its, m, k1, k2, k3⟩
    · exact ⟨.inl (.inl (tp _ _ f1)), .base (.tup (tp _ _ f1))⟩
    · have q := k _ _ (ne_of f1 hD (fun z => by cases z)) f1
      exact ⟨.inl (.inr ⟨o, q⟩), .fTuple q⟩
    · exact ⟨.inr ⟨o, its, m, k1, k2, k3⟩, .kTuple k1 k2⟩
theorem val_ents {gs : List Ent} {x : Str} (h : x ∉ gs.map (·.x)) : valV (gs.map fun e => ((Sum.inr e.x : Key), V.ref e.r)) (.inr x) = none := by
  cases q : valV (gs.map fun e => ((Sum.inr e.x : Key), V.ref e.r)) (.inr x) with
  | none => rfl
  | some v =>
    obtain ⟨p, hp, e1, _⟩ := mem_valV q
    obtain ⟨g, hg, rfl⟩ := List.mem_map.mp hp
    exact absurd (List.mem_map.mpr ⟨g, hg, Sum.inr.inj e1⟩) h
theorem NewD.put {m : Nat} {H H' H7 : Hp} {D : Addr} {gs : List Ent} {e : Ent} (h : NewD K m H H' D gs) (s : Same H' H7) (r : RowE K m H7 e.r e.a e.R) (fr : Fr0 H e.a) (aD : e.a ≠ D) (fa : ∀ g ∈ gs, g.a ≠ e.a) (fx : e.x ∉ gs.map (·.x)) :
    NewD K m H (upd H7 D (.dK (putK (gs.map fun e => (.inr e.x, V.ref e.r)) (.inr e.x) (.ref e.r)))) D (gs ++ [e]) := by
  obtain ⟨h1, h2, h3, h4⟩ := h
  have hD := s _ _ h1
  refine ⟨?_, fun g hg => ?_, ?_, h4⟩
  · rw [upd_same, putK_new _ (val_ents fx), List.map_append]
    rfl
  · rcases List.mem_append.mp hg with hg | hg
    · obtain ⟨a1, a2, a3⟩ := h2 g hg
      exact ⟨RowE.but (RowE.extN a1 (ExtN.same s)) hD (fun b o n q => by rw [upd_ne n]; exact q) a3, a2, a3⟩
    · obtain rfl := List.mem_singleton.mp hg
      exact ⟨RowE.but r hD (fun b o n q => by rw [upd_ne n]; exact q) aD, fr, aD⟩
  · rw [List.map_append]
    refine List.nodup_append.mpr ⟨h3, by simp, fun x hx y hy => ?_⟩
    obtain ⟨g, hg, rfl⟩ := List.mem_map.mp hx
    obtain rfl : y = e.a := by simpa using hy
    exact fa g hg
def spRbn (K : PySem.W.Frag) (T : List (Addr × Str)) : Sp := fun vs H Q _ => ∃ (a : Addr) (zs : List Ent) (m : Nat), vs = [.ref a] ∧ SqA K H a (zs.map fun z => V.ref z.t) ∧ (∀ z ∈ zs, EntOk K m H z) ∧ (zs.map (·.x)).Nodup ∧ zs.length ≤ 400 ∧ m < 60 ∧ LamX.Tabs T H ∧
  ∀ H' D es, ExtN H H' → LamX.Tabs T H' → NewD K m H H' D es → (es.map fun e => (e.x, e.R)).Perm (zs.map fun e => (e.x, e.R)) → (es.map (·.x)).Pairwise leS → Q (.ref D) H'
theorem scRbn : FnScope ["rows", "told", "name", "row", "one", "sort", "bound", "unknown"] ["rows"] (defScope sRbn) := ⟨rfl, rfl, rfl, by decide +kernel, rfl, by decide +kernel, by decide +kernel⟩
theorem ok_rbn {f c Pt : Addr} {fd : FuncData} {T : List (Addr × Str)} (F : Fun K "rows_by_name" "rows_by_name" sRbn f fd) (hc : fd.code = .ref c) (TB : TabB base mg c Pt) (hT : (Pt, Str.ofString "rows_by_name" ++ ".<locals>." ++ "<lambda>") ∈ T) (hu : ∀ p ∈ T, p.1 = Pt → p.2 = Str.ofString "rows_by_name" ++ ".<locals>." ++ "<lambda>")
    (ms : mg "sorted" = none) : FnOk P w K mg base CX0 4 f fd ["rows"] (spRbn K T) := by
  refine Fun.okC F hc scRbn (fun vs H Q E h => ?_) (fun cdv A outer s H vs Q E hcd hr h => ?_)
  · obtain ⟨_, _, _, rfl, _⟩ := h
    rfl
  · obtain ⟨a, zs, m, rfl, hS, hz, nd, hl, hm, ht, q⟩ := h
    have hu' := hu_of hr
    refine ⟨_, pss_cons (ps_set (i := 1) scRbn.nd rfl (.inl rfl) pe_dnewK)
      (pss_cons (ps_for PassesOwn.never rfl (pi_list (pe_sortedKey0 (k := 1) (T := T) (by rfl) ms (pv 0) TB hcd hT hu hr ⟨rfl, rfl, rfl, rfl⟩ rfl (fun _ _ _ _ _ _ => rfl)))
          (pg_tup rfl (pgs_cons (pg_name (i := 2) scRbn.nd rfl (.inl rfl)) (pgs_cons (pg_name (i := 3) scRbn.nd rfl (.inl rfl)) pgs_nil)))
        (pss_cons (ps_asg (pv 3) (pg_tup rfl (pgs_cons (pg_name (i := 4) scRbn.nd rfl (.inr rfl)) (pgs_cons (pg_name (i := 5) scRbn.nd rfl (.inl rfl)) (pgs_cons (pg_name (i := 6) scRbn.nd rfl (.inl rfl)) pgs_nil)))))
        (pss_one (ps_dput hu' (pv 1) (pv 2) (pe_tup (pa_cons (pe_dc (own := [("unknown", 7)]) (g := gName 7) (tt := tYes) rfl scRbn.nd (pi_list (pe_callB (call_sortedD rfl) (by rfl) ms (by decide +kernel) (pa_cons (pv 4) pa_nil))) (blkOk_by (by rfl))
            (fun _ _ _ _ _ => pg_name (i := 7) scRbn.nd rfl (Or.inl rfl)) (fun _ _ _ _ _ => pts_nil)
            (fun _ _ _ _ _ => pv 7) (fun _ _ _ _ _ => pe_dget hu' (pv 4) (pv 7) (fun _ _ => rfl))) (pa_cons (pv 5) (pa_cons (pv 6) pa_nil)))) rfl))))
      (pss_one (ps_ret (pv 1)))), ?_⟩
    intro D nD
    have s0 := same_new (o := .dK []) nD
    have e0 : ExtN H (upd H D (.dK [])) := ExtN.same s0
    have eZ : (zs.map Ent.it).map (fun z => V.ref z.1) = zs.map fun z => V.ref z.t := by
      rw [List.map_map]
      rfl
    refine ⟨_, rfl, a, zs.map Ent.it, rfl, by rw [eZ]; exact hS.extN e0, fun z hz' => ?_, ht.ext s0, fun H3 L ys eN T3 pm srt nL hL => ?_⟩
    · obtain ⟨e, he, rfl⟩ := List.mem_map.mp hz'
      exact SqT.of (s0 _ _ (hz e he).1)
    obtain ⟨es, pe, rfl⟩ := perm_map_inv Ent.it pm rfl
    have eE : (es.map Ent.it).map (fun z => V.ref z.1) = es.map fun z => V.ref z.t := by
      rw [List.map_map]
      rfl
    have eS : ((es.map Ent.it).map fun z => z.2.1) = es.map (·.x) := by
      rw [List.map_map]
      rfl
    rw [eE] at hL
    rw [eS] at srt
    have hD3 : H3 D = some (.dK []) := eN _ _ upd_same fun ps => by simp
    have eH3 : ExtN H H3 := e0.trans eN
    have hLD : L ≠ D := fun z => by rw [z, hD3] at hL; cases hL
    have hes : ∀ e ∈ es, EntOk K m H e := fun e he => hz e (pe.mem_iff.mp he)
    have nde : (es.map (·.x)).Nodup := (pe.map _).nodup_iff.mpr nd
    have lle : es.length ≤ 400 := by rw [pe.length_eq]; exact hl
    refine ⟨L, rfl, ⟨_, SqL.of hL⟩, for_list (K := K) (a := L) (xs := es.map fun z => V.ref z.t) (fun i σ H' => ∃ (y2 y3 y4 y5 y6 y7 : Option V) (gs : List Ent), σ = [some (.ref a), some (.ref D), y2, y3, y4, y5, y6, y7] ∧
        (∀ b o, b ≠ D → H3 b = some o → H' b = some o) ∧ NewD K m H H' D gs ∧ (gs.map fun e => (e.x, e.R)) = (es.take i).map fun e => (e.x, e.R))
      ⟨none, none, none, none, none, none, [], rfl, fun b o _ e => e, ⟨hD3, fun e he => (by cases he), List.nodup_nil, Fr0.of nD⟩, rfl⟩ (fun i σ H' _ hW => ?_) ?_ ?_⟩
    · obtain ⟨_, _, _, _, _, _, _, _, k1, _⟩ := hW
      exact SqL.of (k1 _ _ hLD hL)
    · rintro i y σ H4 hy ⟨y2, y3, y4, y5, y6, y7, gs, rfl, k1, hN, hg⟩
      obtain ⟨e, hei, rfl⟩ : ∃ e, es[i]? = some e ∧ y = .ref e.t := by
        rw [List.getElem?_map] at hy
        cases e : es[i]? with
        | none =>
          rw [e] at hy
          cases hy
        | some r =>
          rw [e] at hy
          exact ⟨r, rfl, (Option.some.inj hy).symm⟩
      have hem := List.mem_of_getElem? hei
      obtain ⟨ht1, kvs, n, hr1, hd1, hf1, hs1⟩ := hes e hem
      have kk : ∀ b o, (∀ ps, o ≠ .tbl ps) → H b = some o → H4 b = some o := fun b o nt eb => k1 _ _ (ne_of_none eb nD) (eH3 _ _ eb nt)
      have x4 : ExtN H H4 := fun b o eb nt => kk b o nt eb
      have d4 := hd1.extN x4
      have aD : e.a ≠ D := ne_of_none hd1.1 nD
      refine ⟨e.t, _, rfl, SqT.of (kk _ _ (fun ps => by simp) ht1), rfl, _, _, rfl, _, _, rfl, rfl, ?_⟩
      refine ⟨_, rfl, e.r, _, rfl, SqT.of (kk _ _ (fun ps => by simp) hr1), rfl, _, _, rfl, _, _, rfl, _, _, rfl, rfl, ?_⟩
      have kl : kvs.length ≤ m := hd1.2.2.1
      have ln : (kvs.map fun p => nmOf p.1).length = kvs.length := List.length_map ..
      refine ⟨_, rfl, e.a, kvs, (kvs.map fun p => nmOf p.1), rfl, .inl d4.1, keys_nm d4, by rw [ln]; omega, fun ys p perm srt' np => ?_⟩
      have s5 := same_new (o := .lst (ys.map V.str)) np
      have d5 := d4.same s5
      refine ⟨p, rfl, ⟨_, SqL.of upd_same⟩, fun D2 nD2 => ?_⟩
      have s6 := same_new (o := .dK []) nD2
      have pD2 : p ≠ D2 := ne_of_none upd_same nD2
      have yl : ys.length = kvs.length := by rw [perm.length_eq, ln]
      refine dc_list (K := K) (a := p) (xs := ys.map V.str) (fun j H' => ∃ ks, (∀ b o, b ≠ D2 → upd H4 p (.lst (ys.map V.str)) b = some o → H' b = some o) ∧ DM True j H' D2 ks (rst e.R.f (ys.take j)))
        ⟨[], fun b o n eb => by rw [upd_ne n]; exact eb, (dm_new upd_same).fn fun k => rst_nil k⟩ (fun j H' _ hW => ?_) ?_ ?_
      · obtain ⟨_, k2, _⟩ := hW
        exact SqL.of (k2 _ _ pD2 upd_same)
      · rintro j yv H6 hy ⟨ks, k2, dm⟩
        obtain ⟨y, hyi, rfl⟩ : ∃ y, ys[j]? = some y ∧ yv = .str y := by
          rw [List.getElem?_map] at hy
          cases e : ys[j]? with
          | none =>
            rw [e] at hy
            cases hy
          | some y =>
            rw [e] at hy
            exact ⟨y, rfl, (Option.some.inj hy).symm⟩
        obtain ⟨oy, r, ev, er⟩ := nm_of_mem d5 (perm.mem_iff.mp (List.mem_of_getElem? hyi))
        have jl : j < ys.length := (List.getElem?_eq_some_iff.mp hyi).1
        have aD2 : e.a ≠ D2 := ne_of_none d5.1 nD2
        have a6 := k2 _ _ aD2 d5.1
        have r6 := k2 _ _ (ne_of_none er nD2) er
        have nz : (e.R.f (.inr y)).1 ≠ 0 := by
          obtain ⟨q, hq, e1, e2⟩ := mem_valV ev
          have z := (d5.2.2.2.1 q hq).2.2 trivial
          rw [e1] at z
          exact z
        have dp := dm.put (x := y) (r := r) (v := e.R.f (.inr y)) oy r6 (fun _ => nz)
        refine ⟨rfl, _, rfl, _, rfl, _, rfl, e.a, _, rfl, .inl ⟨kvs, .inr y, .inl a6, rfl, ev.symm⟩, ks, .inr y, rfl, dm.1, small1000 (by have := dm.2.2.1; omega), _, ?_, dp.fn fun k => ?_⟩
        · intro b o n eb
          rw [upd_ne n]
          exact k2 b o n eb
        · have tk : ys.take (j + 1) = ys.take j ++ [y] := by
            rw [List.take_add_one, hyi]
            rfl
          rw [tk]
          exact rst_snoc k
      · rintro H6 ⟨ks, k2, dm⟩
        rw [List.length_map, List.take_length] at dm
        have dmf : DM True m H6 D2 ks e.R.f := (dm.mono (by omega)).fn fun k => by
          by_cases c : k ∈ ys.map fun x => (Sum.inr x : Key)
          · exact (rst_in c).symm
          · rw [rst_out c]
            refine hd1.out fun z => c ?_
            rw [keys_nm hd1] at z
            obtain ⟨x, hx, rfl⟩ := List.mem_map.mp z
            exact List.mem_map.mpr ⟨x, perm.mem_iff.mpr hx, rfl⟩
        have D2n : D2 ≠ D := by
          intro z
          have q1 := s5 _ _ hN.1
          rw [← z, nD2] at q1
          cases q1
        have D2H : Fr0 H D2 := fun u eb => by
          by_cases z : ∃ ps, u = .tbl ps
          · exact z
          · have q1 := s5 _ _ (kk _ _ (fun ps y => z ⟨ps, y⟩) eb)
            rw [nD2] at q1
            cases q1
        have k6 : ∀ b o, H4 b = some o → H6 b = some o := fun b o eb => k2 _ _ (ne_of_none (s5 _ _ eb) nD2) (s5 _ _ eb)
        have hD6 := k6 _ _ hN.1
        have n4 := (x4 : ExtN H H4)
        have f6 : FrT K H6 n e.R.n.1 e.R.n.2 := hf1.extN fun b o eb nt => k6 _ _ (kk _ _ nt eb)
        refine ⟨_, rfl, _, rfl, (by show 3 ≤ sizeLine; decide), fun t nt => ?_⟩
        have s7 := same_new (o := .tup [.ref D2, .str e.R.s, .ref n]) nt
        have S7 : Same H4 (upd H6 t (.tup [.ref D2, .str e.R.s, .ref n])) := fun b o eb => s7 _ _ (k6 _ _ eb)
        have tD : t ≠ D := fun z => by rw [z, hD6] at nt; cases nt
        have gl : gs.length ≤ 400 := by
          have z := congrArg List.length hg
          rw [List.length_map, List.length_map, List.length_take] at z
          omega
        have fx : e.x ∉ gs.map (·.x) := fun z => by
          have q1 : gs.map (·.x) = (es.take i).map (·.x) := by
            have z := congrArg (List.map Prod.fst) hg
            simpa [List.map_map, Function.comp_def] using z
          rw [q1, List.map_take] at z
          have q2 : (es.map (·.x))[i]? = some e.x := by rw [List.getElem?_map, hei]; rfl
          obtain ⟨j, ej⟩ := List.mem_iff_getElem?.mp z
          have hj : j < i := by
            have := (List.getElem?_eq_some_iff.mp ej).1
            rw [List.length_take] at this
            omega
          rw [List.getElem?_take, if_pos hj] at ej
          have := (List.getElem?_inj (List.getElem?_eq_some_iff.mp ej).1 nde).mp (ej.trans q2.symm)
          omega
        have D2f : ∀ g ∈ gs, g.a ≠ D2 := fun g hg' z => by
          obtain ⟨⟨kg, ng, r1, r2, _⟩, _⟩ := hN.2.1 g hg'
          have q1 := s5 _ _ r2.1
          rw [z, nD2] at q1
          cases q1
        have row : RowE K m (upd H6 t (.tup [.ref D2, .str e.R.s, .ref n])) t D2 e.R := ⟨ks, n, upd_same, dmf.same s7, f6.new s7, hs1⟩
        have nd' := hN.put (e := ⟨e.t, e.x, e.R, t, D2⟩) S7 row D2H D2n D2f fx
        refine ⟨_, rfl, _, rfl, D, _, rfl, DPut.k (k := .inr e.x) (s7 _ _ hD6) (small1000 (by rw [List.length_map]; omega)), _, _, _, _, _, _, gs ++ [⟨e.t, e.x, e.R, t, D2⟩], rfl, fun b o nb eb => ?_, nd', ?_⟩
        · rw [upd_ne nb]
          exact S7 _ _ (k1 _ _ nb eb)
        · rw [List.map_append, hg, List.take_add_one, hei, List.map_append]
          rfl
    · rintro σ H4 ⟨y2, y3, y4, y5, y6, y7, gs, rfl, k1, hN, hg⟩
      rw [List.length_map, List.take_length] at hg
      have hx : gs.map (·.x) = es.map (·.x) := by
        have z := congrArg (List.map Prod.fst) hg
        simpa [List.map_map, Function.comp_def] using z
      refine ⟨_, rfl, q H4 D gs (fun b o eb nt => k1 _ _ (ne_of_none eb nD) (eH3 _ _ eb nt)) ?_ hN ?_ (by rw [hx]; exact srt)⟩
      · intro p hp
        obtain ⟨ps, a1, a2, a3⟩ := T3 p hp
        have nP : p.1 ≠ D := ne_of a1 hD3 (fun z => by cases z)
        refine ⟨ps, k1 _ _ nP a1, a2, fun pos cv hcv => ?_⟩
        obtain ⟨c0, e1, e2⟩ := a3 pos cv hcv
        exact ⟨c0, e1, k1 _ _ (ne_of e2 hD3 (fun z => by unfold CodeO at z; cases z)) e2⟩
      · rw [hg]
        exact pe.map _
end
end SS
namespace SS
open PySem PySem.Spec PyProof.Rows L2 NumText LamX KyS
/-- a dict comprehension over the keys of a dict that stays -/
theorem dc_keys {a : Addr} {od : Obj} {kvs : List (Key × V)} {g : TG} {tt : TT} {tk tv : TE} {vs : List Nat} {σ : L2.St} {H1 : Hp} {D : Addr} {Qd : Hp → Prop} (Pv : Nat → Hp → Prop) (h0 : Pv 0 (upd H1 D (.dK []))) (hl : ∀ i H, Pv i H → H a = some (.frz od (.dK kvs)))
    (hs : ∀ i k v H, kvs[i]? = some (k, v) → Pv i H → g (kV k) (wipe σ vs) H fun σ2 H2 => wipe σ2 vs = wipe σ vs ∧ tt σ2 H2 fun b H3 => if b = true then tk σ2 H3 fun y H4 => tv σ2 H4 fun z H5 => ∃ kvs k, y = kV k ∧ H5 D = some (.dK kvs) ∧ kvs.length < sizeLine ∧ Pv (i + 1) (upd H5 D (.dK (putK kvs k z))) else Pv (i + 1) H3)
    (hd : ∀ H, Pv kvs.length H → Qd H) :
    ∃ W : Nat → Nat → Hp → Prop, (∃ m, W 0 m (upd H1 D (.dK []))) ∧ ∀ i m H, W i m H →
      ((Itk a od kvs).stop i H ∧ Qd H) ∨ ((Itk a od kvs).go i H ∧ ∃ Nx : Hp → Prop, (∀ H', Nx H' → ∃ m', m' < m ∧ W (i + 1) m' H') ∧ ∀ x H', (Itk a od kvs).yld i H x H' → g x (wipe σ vs) H' fun σ2 H2 => wipe σ2 vs = wipe σ vs ∧ tt σ2 H2 fun b H3 =>
        if b = true then tk σ2 H3 fun y H4 => tv σ2 H4 fun z H5 => ∃ kvs k, y = kV k ∧ H5 D = some (.dK kvs) ∧ kvs.length < sizeLine ∧ Nx (upd H5 D (.dK (putK kvs k z))) else Nx H3) := by
  refine ⟨fun i m H => m = kvs.length - i ∧ i ≤ kvs.length ∧ Pv i H, ⟨_, rfl, Nat.zero_le _, h0⟩, fun i m H hW => ?_⟩
  obtain ⟨em, hi, p⟩ := hW
  have q := hl i H p
  by_cases hlt : i < kvs.length
  · refine .inr ⟨⟨q, hlt⟩, Pv (i + 1), fun H' p' => ⟨kvs.length - (i + 1), by omega, rfl, hlt, p'⟩, fun x H' y => ?_⟩
    obtain ⟨rfl, k, v, hk, rfl⟩ := y
    exact hs i k v H' hk p
  · have e : i = kvs.length := by omega
    subst e
    exact .inl ⟨⟨q, Nat.le_refl _⟩, hd H p⟩
section
variable {P : Program} {w : World} {K : PySem.W.Frag} {mg : Str → Option Value} {base : Heap}
def isR (e : Ent) : Bool := decide (e.R.s = "is")
/-- the dict's rows: what is told of them -/
def NewD.at {m : Nat} {H H' : Hp} {D : Addr} {es : List Ent} (h : NewD K m H H' D es) := h.2.1
theorem val_ent {gs : List Ent} (nd : (gs.map (·.x)).Nodup) {e : Ent} (h : e ∈ gs) : valV (gs.map fun e => ((Sum.inr e.x : Key), V.ref e.r)) (.inr e.x) = some (.ref e.r) := by
  refine val_nodup ?_ (Sum.inr e.x, V.ref e.r) (List.mem_map.mpr ⟨e, h, rfl⟩)
  rw [List.map_map]
  have : (Prod.fst ∘ fun e : Ent => ((Sum.inr e.x : Key), V.ref e.r)) = Sum.inr ∘ Ent.x := rfl
  rw [this, ← List.map_map]
  exact List.Pairwise.map (R := (· ≠ ·)) Sum.inr (fun a b n z => n (Sum.inr.inj z)) nd
def spEbn (K : PySem.W.Frag) (T : List (Addr × Str)) : Sp := fun vs H Q _ => ∃ (a : Addr) (zs : List Ent) (m : Nat), vs = [.ref a] ∧ SqA K H a (zs.map fun z => V.ref z.t) ∧ (∀ z ∈ zs, EntOk K m H z) ∧ (zs.map (·.x)).Nodup ∧ zs.length ≤ 400 ∧ m < 60 ∧ LamX.Tabs T H ∧
  ∀ H' D es, ExtN H H' → LamX.Tabs T H' → NewD K m H H' D es → (es.map fun e => (e.x, e.R)).Perm ((zs.filter isR).map fun e => (e.x, e.R)) → (es.map (·.x)).Pairwise leS → Q (.ref D) H'
theorem scEbn : FnScope ["rows", "named", "name"] ["rows"] (defScope sEbn) := ⟨rfl, rfl, rfl, by decide +kernel, rfl, by decide +kernel, by decide +kernel⟩
theorem ok_ebn {f : Addr} {fd : FuncData} {T : List (Addr × Str)} (F : Fun K "equals_by_name" "equals_by_name" sEbn f fd) (rb : Cl P w K mg base CX0 4 "rows_by_name" (spRbn K T) []) : FnOk P w K mg base CX0 5 f fd ["rows"] (spEbn K T) := by
  refine F.ok scEbn (fun vs H Q E h => ?_) (fun cdv A outer s H vs Q E hr h => ?_)
  · obtain ⟨_, _, _, rfl, _⟩ := h
    rfl
  · obtain ⟨a, zs, m, rfl, hS, hz, nd, hl, hm, ht, q⟩ := h
    have hu' := hu_of hr
    refine ⟨_, pss_cons (ps_set (i := 1) scEbn.nd rfl (.inr rfl) (pc0 rb hr (by decide) (pa_cons (pv 0) pa_nil)))
      (pss_one (ps_ret (pe_lock (pe_dc (own := [("name", 2)]) (g := gName 2) rfl scEbn.nd (pi_keys (pv 1)) (blkOk_by (by rfl))
            (fun _ _ _ _ _ => pg_name (i := 2) scEbn.nd rfl (Or.inl rfl)) (fun _ _ _ _ _ => pts_one (pt_cmpR op_eq (pe_ix (ix_tupK (K := K) rfl) (pe_dget hu' (pv 1) (pv 2) (fun _ _ => rfl)) pe_int (fun _ _ => rfl)) pe_str (nomark _)))
            (fun _ _ _ _ _ => pv 2) (fun _ _ _ _ _ => pe_dget hu' (pv 1) (pv 2) (fun _ _ => rfl)))))), ?_⟩
    refine ⟨_, rfl, a, zs, m, rfl, hS, hz, nd, hl, hm, ht, fun H1 D1 es e1 T1 N1 pm srt => ?_⟩
    have hx : (es.map (·.x)).Perm (zs.map (·.x)) := by
      have z := pm.map Prod.fst
      simpa [List.map_map, Function.comp_def] using z
    have nde : (es.map (·.x)).Nodup := hx.nodup_iff.mpr nd
    have lle : es.length ≤ 400 := by
      have z := hx.length_eq
      rw [List.length_map, List.length_map] at z
      omega
    refine ⟨D1, .dK (es.map fun e => (.inr e.x, V.ref e.r)), N1.1, trivial, fun od => ⟨_, rfl, D1, od, rfl, .inl ⟨_, upd_same, fun D nD => ?_⟩⟩⟩
    have nD1 : H1 D = none := by
      cases e : H1 D with
      | none => rfl
      | some o =>
        by_cases c : D = D1
        · rw [c, upd_same] at nD
          cases nD
        · rw [upd_ne c, e] at nD
          cases nD
    have DD : D1 ≠ D := ne_of_none N1.1 nD1
    refine dc_keys (H1 := upd H1 D1 (.frz od (.dK (es.map fun e => (.inr e.x, V.ref e.r))))) (D := D) (a := D1) (od := od) (kvs := es.map fun e => (.inr e.x, V.ref e.r)) (fun i H' => (∀ b o, b ≠ D1 → b ≠ D → H1 b = some o → H' b = some o) ∧ H' D1 = some (.frz od (.dK (es.map fun e => (.inr e.x, V.ref e.r)))) ∧ H' D = some (.dK (((es.take i).filter isR).map fun e => (.inr e.x, V.ref e.r))))
      ⟨fun b o n1 n2 e => by rw [upd_ne n2, upd_ne n1]; exact e, by rw [upd_ne DD]; exact upd_same, upd_same⟩ (fun i H' hW => hW.2.1) ?_ ?_
    · rintro i key v H' hkv ⟨k1, k2, k3⟩
      obtain ⟨e, hei, rfl, rfl⟩ : ∃ e, es[i]? = some e ∧ key = .inr e.x ∧ v = .ref e.r := by
        rw [List.getElem?_map] at hkv
        cases z : es[i]? with
        | none => rw [z] at hkv; cases hkv
        | some e =>
          rw [z] at hkv
          have z2 := Option.some.inj hkv
          exact ⟨e, rfl, (congrArg Prod.fst z2).symm, (congrArg Prod.snd z2).symm⟩
      have hem := List.mem_of_getElem? hei
      obtain ⟨⟨kvs, n, r1, r2, r3, r4⟩, f1, f2⟩ := N1.2.1 e hem
      have rD : e.r ≠ D1 := ne_of r1 N1.1 (fun z => by cases z)
      have r1' := k1 _ _ rD (ne_of_none r1 nD1) r1
      have dg : DGet H' D1 (kV (.inr e.x)) (some (.ref e.r)) := .inl ⟨_, .inr e.x, .inr ⟨od, k2⟩, rfl, (val_ent nde hem).symm⟩
      have tk : es.take (i + 1) = es.take i ++ [e] := by
        rw [List.take_add_one, hei]
        rfl
      refine ⟨rfl, _, rfl, _, rfl, D1, _, rfl, dg, e.r, _, 1, _, rfl, rfl, SqT.of r1', atI_nat (j := 1) rfl, ⟨rfl, ?_⟩⟩
      by_cases c : e.R.s = "is"
      · have di : decide (V.str e.R.s = V.str (Str.ofString "is")) = true := decide_eq_true (by rw [c])
        have gt : isR e = true := decide_eq_true c
        have gl : ((es.take i).filter isR).length ≤ 400 := by
          have z := List.length_filter_le isR (es.take i)
          rw [List.length_take] at z
          omega
        have fx : e.x ∉ ((es.take i).filter isR).map (·.x) := fun z => by
          obtain ⟨g, hg, ex⟩ := List.mem_map.mp z
          have hg' := (List.mem_filter.mp hg).1
          obtain ⟨j, ej⟩ := List.mem_iff_getElem?.mp hg'
          have hj : j < i := by
            have := (List.getElem?_eq_some_iff.mp ej).1
            rw [List.length_take] at this
            omega
          rw [List.getElem?_take, if_pos hj] at ej
          have q1 : (es.map (·.x))[j]? = some e.x := by rw [List.getElem?_map, ej, ← ex]; rfl
          have q2 : (es.map (·.x))[i]? = some e.x := by rw [List.getElem?_map, hei]; rfl
          have := (List.getElem?_inj (List.getElem?_eq_some_iff.mp q1).1 nde).mp (q1.trans q2.symm)
          omega
        refine ⟨true, congrArg V.bl di, iteT ⟨_, rfl, _, rfl, _, rfl, D1, _, rfl, dg, _, .inr e.x, rfl, k3, small1000 (by rw [List.length_map]; omega), fun b o n1 n2 eb => ?_, ?_, ?_⟩⟩
        · rw [upd_ne n2]
          exact k1 b o n1 n2 eb
        · rw [upd_ne DD]
          exact k2
        · rw [upd_same, putK_new _ (val_ents fx), tk, List.filter_append, List.map_append, List.filter_cons_of_pos gt]
          rfl
      · have di : decide (V.str e.R.s = V.str (Str.ofString "is")) = false := decide_eq_false fun z => c (V.str.inj z)
        have gt : ¬ isR e = true := fun z => c (of_decide_eq_true z)
        refine ⟨false, congrArg V.bl di, iteF ⟨k1, k2, ?_⟩⟩
        rw [tk, List.filter_append, List.filter_cons_of_neg gt, List.filter_nil, List.append_nil]
        exact k3
    · rintro H' ⟨k1, k2, k3⟩
      rw [List.length_map, List.take_length] at k3
      have kb : ∀ b o, b ≠ D1 → H1 b = some o → upd H' D1 (.dK (es.map fun e => (.inr e.x, V.ref e.r))) b = some o := fun b o n1 eb => by
        rw [upd_ne n1]
        exact k1 b o n1 (ne_of_none eb nD1) eb
      have x2 : ExtN H (upd H' D1 (.dK (es.map fun e => (.inr e.x, V.ref e.r)))) := fun b o eb nt => kb b o (N1.2.2.2.ne eb nt) (e1 _ _ eb nt)
      refine ⟨k2, q _ D (es.filter isR) x2 ?_ ⟨by rw [upd_ne DD.symm]; exact k3, fun e he => ?_, ?_, ?_⟩ ?_ ?_⟩
      · intro p hp
        obtain ⟨ps, a1, a2, a3⟩ := T1 p hp
        refine ⟨ps, kb _ _ (ne_of a1 N1.1 (fun z => by cases z)) a1, a2, fun pos cv hcv => ?_⟩
        obtain ⟨c0, e1, e2⟩ := a3 pos cv hcv
        exact ⟨c0, e1, kb _ _ (ne_of e2 N1.1 (fun z => by unfold CodeO at z; cases z)) e2⟩
      · obtain ⟨r1, r2, r3⟩ := N1.2.1 e (List.mem_filter.mp he).1
        have aD : e.a ≠ D := by
          obtain ⟨kvs, n, _, d, _⟩ := r1
          exact ne_of_none d.1 nD1
        exact ⟨RowE.but r1 N1.1 kb r3, r2, aD⟩
      · exact N1.2.2.1.sublist ((List.filter_sublist).map _)
      · exact Fr0.back e1 (Fr0.of nD1)
      · have ff : ∀ l : List Ent, (l.filter isR).map (fun e => (e.x, e.R)) = (l.map fun e => (e.x, e.R)).filter fun p : Str × Rw => decide (p.2.s = Str.ofString "is") := fun l => by
          rw [List.filter_map]
          rfl
        rw [ff, ff]
        exact pm.filter _
      · exact srt.sublist ((List.filter_sublist).map _)
end
end SS
namespace SS
open PySem PySem.Spec PyProof.Rows L2 NumText LamX KyS
/-- a step: a row times a number, a row with another one so many times -/
inductive Stp where
  | tm (x : Str) (c : Int × Int)
  | ad (x y : Str) (c : Int × Int)
def Stp.nm : Stp → Str
  | .tm x _ => x
  | .ad x _ _ => x
def Stp.num : Stp → Int × Int
  | .tm _ c => c
  | .ad _ _ c => c
section
variable {P : Program} {w : World} {K : PySem.W.Frag} {mg : Str → Option Value} {base : Heap}
def StpAt (K : PySem.W.Frag) (H : Hp) (v : V) : Stp → Prop
  | .tm x c => ∃ s n, v = .ref s ∧ SqT K H s [.str (Str.ofString "times"), .str x, .ref n] ∧ FrT K H n c.1 c.2
  | .ad x y c => ∃ s n, v = .ref s ∧ SqT K H s [.str (Str.ofString "add"), .str x, .str y, .ref n] ∧ FrT K H n c.1 c.2
/-- a step on rows of these names -/
def Stp.Ok (names : List Str) : Stp → Prop
  | .tm x c => x ∈ names ∧ c.1 ≠ 0 ∧ Okb 1400 c
  | .ad x y c => x ∈ names ∧ y ∈ names ∧ x ≠ y ∧ Okb 1400 c
theorem StpAt.extN {H H' : Hp} {v : V} {t : Stp} (h : StpAt K H v t) (e : ExtN H H') : StpAt K H' v t := by
  cases t with
  | tm x c =>
    obtain ⟨s, n, e1, h1, h2⟩ := h
    exact ⟨s, n, e1, KyS.SqT.extN h1 e, h2.extN e⟩
  | ad x y c =>
    obtain ⟨s, n, e1, h1, h2⟩ := h
    exact ⟨s, n, e1, KyS.SqT.extN h1 e, h2.extN e⟩
/-! ### names_row -/
def spNamesRow : Sp := fun vs H Q _ => ∃ (D : Addr) (kvs : List (Key × V)) (x : Str), vs = [.ref D, .str x] ∧ H D = some (.dK kvs) ∧ Q (.bl (valV kvs (.inr x)).isSome) H
theorem scNamesRow : FnScope ["equals", "thing"] ["equals", "thing"] (defScope sNamesRow) := ⟨rfl, rfl, rfl, by decide +kernel, rfl, by decide +kernel, by decide +kernel⟩
theorem ok_namesrow {f : Addr} {fd : FuncData} {k : Nat} (F : Fun K "names_row" "names_row" sNamesRow f fd) (mi : mg "isinstance" = none) (mst : mg "str" = none) : FnOk P w K mg base CX0 (k + 1) f fd ["equals", "thing"] spNamesRow := by
  refine F.ok scNamesRow (fun vs H Q E h => ?_) (fun cdv A outer s H vs Q E hr h => ?_)
  · obtain ⟨_, _, _, rfl, _⟩ := h
    rfl
  · obtain ⟨D, kvs, x, rfl, hD, q⟩ := h
    have hu := hu_of hr
    refine ⟨_, pss_one (ps_ret (pe_and (pe_callB call_isi (by rfl) mi boot_isinstance (pa_cons (pv 1) (pa_cons (pe_bltn (v := .ty "str") (u := .type "str") (by rfl) mst (by decide +kernel) rfl) pa_nil))) (pe_one (pe_cmp (pc_din hu (pv 1) (pv 0)))))), ?_⟩
    refine ⟨_, rfl, .str x, .ty "str", .type "str", .type "str", true, rfl, .ty _, .base (.str x), kit_ty (by decide +kernel), _, rfl, iteT ?_⟩
    refine ⟨_, rfl, _, rfl, D, _, rfl, DGet.k (k := .inr x) hD, q⟩
/-! ### fits_times, fits_add, fits_step -/
def spFitsTm (K : PySem.W.Frag) : Sp := fun vs H Q _ => ∃ (D : Addr) (kvs : List (Key × V)) (v : V) (x : Str) (c : Int × Int), vs = [.ref D, v] ∧ H D = some (.dK kvs) ∧ (valV kvs (.inr x)).isSome = true ∧ StpAt K H v (.tm x c) ∧ c.1 ≠ 0 ∧ Okb 1400 c ∧ Q (.bl true) H
theorem okb_frac {H : Hp} {n : Addr} {c : Int × Int} (h : FrT K H n c.1 c.2) (ok : Okb 1400 c) : FracB K H (.ref n) true := .inr ⟨n, _, rfl, h.1, .inr ⟨_, _, rfl, .inl ⟨_, _, rfl, rfl, (decide_eq_true ⟨ok.1, ok.2.2.2⟩).symm⟩⟩⟩
theorem scFitsTm : FnScope ["equals", "step", "word", "name", "number"] ["equals", "step"] (defScope sFitsTm) := ⟨rfl, rfl, rfl, by decide +kernel, rfl, by decide +kernel, by decide +kernel⟩
theorem ok_fitstm {f aN : Addr} {fd : FuncData} (F : Fun K "fits_times" "fits_times" sFitsTm f fd) (gN : mg "NOUGHT" = some (.ref aN)) (hN : ∀ H, FrT K H aN 0 1) (nr : Cl P w K mg base CX0 1 "names_row" spNamesRow []) (ff : Cl P w K mg base CX0 2 "fits_fraction" (spFFrac K) []) :
    FnOk P w K mg base CX0 3 f fd ["equals", "step"] (spFitsTm K) := by
  refine F.ok scFitsTm (fun vs H Q E h => ?_) (fun cdv A outer s H vs Q E hr h => ?_)
  · obtain ⟨_, _, _, _, _, rfl, _⟩ := h
    rfl
  · obtain ⟨D, kvs, v, x, c, rfl, hD, hx, ⟨st, n, rfl, hs, hn⟩, c0, ok, q⟩ := h
    refine ⟨_, pss_cons (ps_asg (pv 1) (pg_tup rfl (pgs_cons (pg_name (i := 2) scFitsTm.nd rfl (.inl rfl)) (pgs_cons (pg_name (i := 3) scFitsTm.nd rfl (.inl rfl)) (pgs_cons (pg_name (i := 4) scFitsTm.nd rfl (.inl rfl)) pgs_nil)))))
      (pss_one (ps_ret (pe_and (pe_cmpR op_eq (pv 2) pe_str (nomark _)) (pe_and (pc0 nr hr (by decide) (pa_cons (pv 0) (pa_cons (pv 3) pa_nil))) (pe_and (pc0 ff hr (by decide) (pa_cons (pv 4) pa_nil)) (pe_one (pe_cmpR (op_neD hr.units) (pv 4) (pe_glob (v := .ref aN) (by rfl) gN rfl) (nomark _)))))))), ?_⟩
    refine ⟨_, rfl, st, _, rfl, hs, rfl, _, _, rfl, _, _, rfl, _, _, rfl, rfl, ?_⟩
    refine ⟨_, rfl, rfl, true, rfl, iteT ?_⟩
    refine ⟨_, rfl, _, rfl, D, kvs, x, rfl, hD, _, rfl, ?_⟩
    rw [hx]
    refine iteT ⟨_, rfl, _, true, rfl, okb_frac hn ok, _, rfl, iteT ?_⟩
    have q' : Q (.bl (!PyData.eqv (.tuple [.int c.1, .int c.2]) (.tuple [.int 0, .int 1]))) H := by
      rw [eqv_nought]
      have z : (c.1 == 0) = false := by simpa using c0
      rw [z]
      exact q
    exact ⟨_, rfl, .tuple [.int c.1, .int c.2], .tuple [.int 0, .int 1], .tup hn.1 (.cons (.int _) (.cons (.int _) .nil)), .tup (hN _).1 (.cons (.int _) (.cons (.int _) .nil)), rfl, rfl, q'⟩
def spFitsAdd (K : PySem.W.Frag) : Sp := fun vs H Q _ => ∃ (D : Addr) (kvs : List (Key × V)) (v : V) (x y : Str) (c : Int × Int), vs = [.ref D, v] ∧ H D = some (.dK kvs) ∧ (valV kvs (.inr x)).isSome = true ∧ (valV kvs (.inr y)).isSome = true ∧ StpAt K H v (.ad x y c) ∧ x ≠ y ∧ Okb 1400 c ∧ Q (.bl true) H
theorem scFitsAdd : FnScope ["equals", "step", "word", "name", "other", "number"] ["equals", "step"] (defScope sFitsAdd) := ⟨rfl, rfl, rfl, by decide +kernel, rfl, by decide +kernel, by decide +kernel⟩
theorem ok_fitsadd {f : Addr} {fd : FuncData} (F : Fun K "fits_add" "fits_add" sFitsAdd f fd) (nr : Cl P w K mg base CX0 1 "names_row" spNamesRow []) (ff : Cl P w K mg base CX0 2 "fits_fraction" (spFFrac K) []) :
    FnOk P w K mg base CX0 3 f fd ["equals", "step"] (spFitsAdd K) := by
  refine F.ok scFitsAdd (fun vs H Q E h => ?_) (fun cdv A outer s H vs Q E hr h => ?_)
  · obtain ⟨_, _, _, _, _, _, rfl, _⟩ := h
    rfl
  · obtain ⟨D, kvs, v, x, y, c, rfl, hD, hx, hy, ⟨st, n, rfl, hs, hn⟩, xy, ok, q⟩ := h
    refine ⟨_, pss_cons (ps_asg (pv 1) (pg_tup rfl (pgs_cons (pg_name (i := 2) scFitsAdd.nd rfl (.inl rfl)) (pgs_cons (pg_name (i := 3) scFitsAdd.nd rfl (.inl rfl)) (pgs_cons (pg_name (i := 4) scFitsAdd.nd rfl (.inl rfl)) (pgs_cons (pg_name (i := 5) scFitsAdd.nd rfl (.inl rfl)) pgs_nil))))))
      (pss_cons (ps_if (PW.pt (pw_or (pt_cmpR op_ne (pv 2) pe_str (nomark _)) (pw_or (pt_not (pt_val (pc0 nr hr (by decide) (pa_cons (pv 0) (pa_cons (pv 3) pa_nil))))) (pw_or1 (pt_not (pt_val (pc0 nr hr (by decide) (pa_cons (pv 0) (pa_cons (pv 4) pa_nil))))))))) (pss_one (ps_ret pe_bl)) pss_nil)
      (pss_one (ps_ret (pe_and (pe_cmpR op_ne (pv 3) (pv 4) (nomark _)) (pe_one (pc0 ff hr (by decide) (pa_cons (pv 5) pa_nil))))))), ?_⟩
    refine ⟨_, rfl, st, _, rfl, hs, rfl, _, _, rfl, _, _, rfl, _, _, rfl, _, _, rfl, rfl, ?_⟩
    refine ⟨_, rfl, rfl, false, rfl, iteF ?_⟩
    refine ⟨_, rfl, _, rfl, D, kvs, x, rfl, hD, _, rfl, ?_⟩
    rw [hx]
    refine iteF ⟨_, rfl, _, rfl, D, kvs, y, rfl, hD, _, rfl, ?_⟩
    rw [hy]
    have nx : (!decide (V.str x = V.str y)) = true := by
      rw [decide_eq_false fun z => xy (V.str.inj z)]
      rfl
    refine iteF ⟨_, rfl, _, rfl, rfl, true, congrArg V.bl nx, iteT ⟨_, rfl, _, true, rfl, okb_frac hn ok, q⟩⟩
def spFitsStep (K : PySem.W.Frag) : Sp := fun vs H Q _ => ∃ (D : Addr) (kvs : List (Key × V)) (names : List Str) (v : V) (t : Stp), vs = [.ref D, v] ∧ H D = some (.dK kvs) ∧ (∀ x ∈ names, (valV kvs (.inr x)).isSome = true) ∧ StpAt K H v t ∧ t.Ok names ∧ Q (.bl true) H
theorem scFitsStep : FnScope ["equals", "step"] ["equals", "step"] (defScope sFitsStep) := ⟨rfl, rfl, rfl, by decide +kernel, rfl, by decide +kernel, by decide +kernel⟩
theorem ok_fitsstep {f : Addr} {fd : FuncData} (F : Fun K "fits_step" "fits_step" sFitsStep f fd) (mi : mg "isinstance" = none) (mt : mg "tuple" = none) (ml : mg "len" = none) (ft : Cl P w K mg base CX0 3 "fits_times" (spFitsTm K) []) (fa : Cl P w K mg base CX0 3 "fits_add" (spFitsAdd K) []) :
    FnOk P w K mg base CX0 4 f fd ["equals", "step"] (spFitsStep K) := by
  refine F.ok scFitsStep (fun vs H Q E h => ?_) (fun cdv A outer s H vs Q E hr h => ?_)
  · obtain ⟨_, _, _, _, _, rfl, _⟩ := h
    rfl
  · obtain ⟨D, kvs, names, v, t, rfl, hD, hx, hs, ho, q⟩ := h
    refine ⟨_, pss_cons (ps_if (pt_not (pt_val (pe_callB call_isi (by rfl) mi boot_isinstance (pa_cons (pv 1) (pa_cons (pe_bltn (v := .ty "tuple") (u := .type "tuple") (by rfl) mt (by decide +kernel) rfl) pa_nil))))) (pss_one (ps_ret pe_bl)) pss_nil)
      (pss_cons (ps_if (pt_cmpR op_eq (pe_callB call_len_seq (by rfl) ml PySem.boot_len (pa_cons (pv 1) pa_nil)) pe_int (nomark _)) (pss_one (ps_ret (pc0 ft hr (by decide) (pa_cons (pv 0) (pa_cons (pv 1) pa_nil))))) pss_nil)
      (pss_one (ps_ret (pe_and (pe_cmpR op_eq (pe_callB call_len_seq (by rfl) ml PySem.boot_len (pa_cons (pv 1) pa_nil)) pe_int (nomark _)) (pe_one (pc0 fa hr (by decide) (pa_cons (pv 0) (pa_cons (pv 1) pa_nil)))))))), ?_⟩
    cases t with
    | tm x c =>
      have hs' := hs
      obtain ⟨st, n, rfl, h1, h2⟩ := hs'
      refine ⟨_, rfl, .ref st, .ty "tuple", .type "tuple", .type "tuple", true, rfl, .ty _, SqT.ty h1, kit_ty (by decide +kernel), _, rfl, iteF ?_⟩
      refine ⟨_, rfl, st, _, rfl, .inr h1, rfl, true, rfl, iteT ?_⟩
      exact ⟨_, rfl, _, rfl, D, kvs, .ref st, x, c, rfl, hD, hx x ho.1, hs, ho.2.1, ho.2.2, q⟩
    | ad x y c =>
      have hs' := hs
      obtain ⟨st, n, rfl, h1, h2⟩ := hs'
      refine ⟨_, rfl, .ref st, .ty "tuple", .type "tuple", .type "tuple", true, rfl, .ty _, SqT.ty h1, kit_ty (by decide +kernel), _, rfl, iteF ?_⟩
      refine ⟨_, rfl, st, _, rfl, .inr h1, rfl, false, rfl, iteF ?_⟩
      refine ⟨_, rfl, st, _, rfl, .inr h1, rfl, true, rfl, iteT ?_⟩
      exact ⟨_, rfl, _, rfl, D, kvs, .ref st, x, y, c, rfl, hD, hx x ho.1, hx y ho.2.1, hs, ho.2.2.1, ho.2.2.2, q⟩
end
end SS
namespace SS
open PySem PySem.Spec PyProof.Rows L2 NumText LamX KyS
section
variable {P : Program} {w : World} {K : PySem.W.Frag} {mg : Str → Option Value} {base : Heap}
/-- a row behind a step; the row that the step names second -/
def Rw.step (R R2 : Rw) : Stp → Rw
  | .tm _ c => ⟨fun k => ftimes (R.f k) c, R.s, ftimes R.n c⟩
  | .ad _ _ c => ⟨fun k => fplus (R.f k) (ftimes (R2.f k) c), R.s, fplus R.n (ftimes R2.n c)⟩
def Rw.Okb (n : Nat) (R : Rw) : Prop := (∀ k, SS.Okb n (R.f k)) ∧ SS.Okb n R.n
def Stp.nm2 : Stp → Str
  | .tm x _ => x
  | .ad _ y _ => y
def spRowBehind (K : PySem.W.Frag) : Sp := fun vs H Q _ => ∃ (D : Addr) (kvs : List (Key × V)) (v : V) (t : Stp) (r a r2 a2 : Addr) (R R2 : Rw) (m : Nat), vs = [.ref D, v] ∧ H D = some (.dK kvs) ∧ StpAt K H v t ∧ valV kvs (.inr t.nm) = some (.ref r) ∧ valV kvs (.inr t.nm2) = some (.ref r2) ∧
  RowE K m H r a R ∧ RowE K m H r2 a2 R2 ∧ m ≤ 20 ∧ R.Okb 1400 ∧ R2.Okb 1400 ∧ SS.Okb 1400 t.num ∧ (R.step R2 t).Okb 1400 ∧ ∀ H' r' a', Same H H' → H r' = none → H a' = none → RowE K (m + m) H' r' a' (R.step R2 t) → Q (.ref r') H'
theorem scRowBehind : FnScope ["equals", "step", "one", "sort", "bound", "number", "other"] ["equals", "step"] (defScope sRowBehind) := ⟨rfl, rfl, rfl, by decide +kernel, rfl, by decide +kernel, by decide +kernel⟩
theorem two_of {H : Hp} {p q : Addr} {A B : Int × Int} {n k : Nat} (hp : FrT K H p A.1 A.2) (hq : FrT K H q B.1 B.2) (ha : SS.Okb n A) (hb : SS.Okb k B) (hn : n ≤ 3000) (hk : k ≤ 3000) : Two K H [.ref p, .ref q] A.1 A.2 B.1 B.2 :=
  ⟨p, q, rfl, hp, hq, ha.1, hb.1, sm_mono ha.2.1 hn, sm_mono ha.2.2.1 hn, sm_mono hb.2.1 hk, sm_mono hb.2.2.1 hk, ha.2.2.2, hb.2.2.2⟩
theorem ok_rowbehind {f : Addr} {fd : FuncData} (F : Fun K "row_behind" "row_behind" sRowBehind f fd) (st : Cl P w K mg base CX0 4 "sum_times" (spSumTimes K) []) (sp : Cl P w K mg base CX0 5 "sum_plus" spSumPlus []) (tm : Cl P w K mg base CX0 3 "times" (spTimes K) []) (pl : Cl P w K mg base CX0 3 "plus" (spPlus K) []) :
    FnOk P w K mg base CX0 6 f fd ["equals", "step"] (spRowBehind K) := by
  refine F.ok scRowBehind (fun vs H Q E h => ?_) (fun cdv A outer s H vs Q E hr h => ?_)
  · obtain ⟨_, _, _, _, _, _, _, _, _, _, _, rfl, _⟩ := h
    rfl
  · obtain ⟨D, kvs, v, t, r, a, r2, a2, R, R2, m, rfl, hD, hs, hv, hv2, ⟨ks, n, e1, e2, e3, e4⟩, ⟨ks2, n2, g1, g2, g3, g4⟩, hm, okR, okR2, okc, okS, q⟩ := h
    have hu := hu_of hr
    refine ⟨_, pss_cons (ps_asg (pe_dget hu (pv 0) (pe_ix ix_tup (pv 1) pe_int (fun _ _ => rfl)) (fun _ _ => rfl)) (pg_tup rfl (pgs_cons (pg_name (i := 2) scRowBehind.nd rfl (.inl rfl)) (pgs_cons (pg_name (i := 3) scRowBehind.nd rfl (.inl rfl)) (pgs_cons (pg_name (i := 4) scRowBehind.nd rfl (.inl rfl)) pgs_nil)))))
      (pss_cons (ps_set (i := 5) scRowBehind.nd rfl (.inl rfl) (pe_ix ix_tup (pv 1) (pe_un un_neg pe_int) (fun _ _ => rfl)))
      (pss_cons (ps_if (pt_cmpR op_eq (pe_ix ix_tup (pv 1) pe_int (fun _ _ => rfl)) pe_str (nomark _)) (pss_one (ps_ret (pe_tup (pa_cons (pc0 st hr (by decide) (pa_cons (pv 2) (pa_cons (pv 5) pa_nil))) (pa_cons (pv 3) (pa_cons (pc0 tm hr (by decide) (pa_cons (pv 4) (pa_cons (pv 5) pa_nil))) pa_nil)))))) pss_nil)
      (pss_cons (ps_set (i := 6) scRowBehind.nd rfl (.inl rfl) (pe_dget hu (pv 0) (pe_ix ix_tup (pv 1) pe_int (fun _ _ => rfl)) (fun _ _ => rfl)))
      (pss_one (ps_ret (pe_tup (pa_cons (pc0 sp hr (by decide) (pa_cons (pv 2) (pa_cons (pc0 st hr (by decide) (pa_cons (pe_ix ix_tup (pv 6) pe_int (fun _ _ => rfl)) (pa_cons (pv 5) pa_nil))) pa_nil))) (pa_cons (pv 3) (pa_cons (pc0 pl hr (by decide) (pa_cons (pv 4) (pa_cons (pc0 tm hr (by decide) (pa_cons (pe_ix ix_tup (pv 6) pe_int (fun _ _ => rfl)) (pa_cons (pv 5) pa_nil))) pa_nil))) pa_nil))))))))), ?_⟩
    cases t with
    | tm x c =>
      obtain ⟨ss, cn, rfl, h1, h2⟩ := hs
      refine ⟨_, rfl, _, ⟨rfl, ss, _, 1, _, rfl, rfl, h1, atI_nat (j := 1) rfl, D, _, rfl, .inl ⟨kvs, .inr x, .inl hD, rfl, hv.symm⟩, ?_⟩⟩
      refine ⟨r, _, rfl, SqT.of e1, rfl, _, _, rfl, _, _, rfl, _, _, rfl, rfl, ?_⟩
      refine ⟨_, rfl, 1, rfl, ss, _, _, _, rfl, rfl, h1, rfl, ?_⟩
      refine ⟨_, rfl, ss, _, 0, _, rfl, rfl, h1, atI_nat (j := 0) rfl, rfl, true, rfl, iteT ?_⟩
      refine ⟨_, rfl, _, rfl, a, cn, ks, R.f, c, m, 1400, 1400, rfl, e2, h2, okR.1, okc, by omega, by omega, by omega, fun H1 c1 ks1 s1 nc1 d1 => ?_⟩
      refine ⟨_, rfl, _, rfl, _, rfl, R.n.1, R.n.2, c.1, c.2, two_of (e3.new s1) (h2.new s1) okR.2 okc (by decide) (by decide), fun p np => ?_⟩
      refine ⟨(by show 3 ≤ sizeLine; decide), fun t nt => ?_⟩
      have s2 := same_new (o := .tup [.int (fr1 (R.n.1 * c.1) (R.n.2 * c.2)), .int (fr2 (R.n.1 * c.1) (R.n.2 * c.2))]) np
      have s3 := same_new (o := .tup [.ref c1, .str R.s, .ref p]) nt
      exact q _ t c1 ((s1.trans s2).trans s3) (s1.free (s2.free nt)) nc1 ⟨ks1, p, upd_same, ((d1.same s2).same s3).mono (by omega), (FrT.of upd_same).new s3, e4⟩
    | ad x y c =>
      obtain ⟨ss, cn, rfl, h1, h2⟩ := hs
      refine ⟨_, rfl, _, ⟨rfl, ss, _, 1, _, rfl, rfl, h1, atI_nat (j := 1) rfl, D, _, rfl, .inl ⟨kvs, .inr x, .inl hD, rfl, hv.symm⟩, ?_⟩⟩
      refine ⟨r, _, rfl, SqT.of e1, rfl, _, _, rfl, _, _, rfl, _, _, rfl, rfl, ?_⟩
      refine ⟨_, rfl, 1, rfl, ss, _, _, _, rfl, rfl, h1, rfl, ?_⟩
      refine ⟨_, rfl, ss, _, 0, _, rfl, rfl, h1, atI_nat (j := 0) rfl, rfl, false, rfl, iteF ?_⟩
      refine ⟨_, rfl, _, ⟨rfl, ss, _, 2, _, rfl, rfl, h1, atI_nat (j := 2) rfl, D, _, rfl, .inl ⟨kvs, .inr y, .inl hD, rfl, hv2.symm⟩, ?_⟩⟩
      have okc' : SS.Okb 1400 c := okc
      have okT : ∀ k, SS.Okb 2800 (ftimes (R2.f k) c) := fun k => okb_times (okR2.1 k) okc'
      refine ⟨_, rfl, _, rfl, r2, _, 0, _, rfl, rfl, SqT.of g1, atI_nat (j := 0) rfl, _, rfl, a2, cn, ks2, R2.f, c, m, 1400, 1400, rfl, g2, h2, okR2.1, okc', by omega, by omega, by omega, fun H1 c1 ks1 s1 nc1 d1 => ?_⟩
      refine ⟨a, c1, ks, ks1, R.f, _, m, m, 2800, rfl, e2.same s1, d1, fun k => (okR.1 k).mono (by decide), okT, by omega, fun k => (okS.1 k).mono (by decide), by decide, fun H2 c2 ks' s2 nc2 d2 => ?_⟩
      have S2 := s1.trans s2
      refine ⟨_, rfl, _, rfl, _, rfl, r2, _, 2, _, rfl, rfl, SqT.of (S2 _ _ g1), atI_nat (j := 2) rfl, _, rfl, R2.n.1, R2.n.2, c.1, c.2, two_of (g3.new S2) (h2.new S2) okR2.2 okc' (by decide) (by decide), fun p np => ?_⟩
      have s3 := same_new (o := .tup [.int (fr1 (R2.n.1 * c.1) (R2.n.2 * c.2)), .int (fr2 (R2.n.1 * c.1) (R2.n.2 * c.2))]) np
      have fp : FrT K _ p (ftimes R2.n c).1 (ftimes R2.n c).2 := FrT.of (upd_same (H := H2) (a := p) (o := .tup [.int (fr1 (R2.n.1 * c.1) (R2.n.2 * c.2)), .int (fr2 (R2.n.1 * c.1) (R2.n.2 * c.2))]))
      refine ⟨R.n.1, R.n.2, (ftimes R2.n c).1, (ftimes R2.n c).2, two_of (e3.new (S2.trans s3)) fp okR.2 (okb_times okR2.2 okc') (by decide) (by decide), fun p2 np2 => ?_⟩
      refine ⟨(by show 3 ≤ sizeLine; decide), fun t nt => ?_⟩
      have s4 := same_new (o := .tup [.int (fplus R.n (ftimes R2.n c)).1, .int (fplus R.n (ftimes R2.n c)).2]) np2
      have s5 := same_new (o := .tup [.ref c2, .str R.s, .ref p2]) nt
      exact q _ t c2 (((S2.trans s3).trans s4).trans s5) (S2.free (s3.free (s4.free nt))) (s1.free nc2) ⟨ks', p2, upd_same, ((d2.same s3).same s4).same s5, (FrT.of upd_same).new s5, e4⟩
end
end SS
namespace SS
open PySem PySem.Spec PyProof.Rows L2 NumText LamX KyS
theorem ps_never {X : Cx} {st : PySem.Stmt} : PS X st (fun _ _ _ => False) := ⟨fun _ _ _ _ _ _ h => h.elim⟩
/-! ### the plain reckoning of steps -/
abbrev Nm := Str × Rw
def look (L : List Nm) (y : Str) : Rw := ((L.find? fun q => decide (q.1 = y)).map (·.2)).getD ⟨fun _ => (0, 1), "is", (0, 1)⟩
def stepM (L : List Nm) (t : Stp) : List Nm := L.map fun q => if q.1 = t.nm then (q.1, q.2.step (look L t.nm2) t) else q
def Rw.In (U : List Str) (R : Rw) : Prop := ∀ k, (R.f k).1 ≠ 0 → k ∈ U.map fun x => (Sum.inr x : Key)
theorem stepM_names (L : List Nm) (t : Stp) : (stepM L t).map (·.1) = L.map (·.1) := by
  unfold stepM
  rw [List.map_map]
  refine List.map_congr_left fun q _ => ?_
  show (if q.1 = t.nm then (q.1, q.2.step (look L t.nm2) t) else q).1 = q.1
  split <;> rfl
theorem look_mem {L : List Nm} {y : Str} (h : y ∈ L.map (·.1)) : (y, look L y) ∈ L := by
  unfold look
  cases e : L.find? fun q => decide (q.1 = y) with
  | none =>
    obtain ⟨q, hq, e2⟩ := List.mem_map.mp h
    have z := List.find?_eq_none.mp e q hq
    exact absurd (decide_eq_true e2) z
  | some q =>
    have z := of_decide_eq_true (List.find?_some (p := fun q : Nm => decide (q.1 = y)) e)
    have m := List.mem_of_find?_eq_some e
    rw [← z]
    exact m
theorem RowE.tight {K : PySem.W.Frag} {m : Nat} {H : Hp} {r a : Addr} {R : Rw} {U : List Str} (h : RowE K m H r a R) (u : R.In U) : RowE K U.length H r a R := by
  obtain ⟨kvs, n, h1, h2, h3, h4⟩ := h
  refine ⟨kvs, n, h1, ⟨h2.1, h2.2.1, ?_, h2.2.2.2⟩, h3, h4⟩
  have s : (kvs.map (·.1)) ⊆ U.map fun x => (Sum.inr x : Key) := fun k hk => by
    obtain ⟨p, hp, rfl⟩ := List.mem_map.mp hk
    exact u _ ((h2.2.2.2.1 p hp).2.2 trivial)
  have z := (List.nodup_iff_pairwise_ne.mp h2.2.1)
  have := List.Nodup.length_le_of_subset h2.2.1 s
  rw [List.length_map, List.length_map] at this
  exact this
section
variable {P : Program} {w : World} {K : PySem.W.Frag} {mg : Str → Option Value} {base : Heap}
/-- the dict's rows put anew -/
def repl (es : List Ent) (x : Str) (R : Rw) (r a : Addr) : List Ent := es.map fun e => if e.x = x then ⟨e.t, e.x, R, r, a⟩ else e
theorem putK_ents {es : List Ent} {x : Str} {R : Rw} {r a : Addr} (h : x ∈ es.map (·.x)) :
    putK (es.map fun e => ((Sum.inr e.x : Key), V.ref e.r)) (.inr x) (.ref r) = (repl es x R r a).map fun e => ((Sum.inr e.x : Key), V.ref e.r) := by
  obtain ⟨e, he, ex⟩ := List.mem_map.mp h
  unfold putK repl
  rw [if_pos (List.any_eq_true.mpr ⟨(Sum.inr e.x, V.ref e.r), List.mem_map.mpr ⟨e, he, rfl⟩, decide_eq_true (by rw [← ex])⟩), List.map_map, List.map_map]
  refine List.map_congr_left fun g _ => ?_
  show (if (Sum.inr g.x : Key) = Sum.inr x then ((Sum.inr g.x : Key), V.ref r) else (Sum.inr g.x, V.ref g.r)) = (Sum.inr (if g.x = x then (⟨g.t, g.x, R, r, a⟩ : Ent) else g).x, V.ref (if g.x = x then (⟨g.t, g.x, R, r, a⟩ : Ent) else g).r)
  by_cases c : g.x = x
  · rw [if_pos (by rw [c]), if_pos c]
  · rw [if_neg (fun z => c (Sum.inr.inj z)), if_neg c]
theorem repl_nr {es : List Ent} {x : Str} {R : Rw} {r a : Addr} : (repl es x R r a).map (fun e => (e.x, e.R)) = (es.map fun e => (e.x, e.R)).map fun q => if q.1 = x then (q.1, R) else q := by
  unfold repl
  rw [List.map_map, List.map_map]
  refine List.map_congr_left fun g _ => ?_
  show ((if g.x = x then (⟨g.t, g.x, R, r, a⟩ : Ent) else g).x, (if g.x = x then (⟨g.t, g.x, R, r, a⟩ : Ent) else g).R) = if g.x = x then (g.x, R) else (g.x, g.R)
  split <;> rfl
theorem repl_a {es : List Ent} {x : Str} {R : Rw} {r a : Addr} (nx : (es.map (·.x)).Nodup) (nd : (es.map (·.a)).Nodup) (n : ∀ e ∈ es, e.a ≠ a) : ((repl es x R r a).map (·.a)).Nodup := by
  unfold repl
  rw [List.map_map]
  have e : ((fun e : Ent => e.a) ∘ fun e : Ent => if e.x = x then (⟨e.t, e.x, R, r, a⟩ : Ent) else e) = fun e => if e.x = x then a else e.a := by
    funext g
    show (if g.x = x then (⟨g.t, g.x, R, r, a⟩ : Ent) else g).a = _
    split <;> rfl
  rw [e]
  clear e
  induction es with
  | nil => exact List.nodup_nil
  | cons g es ih =>
    rw [List.map_cons] at nx nd ⊢
    obtain ⟨x1, x2⟩ := List.nodup_cons.mp nx
    obtain ⟨a1, a2⟩ := List.nodup_cons.mp nd
    refine List.nodup_cons.mpr ⟨fun z => ?_, ih x2 a2 fun e he => n e (List.mem_cons_of_mem _ he)⟩
    obtain ⟨q, hq, eq⟩ := List.mem_map.mp z
    by_cases c : g.x = x
    · have c2 : q.x ≠ x := fun y => x1 (List.mem_map.mpr ⟨q, hq, y.trans c.symm⟩)
      rw [if_pos c, if_neg c2] at eq
      exact n q (List.mem_cons_of_mem _ hq) eq
    · rw [if_neg c] at eq
      by_cases c2 : q.x = x
      · rw [if_pos c2] at eq
        exact n g List.mem_cons_self eq.symm
      · rw [if_neg c2] at eq
        exact a1 (List.mem_map.mpr ⟨q, hq, eq⟩)
end
end SS
namespace SS
open PySem PySem.Spec PyProof.Rows L2 NumText LamX KyS
section
variable {P : Program} {w : World} {K : PySem.W.Frag} {mg : Str → Option Value} {base : Heap}
/-- the state on the way: like NewD, the abstract heap H the one at the entry -/
structure Cur (K : PySem.W.Frag) (U : List Str) (H H' : Hp) (D : Addr) (es : List Ent) : Prop where
  d : NewD K U.length H H' D es
  nd : (es.map (·.x)).Nodup
  ln : es.length ≤ 400
  sup : ∀ e ∈ es, e.R.In U
  ok : ∀ e ∈ es, e.R.Okb 1400
def nr (e : Ent) : Nm := (e.x, e.R)
theorem nr_look {es : List Ent} (nd : (es.map (·.x)).Nodup) {e : Ent} (h : e ∈ es) : look (es.map nr) e.x = e.R := by
  have hm : e.x ∈ (es.map nr).map (·.1) := List.mem_map.mpr ⟨nr e, List.mem_map.mpr ⟨e, h, rfl⟩, rfl⟩
  obtain ⟨g, hg, eg⟩ := List.mem_map.mp (look_mem hm)
  have ex : g.x = e.x := congrArg Prod.fst eg
  have er : g.R = look (es.map nr) e.x := congrArg Prod.snd eg
  have : g = e := by
    obtain ⟨i, hi⟩ := List.mem_iff_getElem?.mp hg
    obtain ⟨j, hj⟩ := List.mem_iff_getElem?.mp h
    have q1 : (es.map (·.x))[i]? = some e.x := by rw [List.getElem?_map, hi, ← ex]; rfl
    have q2 : (es.map (·.x))[j]? = some e.x := by rw [List.getElem?_map, hj]; rfl
    have z := (List.getElem?_inj (List.getElem?_eq_some_iff.mp q1).1 nd).mp (q1.trans q2.symm)
    rw [z, hj] at hi
    exact (Option.some.inj hi).symm
  rw [← er, this]
/-- a step done to the dict -/
theorem Cur.step {U : List Str} {H H1 H2 : Hp} {D : Addr} {es : List Ent} {t : Stp} {e e2 : Ent} {r' a' : Addr} (c : Cur K U H H1 D es) (he : e ∈ es) (he2 : e2 ∈ es) (hx : e.x = t.nm) (hx2 : e2.x = t.nm2) (s : Same H1 H2) (hr : H1 r' = none) (ha : H1 a' = none) (x01 : ExtN H H1)
    (row : RowE K (U.length + U.length) H2 r' a' (e.R.step e2.R t)) (ok : (e.R.step e2.R t).Okb 1400) (iu : (e.R.step e2.R t).In U) :
    Cur K U H (upd H2 D (.dK (putK (es.map fun e => (.inr e.x, V.ref e.r)) (.inr t.nm) (.ref r')))) D (repl es t.nm (e.R.step e2.R t) r' a') ∧ (repl es t.nm (e.R.step e2.R t) r' a').map nr = stepM (es.map nr) t := by
  have hD := s _ _ c.d.1
  have aD : a' ≠ D := fun z => by rw [z, c.d.1] at ha; cases ha
  have mx : t.nm ∈ es.map (·.x) := List.mem_map.mpr ⟨e, he, hx⟩
  have l2 : look (es.map nr) t.nm2 = e2.R := by rw [← hx2]; exact nr_look c.nd he2
  have rp : ∀ g ∈ repl es t.nm (e.R.step e2.R t) r' a', (g.R = e.R.step e2.R t ∧ g.r = r' ∧ g.a = a') ∨ g ∈ es := fun g hg => by
    obtain ⟨q, hq, eq⟩ := List.mem_map.mp hg
    by_cases z : q.x = t.nm
    · rw [if_pos z] at eq
      rw [← eq]
      exact .inl ⟨rfl, rfl, rfl⟩
    · rw [if_neg z] at eq
      rw [← eq]
      exact .inr hq
  have fa : ∀ g ∈ es, g.a ≠ a' := fun g hg z => by
    obtain ⟨⟨kg, ng, r1, r2, _⟩, _⟩ := c.d.2.1 g hg
    rw [← z, r2.1] at ha
    cases ha
  have ex : (repl es t.nm (e.R.step e2.R t) r' a').map (·.x) = es.map (·.x) := by
    unfold repl
    rw [List.map_map]
    refine List.map_congr_left fun g _ => ?_
    show (if g.x = t.nm then (⟨g.t, g.x, _, r', a'⟩ : Ent) else g).x = g.x
    split <;> rfl
  refine ⟨⟨⟨?_, fun g hg => ?_, repl_a c.nd c.d.2.2.1 fa, c.d.2.2.2⟩, by rw [ex]; exact c.nd, ?_, fun g hg => ?_, fun g hg => ?_⟩, ?_⟩
  · rw [upd_same, putK_ents mx]
  · rcases rp g hg with ⟨z1, z2, z3⟩ | z
    · rw [z1, z2, z3]
      refine ⟨RowE.but (row.tight iu) hD (fun b o n q => by rw [upd_ne n]; exact q) aD, Fr0.back x01 (Fr0.of ha), aD⟩
    · obtain ⟨r1, r2, r3⟩ := c.d.2.1 g z
      exact ⟨RowE.but (RowE.extN r1 (ExtN.same s)) hD (fun b o n q => by rw [upd_ne n]; exact q) r3, r2, r3⟩
  · unfold repl
    rw [List.length_map]
    exact c.ln
  · rcases rp g hg with ⟨z1, _⟩ | z
    · rw [z1]
      exact iu
    · exact c.sup g z
  · rcases rp g hg with ⟨z1, _⟩ | z
    · rw [z1]
      exact ok
    · exact c.ok g z
  · have z : (repl es t.nm (e.R.step e2.R t) r' a').map nr = (es.map nr).map fun q => if q.1 = t.nm then (q.1, e.R.step e2.R t) else q := repl_nr
    rw [z]
    unfold stepM
    rw [List.map_map, List.map_map]
    refine List.map_congr_left fun g hg => ?_
    show (if g.x = t.nm then (g.x, e.R.step e2.R t) else nr g) = if g.x = t.nm then (g.x, g.R.step (look (es.map nr) t.nm2) t) else nr g
    by_cases y : g.x = t.nm
    · rw [if_pos y, if_pos y, l2]
      have e3 : g.R = e.R := by rw [← nr_look c.nd hg, ← nr_look c.nd he, y, hx]
      rw [e3]
    · rw [if_neg y, if_neg y]
end
end SS
namespace SS
open PySem PySem.Spec PyProof.Rows L2 NumText LamX KyS
/-! ### a for over a list or a tuple -/
theorem pi_or {X : Cx} {tg e : Expr} {w1 w2 : TI} (h1 : PI X tg e w1) (h2 : PI X tg e w2) : PI X tg e (fun σ H R => w1 σ H R ∨ w2 σ H R) :=
  ⟨fun pins s σ H R I h => h.elim (h1.run pins s σ H R I) (h2.run pins s σ H R I)⟩
def iSeqW (K : PySem.W.Frag) (te : TE) : TI := fun σ H R => iList K te σ H R ∨ iTup K te σ H R
theorem pi_seqA {X : Cx} {tg e : Expr} {te : TE} {K : PySem.W.Frag} (hK : K = X.K) (h : PE X e te) : PI X tg e (iSeqW K te) := by
  subst hK
  exact pi_or (pi_list h) (pi_tup h)
theorem for_seq {K : PySem.W.Frag} {b : Addr} {i : Nat} {xs : List V} {g : TG} {tb : TS} {D : Ends} {σ : L2.St} {H : Hp} (hv : σ[i]? = some (some (V.ref b))) (Pv : Nat → L2.St → Hp → Prop) (h0 : Pv 0 σ H) (hq : (∀ j σ' H', Pv j σ' H' → SqL K H' b xs) ∨ ∀ j σ' H', Pv j σ' H' → SqT K H' b xs)
    (hs : ∀ i x σ H, xs[i]? = some x → Pv i σ H → g x σ H fun σ2 H2 => tb { D with nx := Pv (i + 1), ct := Pv (i + 1), bk := D.nx } σ2 H2) (hd : ∀ σ H, Pv xs.length σ H → D.nx σ H) : tFor (iSeqW K (tVar i)) g tb D σ H := by
  rcases hq with hq | hq
  · exact .inl ⟨_, hv, b, rfl, ⟨_, hq 0 _ _ h0⟩, for_list (K := K) (a := b) (xs := xs) Pv h0 (fun j σ' H' _ p => hq j σ' H' p) hs hd⟩
  · exact .inr ⟨_, hv, b, rfl, ⟨_, hq 0 _ _ h0⟩, for_tup (K := K) (a := b) (xs := xs) Pv h0 (fun j σ' H' _ p => hq j σ' H' p) hs hd⟩
theorem step_in {U : List Str} {R R2 : Rw} {t : Stp} (h : R.In U) (h2 : R2.In U) (o : R.Okb 1400) (o2 : R2.Okb 1400) (oc : SS.Okb 1400 t.num) : (R.step R2 t).In U := fun k hk => by
  refine Classical.byContradiction fun n => hk ?_
  have z1 : R.f k = (0, 1) := okb_top0 (o.1 k) (Classical.byContradiction fun y => n (h k y))
  have z2 : R2.f k = (0, 1) := okb_top0 (o2.1 k) (Classical.byContradiction fun y => n (h2 k y))
  cases t with
  | tm x c =>
    show (ftimes (R.f k) c).1 = 0
    rw [z1, zero_ftimes (show SS.Okb 1400 c from oc)]
  | ad x y c =>
    show (fplus (R.f k) (ftimes (R2.f k) c)).1 = 0
    rw [z1, z2, zero_ftimes (show SS.Okb 1400 c from oc)]
    decide
theorem StpAt.one {K : PySem.W.Frag} {H : Hp} {v : V} {t : Stp} (h : StpAt K H v t) : ∃ ss xs, v = .ref ss ∧ SqT K H ss xs ∧ atI xs 1 = some (.str t.nm) := by
  cases t with
  | tm x c =>
    obtain ⟨s, n, e, h1, _⟩ := h
    exact ⟨s, _, e, h1, rfl⟩
  | ad x y c =>
    obtain ⟨s, n, e, h1, _⟩ := h
    exact ⟨s, _, e, h1, rfl⟩
theorem Stp.Ok.nm {l : List Str} {t : Stp} (h : t.Ok l) : t.nm ∈ l ∧ t.nm2 ∈ l ∧ SS.Okb 1400 t.num := by
  cases t with
  | tm x c => exact ⟨h.1, h.1, h.2.2⟩
  | ad x y c => exact ⟨h.1, h.2.1, h.2.2.2⟩
theorem pairs_of {H : Hp} : ∀ (gs : List Ent) (ts : List Addr), Paired (fun (t : Addr) (q : Key × V) => H t = some (.tup [kV q.1, q.2])) ts (gs.map fun e => ((Sum.inr e.x : Key), V.ref e.r)) →
    ∃ es : List Ent, es.map nr = gs.map nr ∧ es.map (fun e => V.ref e.t) = ts.map V.ref ∧ es.map (·.a) = gs.map (·.a) ∧ ∀ e ∈ es, H e.t = some (.tup [.str e.x, .ref e.r]) ∧ ∃ g ∈ gs, g.R = e.R ∧ g.r = e.r ∧ g.a = e.a
  | [], ts, h => by
    cases h
    exact ⟨[], rfl, rfl, rfl, fun e he => by cases he⟩
  | g :: gs, ts, h => by
    cases h with
    | cons r p =>
      rename_i t ts'
      obtain ⟨es, e1, e2, e3, e4⟩ := pairs_of gs ts' p
      refine ⟨⟨t, g.x, g.R, g.r, g.a⟩ :: es, by rw [List.map_cons, List.map_cons, e1]; rfl, by rw [List.map_cons, List.map_cons, e2], by rw [List.map_cons, List.map_cons, e3], fun e he => ?_⟩
      rcases List.mem_cons.mp he with rfl | he
      · exact ⟨r, g, List.mem_cons_self, rfl, rfl, rfl⟩
      · obtain ⟨a1, g', hg, a2⟩ := e4 e he
        exact ⟨a1, g', List.mem_cons_of_mem _ hg, a2⟩
section
variable {P : Program} {w : World} {K : PySem.W.Frag} {mg : Str → Option Value} {base : Heap}
def isN (q : Nm) : Bool := decide (q.2.s = Str.ofString "is")
/-- a pair that was told -/
def PairE (K : PySem.W.Frag) (m : Nat) (H0 H : Hp) (e : Ent) : Prop := H e.t = some (.tup [.str e.x, .ref e.r]) ∧ RowE K m H e.r e.a e.R ∧ Fr0 H0 e.a
/-- the names rising of the rows "is", and that all is well on the way -/
def Way (U : List Str) (L : List Nm) (ts : List Stp) : Prop := ∀ L0 : List Nm, L0.Perm (L.filter isN) → (L0.map (·.1)).Pairwise leS → (∀ t ∈ ts, t.Ok (L0.map (·.1))) ∧ ∀ i, ∀ q ∈ (ts.take i).foldl stepM L0, q.2.In U ∧ q.2.Okb 1400
def spStepped (K : PySem.W.Frag) (T : List (Addr × Str)) : Sp := fun vs H Q _ => ∃ (a b : Addr) (zs : List Ent) (us : List V) (ts : List Stp) (U : List Str), vs = [.ref a, .ref b] ∧ SqA K H a (zs.map fun z => V.ref z.t) ∧ (∀ z ∈ zs, EntOk K U.length H z) ∧ (zs.map (·.x)).Nodup ∧ zs.length ≤ 400 ∧ U.length ≤ 20 ∧ LamX.Tabs T H ∧
  SqA K H b us ∧ Paired (StpAt K H) us ts ∧ Way U (zs.map nr) ts ∧
  ∀ (H' : Hp) (l : Addr) (es : List Ent) (L0 : List Nm), ExtN H H' → LamX.Tabs T H' → L0.Perm ((zs.map nr).filter isN) → (L0.map (·.1)).Pairwise leS → es.map nr = ts.foldl stepM L0 → H' l = some (.lst (es.map fun e => V.ref e.t)) → (∀ e ∈ es, PairE K U.length H H' e) → (es.map (·.a)).Nodup → Fr0 H l → Q (.ref l) H'
theorem scStepped : FnScope ["rows", "steps", "equals", "step"] ["rows", "steps"] (defScope sStepped) := ⟨rfl, rfl, rfl, by decide +kernel, rfl, by decide +kernel, by decide +kernel⟩
theorem ok_stepped {f : Addr} {fd : FuncData} {T : List (Addr × Str)} (F : Fun K "stepped" "stepped" sStepped f fd) (mli : mg "list" = none) (eb : Cl P w K mg base CX0 5 "equals_by_name" (spEbn K T) []) (fs : Cl P w K mg base CX0 4 "fits_step" (spFitsStep K) []) (rb : Cl P w K mg base CX0 6 "row_behind" (spRowBehind K) []) :
    FnOk P w K mg base CX0 7 f fd ["rows", "steps"] (spStepped K T) := by
  refine F.ok scStepped (fun vs H Q E h => ?_) (fun cdv A outer s H vs Q E hr h => ?_)
  · obtain ⟨_, _, _, _, _, _, rfl, _⟩ := h
    rfl
  · obtain ⟨a, b, zs, us, ts, U, rfl, hS, hz, nd, hl, hU, ht, hb, hst, way, q⟩ := h
    have hu := hu_of hr
    have lst : us.length = ts.length := Paired.length hst
    refine ⟨_, pss_cons (ps_set (i := 2) scStepped.nd rfl (.inl rfl) (pc0 eb hr (by decide) (pa_cons (pv 0) pa_nil)))
        (pss_cons (ps_for PassesOwn.never rfl (pi_seqA (K := K) rfl (pv 1)) (pg_name (i := 3) scStepped.nd rfl (.inl rfl))
          (pss_cons (ps_if (pt_not (pt_val (pc0 fs hr (by decide) (pa_cons (pv 2) (pa_cons (pv 3) pa_nil))))) (pss_one ps_never) pss_nil)
          (pss_one (ps_dput hu (pv 2) (pe_ix (ix_tupK (K := K) rfl) (pv 3) pe_int (fun _ _ => rfl)) (pc0 rb hr (by decide) (pa_cons (pv 2) (pa_cons (pv 3) pa_nil))) rfl))))
        (pss_one (ps_ret (LiI.pe_listItems rfl (pv 2) (by rfl) mli (by decide +kernel))))), ?_⟩
    refine ⟨_, rfl, a, zs, U.length, rfl, hS, hz, nd, hl, by omega, ht, fun H1 D es e1 T1 N1 pm srt => ?_⟩
    have pm' : (es.map nr).Perm ((zs.map nr).filter isN) := by
      have z : (zs.filter isR).map nr = (zs.map nr).filter isN := by
        rw [List.filter_map]
        rfl
      rw [← z]
      exact pm
    have srt' : ((es.map nr).map (·.1)).Pairwise leS := by
      rw [List.map_map]
      exact srt
    obtain ⟨okT, okW⟩ := way _ pm' srt'
    have hnx : (es.map nr).map (·.1) = es.map (·.x) := by
      rw [List.map_map]
      rfl
    have nde : (es.map (·.x)).Nodup := by
      have z : (((zs.map nr).filter isN).map (·.1)).Sublist ((zs.map nr).map (·.1)) := (List.filter_sublist).map _
      have z2 : ((zs.map nr).map (·.1)).Nodup := by
        rw [List.map_map]
        exact nd
      rw [← hnx]
      exact (pm'.map _).nodup_iff.mpr (z2.sublist z)
    have lle : es.length ≤ 400 := by
      have z := pm'.length_eq
      have z2 := List.length_filter_le isN (zs.map nr)
      rw [List.length_map] at z z2
      omega
    have cur0 : Cur K U H H1 D es := ⟨N1, nde, lle, fun e he => (okW 0 (nr e) (List.mem_map.mpr ⟨e, he, rfl⟩)).1, fun e he => (okW 0 (nr e) (List.mem_map.mpr ⟨e, he, rfl⟩)).2⟩
    have names : ∀ j, ((ts.take j).foldl stepM (es.map nr)).map (·.1) = es.map (·.x) := fun j => by
      have z : ∀ (l : List Stp) (L : List Nm), (l.foldl stepM L).map (·.1) = L.map (·.1) := fun l => by
        induction l with
        | nil => intro L; rfl
        | cons t l ih =>
          intro L
          rw [List.foldl_cons, ih, stepM_names]
      rw [z, hnx]
    refine for_seq (K := K) (b := b) (xs := us) rfl (fun i σ H' => ∃ (y3 : Option V) (gs : List Ent), σ = [some (.ref a), some (.ref b), some (.ref D), y3] ∧ (∀ x o, x ≠ D → H1 x = some o → H' x = some o) ∧ Cur K U H H' D gs ∧ gs.map nr = (ts.take i).foldl stepM (es.map nr))
      ⟨none, es, rfl, fun x o _ e => e, cur0, rfl⟩ ?_ ?_ ?_
    · have bD : ∀ {H' : Hp}, (∀ x o, x ≠ D → H1 x = some o → H' x = some o) → ExtN H H' := fun k b o eb nt => k _ _ (N1.2.2.2.ne eb nt) (e1 _ _ eb nt)
      rcases hb with hb | hb
      · exact .inl fun j σ' H' ⟨_, _, _, k, _⟩ => KyS.SqL.extN hb (bD k)
      · exact .inr fun j σ' H' ⟨_, _, _, k, _⟩ => KyS.SqT.extN hb (bD k)
    · rintro i v σ H' hv ⟨y3, gs, rfl, k1, cur, hg⟩
      have x01 : ExtN H H' := fun b o eb nt => k1 _ _ (N1.2.2.2.ne eb nt) (e1 _ _ eb nt)
      obtain ⟨t, hti, hst'⟩ := (paired_get hst).2 i v hv
      have st' := hst'.extN x01
      have hgx : gs.map (·.x) = es.map (·.x) := by
        have z := names i
        rw [← hg, List.map_map] at z
        exact z
      have okt := okT t (List.mem_of_getElem? hti)
      rw [hnx, ← hgx] at okt
      obtain ⟨n1, n2, n3⟩ := okt.nm
      obtain ⟨e, he, hx⟩ := List.mem_map.mp n1
      obtain ⟨g, hgm, hx2⟩ := List.mem_map.mp n2
      have some1 : ∀ x ∈ gs.map (·.x), (valV (gs.map fun e => ((Sum.inr e.x : Key), V.ref e.r)) (.inr x)).isSome = true := fun x hx => by
        obtain ⟨q, hq, rfl⟩ := List.mem_map.mp hx
        rw [val_ent cur.nd hq]
        rfl
      have v1 := val_ent cur.nd he
      rw [hx] at v1
      have v2 := val_ent cur.nd hgm
      rw [hx2] at v2
      have tk : (ts.take (i + 1)).foldl stepM (es.map nr) = stepM (gs.map nr) t := by
        rw [List.take_add_one, hti, hg, List.foldl_append]
        rfl
      have l2 : look (gs.map nr) t.nm2 = g.R := by
        rw [← hx2]
        exact nr_look cur.nd hgm
      have okS : (e.R.step g.R t).In U ∧ (e.R.step g.R t).Okb 1400 := by
        refine okW (i + 1) (e.x, e.R.step g.R t) ?_
        rw [tk]
        refine List.mem_map.mpr ⟨nr e, List.mem_map.mpr ⟨e, he, rfl⟩, ?_⟩
        show (if e.x = t.nm then (e.x, e.R.step (look (gs.map nr) t.nm2) t) else nr e) = _
        rw [if_pos hx, l2]
      obtain ⟨r1, _⟩ := cur.d.2.1 e he
      obtain ⟨r2, _⟩ := cur.d.2.1 g hgm
      refine ⟨_, rfl, _, rfl, D, _, gs.map (·.x), v, t, rfl, cur.d.1, some1, st', okt, true, rfl, iteF ?_⟩
      refine ⟨_, rfl, _, rfl, D, _, v, t, e.r, e.a, g.r, g.a, e.R, g.R, U.length, rfl, cur.d.1, st', v1, v2, r1, r2, hU, cur.ok e he, cur.ok g hgm, n3, okS.2, fun H2 r' a' s2 nr' na' row => ?_⟩
      obtain ⟨ss, xs, ev, hxs, hat⟩ := (st'.extN (ExtN.same s2)).one
      have step := cur.step he hgm hx hx2 s2 nr' na' x01 row okS.2 okS.1
      refine ⟨_, rfl, _, rfl, ss, xs, 1, _, ev, rfl, hxs, hat, D, _, rfl, DPut.k (k := .inr t.nm) (s2 _ _ cur.d.1) (small1000 (by rw [List.length_map]; have := cur.ln; omega)), _, _, rfl, fun x o n eb => ?_, step.1, by rw [step.2, tk]⟩
      rw [upd_ne n]
      exact s2 _ _ (k1 x o n eb)
    · rintro σ H' ⟨y3, gs, rfl, k1, cur, hg⟩
      have x01 : ExtN H H' := fun b o eb nt => k1 _ _ (N1.2.2.2.ne eb nt) (e1 _ _ eb nt)
      rw [lst, List.take_length] at hg
      refine ⟨_, rfl, D, _, rfl, cur.d.1, fun H2 l pts s2 nl2 _ _ hl2 pd => ?_⟩
      obtain ⟨es', q1, q2, q3, q4⟩ := pairs_of gs pts pd
      refine q H2 l es' (es.map nr) (x01.trans (ExtN.same s2)) ?_ pm' srt' (by rw [q1, hg]) (by rw [hl2, ← q2]) (fun e he => ?_) (by rw [q3]; exact cur.d.2.2.1) (Fr0.back x01 (Fr0.of nl2))
      · intro p hp
        obtain ⟨ps, a1, a2, a3⟩ := T1 p hp
        refine ⟨ps, s2 _ _ (k1 _ _ (ne_of a1 N1.1 (fun z => by cases z)) a1), a2, fun pos cv hcv => ?_⟩
        obtain ⟨c0, f1, f2⟩ := a3 pos cv hcv
        exact ⟨c0, f1, s2 _ _ (k1 _ _ (ne_of f2 N1.1 (fun z => by unfold CodeO at z; cases z)) f2)⟩
      · obtain ⟨a1, g, hg', a2, a3, a4⟩ := q4 e he
        obtain ⟨r1, f1, _⟩ := cur.d.2.1 g hg'
        rw [a2, a3, a4] at r1
        rw [a4] at f1
        exact ⟨a1, r1.extN (ExtN.same s2), f1⟩
end
end SS
namespace SS
open PySem PySem.Spec PyProof.Rows L2
theorem mid {Inv C : L2.St → Hp → Prop} {G : Prop} (m : (∀ σ H, Inv σ H → C σ H) → G) (k : ∀ σ H, Inv σ H → C σ H) : G := m k
theorem two_okb {K : PySem.W.Frag} {H : Hp} {p q : Addr} {u v : Int × Int} {A B : Nat} (h1 : FrT K H p u.1 u.2) (h2 : FrT K H q v.1 v.2) (k1 : Okb A u) (k2 : Okb B v) (l1 : A ≤ 3000) (l2 : B ≤ 3000) : Two K H [.ref p, .ref q] u.1 u.2 v.1 v.2 :=
  ⟨p, q, rfl, h1, h2, k1.1, k2.1, sm_mono k1.2.1 l1, sm_mono k1.2.2.1 l1, sm_mono k2.2.1 l2, sm_mono k2.2.2.1 l2, k1.2.2.2, k2.2.2.2⟩
theorem s_ba : ∀ s ∈ (["below", "above"] : List Str), s ∈ sorts := by decide +kernel
theorem s_mb : ∀ s ∈ (["most", "below"] : List Str), s ∈ sorts := by decide +kernel
theorem s_la : ∀ s ∈ (["least", "above"] : List Str), s ∈ sorts := by decide +kernel
section
variable {P : Program} {w : World} {K : PySem.W.Frag} {mg : Str → Option Value} {base : Heap}
def spSRow (K : PySem.W.Frag) : Sp := fun vs H Q _ => ∃ (st c u b : Addr) (xs : List Str) (ls : List (Key × V)) (g : Key → Int × Int), vs = [.ref st, .ref u, .ref b] ∧ StA st c H ∧ H u = some (.lst (xs.map V.str)) ∧ xs.length ≤ 9 ∧ (∀ x ∈ xs, NmOk x) ∧ DM False 10 H b ls g ∧ (∀ k, Okb 20 (g k)) ∧
  ∀ H' r a p kvs f srt num, But st H H' → StA st c H' → H a = none → H' r = some (.tup [.ref a, .str srt, .ref p]) → DM True 10 H' a kvs f → (∀ k, Okb 20 (f k)) → srt ∈ sorts → FrT K H' p num.1 num.2 → Okb 20 num → KIn xs kvs → Q (.ref r) H'
theorem scSRow : FnScope ["_law_state", "_law_unknowns", "_law_point", "_law_way", "_law_sort", "_law_one", "_law_near", "_law_bound"] ["_law_state", "_law_unknowns", "_law_point"] (defScope sSRow) := ⟨rfl, rfl, rfl, by decide +kernel, rfl, by decide +kernel, by decide +kernel⟩
set_option maxHeartbeats 2000000 in
theorem ok_srow {f' : Addr} {fd : FuncData} (F : Fun K "_law_some_row" "_law_some_row" sSRow f' fd) (ss : Cl P w K mg base CX0 5 "_law_some_sum" spSsum []) (tk : Cl P w K mg base CX0 3 "_law_take" spTake []) (nm : Cl P w K mg base CX0 4 "_law_number" spNumber [])
    (lw : Cl P w K mg base CX0 4 "_law_worth" (spWorth K) []) (lpl : Cl P w K mg base CX0 3 "_law_plus" (spPlus K) []) (sho : Cl P w K mg base CX0 1 "_law_short" (spShort K) []) : FnOk P w K mg base CX0 6 f' fd ["_law_state", "_law_unknowns", "_law_point"] (spSRow K) := by
  refine F.ok scSRow (fun vs H Q E h => ?_) (fun cdv A outer s H vs Q E hr h => ?_)
  · obtain ⟨_, _, _, _, _, _, _, rfl, _⟩ := h
    rfl
  · obtain ⟨st, c, u, b, xs, ls, g, rfl, sa, hu0, xl, hx, db, okg, q⟩ := h
    refine ⟨_, pss_cons (ps_set (i := 3) scSRow.nd rfl (.inl rfl) (pc0 tk hr (by decide) (pa_cons (pv 0) (pa_cons pe_int pa_nil))))
      (pss_cons (ps_set (i := 4) scSRow.nd rfl (.inl rfl) (pe_ix ix_tup (pe_tup (pa_cons pe_str (pa_cons pe_str (pa_cons pe_str (pa_cons pe_str (pa_cons pe_str pa_nil)))))) (pc0 tk hr (by decide) (pa_cons (pv 0) (pa_cons pe_int pa_nil))) (fun _ _ => rfl)))
      (pss_cons (ps_set (i := 5) scSRow.nd rfl (.inl rfl) (pc0 ss hr (by decide) (pa_cons (pv 0) (pa_cons (pv 1) pa_nil))))
      (pss_cons (ps_set (i := 6) scSRow.nd rfl (.inl rfl) (pe_op op_sub (pc0 tk hr (by decide) (pa_cons (pv 0) (pa_cons pe_int pa_nil))) pe_int))
      (pss_cons (ps_set (i := 7) scSRow.nd rfl (.inl rfl) (pc0 nm hr (by decide) (pa_cons (pv 0) pa_nil)))
      (pss_cons (ps_if (pt_cmpR op_gt (pv 3) pe_int (nomark _)) (pss_one (ps_set (i := 7) scSRow.nd rfl (.inl rfl) (pc0 sho hr (by decide) (pa_cons (pc0 lpl hr (by decide) (pa_cons (pc0 lw hr (by decide) (pa_cons (pv 5) (pa_cons (pv 2) pa_nil))) (pa_cons (pe_tup (pa_cons (pv 6) (pa_cons pe_int pa_nil))) pa_nil))) pa_nil)))) pss_nil)
      (pss_cons (ps_if (PW.pt (pw_and (pt_cmpR op_gt (pv 3) pe_int (nomark _)) (pw_and1 (pt_cmpR op_ne (pv 6) pe_int (nomark _)))))
        (pss_cons (ps_set (i := 4) scSRow.nd rfl (.inl rfl) (pe_ix ix_tup (pe_tup (pa_cons pe_str (pa_cons pe_str pa_nil))) (pc0 tk hr (by decide) (pa_cons (pv 0) (pa_cons pe_int pa_nil))) (fun _ _ => rfl)))
        (pss_cons (ps_if (pt_cmpR op_gt (pv 6) pe_int (nomark _)) (pss_one (ps_set (i := 4) scSRow.nd rfl (.inl rfl) (pe_ix ix_tup (pe_tup (pa_cons pe_str (pa_cons pe_str pa_nil))) (pc0 tk hr (by decide) (pa_cons (pv 0) (pa_cons pe_int pa_nil))) (fun _ _ => rfl)))) pss_nil)
        (pss_one (ps_if (pt_cmpR op_lt (pv 6) pe_int (nomark _)) (pss_one (ps_set (i := 4) scSRow.nd rfl (.inl rfl) (pe_ix ix_tup (pe_tup (pa_cons pe_str (pa_cons pe_str pa_nil))) (pc0 tk hr (by decide) (pa_cons (pv 0) (pa_cons pe_int pa_nil))) (fun _ _ => rfl)))) pss_nil)))) pss_nil)
      (pss_one (ps_ret (pe_tup (pa_cons (pv 5) (pa_cons (pv 4) (pa_cons (pv 7) pa_nil)))))))))))), ?_⟩
    have us := strs_ne sa hu0
    refine ⟨_, rfl, st, c, 5, rfl, by decide, lt8 (by decide), sa, fun H1 way b1 s1 l1 u1 => ?_⟩
    refine ⟨by show 5 ≤ sizeLine; decide, fun U nU => ?_⟩
    have sU := same_new (o := .tup (sorts.map V.str)) nU
    refine ⟨_, rfl, st, c, 5, rfl, by decide, lt8 (by decide), s1.same sU, fun H2 d2 b2 s2 l2 u2 => ?_⟩
    obtain ⟨srt, hs1, hs2⟩ := at_str (xs := sorts) l2 u2
    refine ⟨U, _, d2, _, rfl, rfl, SqT.of (b2.tup (s1.same sU) upd_same), hs2, ?_⟩
    have B2 := (b1.trans (Same.but sU)).trans b2
    refine ⟨_, rfl, _, rfl, st, c, u, xs, rfl, s2, B2 _ _ us hu0, xl, hx, fun H3 a1 k1 b3 s3 na1 d1 z1 kin => ?_⟩
    have D1 : DM True 10 H3 a1 k1 (pval H3 k1) := (d1.dm z1).mono (by omega)
    have ok1 : ∀ k, Okb 20 (pval H3 k1 k) := fun k => d1.okp (k := 19) k
    generalize pval H3 k1 = f1 at D1 ok1
    have B3 := B2.trans b3
    have nab : a1 ≠ b := fun e => by
      rw [e, (db.but B2 sa).1] at na1
      cases na1
    have naH : H a1 = none := by
      cases e : H a1 with
      | none => rfl
      | some o =>
        by_cases c1 : a1 = st
        · obtain ⟨i, n, ff, xs', g1, _⟩ := s2
          rw [c1, g1] at na1
          cases na1
        · rw [B2 _ _ c1 e] at na1
          cases na1
    refine ⟨_, rfl, st, c, 5, rfl, by decide, lt8 (by decide), s3, fun H4 d4 b4 s4 l4 u4 => ⟨d4, 2, rfl, rfl, ?_⟩⟩
    refine ⟨_, rfl, st, c, rfl, s4, fun H5 p5 b5 s5 f5 => ?_⟩
    have B5 := (B3.trans b4).trans b5
    have D5 := (D1.but b4 s3).but b5 s4
    have hn := f5.val.1
    have okn := f5.okb
    generalize fval H5 (.ref p5) = num5 at hn okn
    refine' mid (C := _) (Inv := fun σ H' => ∃ (p : Addr) (num : Int × Int), σ = [some (.ref st), some (.ref u), some (.ref b), some (.int way), some (.str srt), some (.ref a1), some (.int (d4 - 2)), some (.ref p)] ∧ But st H H' ∧ StA st c H' ∧ DM True 10 H' a1 k1 f1 ∧ FrT K H' p num.1 num.2 ∧ Okb 20 num) (fun key => ?main) ?cont
    case main =>
      refine ⟨_, rfl, way, 0, rfl, rfl, _, rfl, ite2 (fun e => ?ya) (fun e => ?yb)⟩
      case yb => exact key _ _ ⟨p5, num5, rfl, B5, s5, D5, FrT.of hn, okn⟩
      case ya =>
        refine ⟨_, rfl, _, rfl, a1, b, k1, ls, f1, g, True, False, 10, 10, 20, 20, rfl, D5, db.but B5 sa, ok1, okg, by decide, nab, fun H6 r6 e6 fw okw => ?_⟩
        refine ⟨_, rfl, small2, fun N nN => ?_⟩
        have eN := same_new (o := .tup [.int (d4 - 2), .int 1]) nN
        have okd : Okb 11 (d4 - 2, 1) := okb_whole (by omega)
        refine ⟨_, _, d4 - 2, 1, two_okb (v := (d4 - 2, 1)) (fw.new eN) (FrT.of upd_same) okw okd (by decide) (by decide), fun r7 n7 => ?_⟩
        have e7 := same_new (o := .tup [.int (fplus (wof f1 g (k1.map (·.1))) (d4 - 2, 1)).1, .int (fplus (wof f1 g (k1.map (·.1))) (d4 - 2, 1)).2]) n7
        refine ⟨r7, fplus (wof f1 g (k1.map (·.1))) (d4 - 2, 1), rfl, FrT.of upd_same, (okb_plus okw okd).mono (by decide), fun H8 r8 M e8 f8 ok8 => ?_⟩
        have E := (e6.trans eN).trans (e7.trans e8)
        exact key _ _ ⟨r8, M, rfl, B5.trans (Same.but E), s5.same E, D5.same E, f8, ok8.mono (by decide)⟩
    case cont =>
      rintro σ H6 ⟨p, num, rfl, B6, s6, D6, f6, okp⟩
      refine' mid (C := _) (Inv := fun σ H' => ∃ srt' : Str, srt' ∈ sorts ∧ σ = [some (.ref st), some (.ref u), some (.ref b), some (.int way), some (.str srt'), some (.ref a1), some (.int (d4 - 2)), some (.ref p)] ∧ But st H H' ∧ StA st c H' ∧ DM True 10 H' a1 k1 f1 ∧ FrT K H' p num.1 num.2) (fun key => ?main2) ?cont2
      case main2 =>
        refine ⟨_, rfl, way, 2, rfl, rfl, _, rfl, ite2 (fun e => ?ya) (fun e => ?yb)⟩
        case yb =>
          refine iteF ?_
          exact key _ _ ⟨srt, hs1, rfl, B6, s6, D6, f6⟩
        case ya =>
          refine ⟨_, rfl, rfl, _, rfl, ite2 (fun e2 => ?za) (fun e2 => ?zb)⟩
          case zb => exact key _ _ ⟨srt, hs1, rfl, B6, s6, D6, f6⟩
          case za =>
            refine ⟨small2, fun U7 nU7 => ?_⟩
            have sU7 := same_new (o := .tup ((["below", "above"] : List Str).map V.str)) nU7
            refine ⟨_, rfl, st, c, 2, rfl, by decide, lt8 (by decide), s6.same sU7, fun H7 d7 b7 s7 l7 u7 => ?_⟩
            obtain ⟨srt7, hm7, ha7⟩ := at_str (xs := (["below", "above"] : List Str)) l7 u7
            refine ⟨U7, _, d7, _, rfl, rfl, SqT.of (b7.tup (s6.same sU7) upd_same), ha7, ?_⟩
            have B7 := (B6.trans (Same.but sU7)).trans b7
            have D7 := (D6.same sU7).but b7 (s6.same sU7)
            have f7 := (f6.new sU7).but b7 (s6.same sU7)
            refine' mid (C := _) (Inv := fun σ H' => ∃ srt' : Str, srt' ∈ sorts ∧ σ = [some (.ref st), some (.ref u), some (.ref b), some (.int way), some (.str srt'), some (.ref a1), some (.int (d4 - 2)), some (.ref p)] ∧ But st H H' ∧ StA st c H' ∧ DM True 10 H' a1 k1 f1 ∧ FrT K H' p num.1 num.2) (fun key2 => ?main3) ?cont3
            case main3 =>
              refine ⟨_, rfl, d4 - 2, 0, rfl, rfl, _, rfl, ite2 (fun e => ?va) (fun e => ?vb)⟩
              case vb => exact key2 _ _ ⟨srt7, s_ba _ hm7, rfl, B7, s7, D7, f7⟩
              case va =>
                refine ⟨small2, fun U8 nU8 => ?_⟩
                have sU8 := same_new (o := .tup ((["most", "below"] : List Str).map V.str)) nU8
                refine ⟨_, rfl, st, c, 2, rfl, by decide, lt8 (by decide), s7.same sU8, fun H8 d8 b8 s8 l8 u8 => ?_⟩
                obtain ⟨srt8, hm8, ha8⟩ := at_str (xs := (["most", "below"] : List Str)) l8 u8
                refine ⟨U8, _, d8, _, rfl, rfl, SqT.of (b8.tup (s7.same sU8) upd_same), ha8, ?_⟩
                have B8 := (B7.trans (Same.but sU8)).trans b8
                have D8 := (D7.same sU8).but b8 (s7.same sU8)
                have f8 := (f7.new sU8).but b8 (s7.same sU8)
                exact key2 _ _ ⟨srt8, s_mb _ hm8, rfl, B8, s8, D8, f8⟩
            case cont3 =>
              rintro σ H9 ⟨srt', hs', rfl, B9, s9, D9, f9⟩
              refine ⟨_, rfl, d4 - 2, 0, rfl, rfl, _, rfl, ite2 (fun e => ?va) (fun e => ?vb)⟩
              case vb => exact key _ _ ⟨srt', hs', rfl, B9, s9, D9, f9⟩
              case va =>
                refine ⟨small2, fun U10 nU10 => ?_⟩
                have sU10 := same_new (o := .tup ((["least", "above"] : List Str).map V.str)) nU10
                refine ⟨_, rfl, st, c, 2, rfl, by decide, lt8 (by decide), s9.same sU10, fun H10 d10 b10 s10 l10 u10 => ?_⟩
                obtain ⟨srt10, hm10, ha10⟩ := at_str (xs := (["least", "above"] : List Str)) l10 u10
                refine ⟨U10, _, d10, _, rfl, rfl, SqT.of (b10.tup (s9.same sU10) upd_same), ha10, ?_⟩
                have B10 := (B9.trans (Same.but sU10)).trans b10
                have D10 := (D9.same sU10).but b10 (s9.same sU10)
                have f10 := (f9.new sU10).but b10 (s9.same sU10)
                exact key _ _ ⟨srt10, s_la _ hm10, rfl, B10, s10, D10, f10⟩
      case cont2 =>
        rintro σ H9 ⟨srt', hs', rfl, B9, s9, D9, f9⟩
        refine ⟨_, rfl, _, rfl, _, rfl, by show 3 ≤ sizeLine; decide, fun R nR => ?_⟩
        have sR := same_new (o := .tup [.ref a1, .str srt', .ref p]) nR
        exact q _ R a1 p k1 f1 srt' num (B9.trans (Same.but sR)) (s9.same sR) naH upd_same (D9.same sR) ok1 hs' (f9.new sR) okp kin
end
end SS

namespace SS
open PySem PySem.Spec PyProof.Rows L2 NumText LamX KyS
section
variable {P : Program} {w : World} {K : PySem.W.Frag} {mg : Str → Option Value} {base : Heap}
theorem EntOk.same {m : Nat} {H H' : Hp} {e : Ent} (h : EntOk K m H e) (s : Same H H') : EntOk K m H' e := h.extN (ExtN.same s)
theorem EntOk.lst {m : Nat} {H : Hp} {e : Ent} {D : Addr} {xs : List V} {o : HO} (h : EntOk K m H e) (hD : H D = some (.lst xs)) : EntOk K m (upd H D o) e := by
  have tp : ∀ b ys, H b = some (.tup ys) → (upd H D o) b = some (.tup ys) := fun b ys q => by rw [upd_ne (ne_of q hD (fun z => by cases z))]; exact q
  obtain ⟨h1, kvs, n, h2, h3, h4, h5⟩ := h
  refine ⟨tp _ _ h1, kvs, n, tp _ _ h2, ?_, ?_, h5⟩
  · obtain ⟨d1, d2, d3, d4, d5⟩ := h3
    refine ⟨by rw [upd_ne (ne_of d1 hD (fun z => by cases z))]; exact d1, d2, d3, fun p hp => ?_, d5⟩
    obtain ⟨e1, ⟨r', e2, e3⟩, e4⟩ := d4 p hp
    exact ⟨e1, ⟨r', e2, tp _ _ e3⟩, e4⟩
  · obtain ⟨f1, f2⟩ := h4
    rcases f1 with (f1 | ⟨u, f1⟩) | ⟨u, its, m, k1, k2, k3⟩
    · exact ⟨.inl (.inl (tp _ _ f1)), .base (.tup (tp _ _ f1))⟩
    · have q : (upd H D o) n = some (.frz u (.tup [.int e.R.n.1, .int e.R.n.2])) := by rw [upd_ne (ne_of f1 hD (fun z => by cases z))]; exact f1
      exact ⟨.inl (.inr ⟨u, q⟩), .fTuple q⟩
    · exact ⟨.inr ⟨u, its, m, k1, k2, k3⟩, .kTuple k1 k2⟩
/-- a list of pairs made since H, its sums apart -/
structure NewL (K : PySem.W.Frag) (m : Nat) (H H' : Hp) (l : Addr) (es : List Ent) : Prop where
  lst : H' l = some (.lst (es.map fun e => V.ref e.t))
  e : ∀ e ∈ es, EntOk K m H' e ∧ H e.a = none
  nd : (es.map (·.a)).Nodup
  nl : H l = none
/-! ### _law_copied -/
def spCopied (K : PySem.W.Frag) : Sp := fun vs H Q _ => ∃ (a : Addr) (zs : List Ent) (m : Nat), vs = [.ref a] ∧ SqL K H a (zs.map fun z => V.ref z.t) ∧ (∀ z ∈ zs, EntOk K m H z) ∧ zs.length ≤ 400 ∧ ∀ H' l es, Same H H' → NewL K m H H' l es → es.map nr = zs.map nr → Q (.ref l) H'
theorem scCopied : FnScope ["_law_rows", "_law_name", "_law_row"] ["_law_rows"] (defScope sCopied) := ⟨rfl, rfl, rfl, by decide +kernel, rfl, by decide +kernel, by decide +kernel⟩
theorem ok_copied {f : Addr} {fd : FuncData} {k : Nat} (F : Fun K "_law_copied" "_law_copied" sCopied f fd) (md : mg "dict" = none) : FnOk P w K mg base CX0 (k + 1) f fd ["_law_rows"] (spCopied K) := by
  refine F.ok scCopied (fun vs H Q E h => ?_) (fun cdv A outer s H vs Q E hr h => ?_)
  · obtain ⟨_, _, _, rfl, _⟩ := h
    rfl
  · obtain ⟨a, zs, m, rfl, hS, hz, hl, q⟩ := h
    refine ⟨_, pss_one (ps_ret (pe_lc (own := [("_law_name", 1), ("_law_row", 2)]) (g := gTup K 2 (gCons (gName 1) (gCons (gName 2) gNil))) rfl scCopied.nd (pi_list (pv 0)) (blkOk_by (by rfl))
        (fun _ _ _ _ _ => pg_tup rfl (pgs_cons (pg_name (i := 1) scCopied.nd rfl (.inl rfl)) (pgs_cons (pg_name (i := 2) scCopied.nd rfl (.inl rfl)) pgs_nil))) (fun _ _ _ _ _ => pts_nil)
        (fun _ _ _ _ _ => pe_tup (pa_cons (pv 1) (pa_cons (pe_tup (pa_cons (pe_callTy call_dictD (by rfl) md (by decide +kernel) (pa_cons (pe_ix (ix_tupK (K := K) rfl) (pv 2) pe_int (fun _ _ => rfl)) pa_nil))
          (pa_cons (pe_ix (ix_tupK (K := K) rfl) (pv 2) pe_int (fun _ _ => rfl)) (pa_cons (pe_ix (ix_tupK (K := K) rfl) (pv 2) pe_int (fun _ _ => rfl)) pa_nil)))) pa_nil))))), ?_⟩
    refine ⟨_, rfl, a, rfl, ⟨_, hS⟩, fun D nD => ?_⟩
    refine lc_list (K := K) (a := a) (xs := zs.map fun z => V.ref z.t) (fun i H' => ∃ es : List Ent, H' D = some (.lst (es.map fun e => V.ref e.t)) ∧ es.map nr = (zs.take i).map nr ∧ (∀ e ∈ es, EntOk K m H' e ∧ H e.a = none ∧ e.a ≠ D) ∧ (es.map (·.a)).Nodup ∧ ∀ b o, H b = some o → H' b = some o)
      ⟨[], upd_same, rfl, fun e he => (by cases he), List.nodup_nil, fun b o e => by rw [upd_ne (ne_of_none e nD)]; exact e⟩ (fun i H' _ ⟨_, _, _, _, _, w2⟩ => Same.seq w2 hS) ?_ ?_
    · rintro i v H' hv ⟨es, w1, wn, we, wd, w2⟩
      obtain ⟨z, hzi, rfl⟩ : ∃ z, zs[i]? = some z ∧ v = .ref z.t := by
        rw [List.getElem?_map] at hv
        cases e : zs[i]? with
        | none => rw [e] at hv; cases hv
        | some z =>
          rw [e] at hv
          exact ⟨z, rfl, (Option.some.inj hv).symm⟩
      have el : es.length ≤ 400 := by
        have q1 := congrArg List.length wn
        rw [List.length_map, List.length_map, List.length_take] at q1
        omega
      obtain ⟨h1, kvs, n, h2, h3, h4, h5⟩ := hz z (List.mem_of_getElem? hzi)
      refine ⟨z.t, _, rfl, SqT.of (w2 _ _ h1), rfl, _, _, rfl, _, _, rfl, rfl, rfl, ?_⟩
      have W : Same H H' := fun b o e => w2 b o e
      refine ⟨_, rfl, _, rfl, z.r, _, 0, _, rfl, rfl, SqT.of (w2 _ _ h2), atI_nat (j := 0) rfl, z.a, kvs, rfl, .inl (w2 _ _ h3.1), fun d nd => ?_⟩
      have s3 := same_new (o := .dK kvs) nd
      refine ⟨_, rfl, z.r, _, 1, _, rfl, rfl, SqT.of (s3 _ _ (w2 _ _ h2)), atI_nat (j := 1) rfl, _, rfl, z.r, _, 2, _, rfl, rfl, SqT.of (s3 _ _ (w2 _ _ h2)), atI_nat (j := 2) rfl, (by show 3 ≤ sizeLine; decide), fun r nr' => ?_⟩
      have s4 := same_new (o := .tup [.ref d, .str z.R.s, .ref n]) nr'
      refine ⟨small2, fun t nt => ⟨es.map fun e => V.ref e.t, ?_, small1000 (by rw [List.length_map]; omega), es ++ [⟨t, z.x, z.R, r, d⟩], ?_, ?_, ?_, ?_, ?_⟩⟩
      · exact same_new nt _ _ (s4 _ _ (s3 _ _ w1))
      all_goals have s5 := same_new (o := .tup [.str z.x, .ref r]) nt
      all_goals have S5 : Same H' _ := (s3.trans s4).trans s5
      · rw [upd_same, List.map_append]
        rfl
      · rw [List.map_append, wn, List.take_add_one, hzi, List.map_append]
        rfl
      · have hD5 := S5 _ _ w1
        have dD : d ≠ D := fun y => by rw [y, w1] at nd; cases nd
        intro e he
        rcases List.mem_append.mp he with he | he
        · obtain ⟨a1, a2, a3⟩ := we e he
          exact ⟨EntOk.lst (a1.same S5) hD5, a2, a3⟩
        · obtain rfl := List.mem_singleton.mp he
          have dm : DM True m _ d kvs z.R.f := ⟨s5 _ _ (s4 _ _ (upd_same (H := H') (a := d) (o := .dK kvs))), (h3.same (W.trans S5)).2⟩
          have ok : EntOk K m _ (⟨t, z.x, z.R, r, d⟩ : Ent) := ⟨upd_same (a := t) (o := .tup [.str z.x, .ref r]), kvs, n, s5 _ _ (upd_same (a := r) (o := .tup [.ref d, .str z.R.s, .ref n])), dm, h4.new (W.trans S5), h5⟩
          exact ⟨EntOk.lst ok hD5, W.free nd, dD⟩
      · rw [List.map_append]
        refine List.nodup_append.mpr ⟨wd, by simp, fun x hx y hy => ?_⟩
        obtain ⟨g, hg, rfl⟩ := List.mem_map.mp hx
        obtain rfl : y = d := by simpa using hy
        intro y
        obtain ⟨⟨_, kg, ng, _, r2, _⟩, _⟩ := we g hg
        have q1 := r2.1
        rw [y, nd] at q1
        cases q1
      · intro b o e
        rw [upd_ne (ne_of_none e nD)]
        exact S5 _ _ (w2 _ _ e)
    · rintro H' ⟨es, w1, wn, we, wd, w2⟩
      rw [List.length_map, List.take_length] at wn
      exact q H' D es w2 ⟨w1, fun e he => ⟨(we e he).1, (we e he).2.1⟩, wd, nD⟩ wn
end
end SS

namespace SS
open PySem PySem.Spec PyProof.Rows L2 NumText LamX KyS
section
variable {P : Program} {w : World} {K : PySem.W.Frag} {mg : Str → Option Value} {base : Heap}
theorem DM.toF {z : Prop} {m : Nat} {H : Hp} {a : Addr} {kvs : List (Key × V)} {f : Key → Int × Int} (h : DM z m H a kvs f) : DM False m H a kvs f :=
  ⟨h.1, h.2.1, h.2.2.1, fun p hp => ⟨(h.2.2.2.1 p hp).1, (h.2.2.2.1 p hp).2.1, fun z => z.elim⟩, h.2.2.2.2⟩
/-! ### _law_row_plus -/
def Rw.plus (R R2 : Rw) (c : Int × Int) : Rw := ⟨fun k => fplus (R.f k) (ftimes (R2.f k) c), R.s, fplus R.n (ftimes R2.n c)⟩
def spRowPlus (K : PySem.W.Frag) : Sp := fun vs H Q _ => ∃ (r a r2 a2 n : Addr) (R R2 : Rw) (c : Int × Int) (m : Nat), vs = [.ref r, .ref r2, .ref n] ∧ RowE K m H r a R ∧ RowE K m H r2 a2 R2 ∧ FrT K H n c.1 c.2 ∧ m ≤ 50 ∧ R.Okb 1400 ∧ R2.Okb 1400 ∧ SS.Okb 1400 c ∧
  ∀ H' r' a', Same H H' → H r' = none → H a' = none → RowE K (m + m) H' r' a' (R.plus R2 c) → Q (.ref r') H'
theorem scRowPlus : FnScope ["_law_row", "_law_other", "_law_number_here"] ["_law_row", "_law_other", "_law_number_here"] (defScope sRowPlus) := ⟨rfl, rfl, rfl, by decide +kernel, rfl, by decide +kernel, by decide +kernel⟩
theorem ok_rowplus {f : Addr} {fd : FuncData} (F : Fun K "_law_row_plus" "_law_row_plus" sRowPlus f fd) (ad : Cl P w K mg base CX0 4 "_law_add" (spAdd K) []) (tm : Cl P w K mg base CX0 3 "_law_times" (spTimes K) []) (pl : Cl P w K mg base CX0 3 "_law_plus" (spPlus K) []) :
    FnOk P w K mg base CX0 5 f fd ["_law_row", "_law_other", "_law_number_here"] (spRowPlus K) := by
  refine F.ok scRowPlus (fun vs H Q E h => ?_) (fun cdv A outer s H vs Q E hr h => ?_)
  · obtain ⟨_, _, _, _, _, _, _, _, _, rfl, _⟩ := h
    rfl
  · obtain ⟨r, a, r2, a2, cn, R, R2, c, m, rfl, ⟨ks, n, e1, e2, e3, e4⟩, ⟨ks2, n2, g1, g2, g3, g4⟩, h2, hm, okR, okR2, okc, q⟩ := h
    refine ⟨_, pss_one (ps_ret (pe_tup (pa_cons (pc0 ad hr (by decide) (pa_cons (pe_ix ix_tup (pv 0) pe_int (fun _ _ => rfl)) (pa_cons (pe_ix ix_tup (pv 1) pe_int (fun _ _ => rfl)) (pa_cons (pv 2) pa_nil))))
      (pa_cons (pe_ix ix_tup (pv 0) pe_int (fun _ _ => rfl)) (pa_cons (pc0 pl hr (by decide) (pa_cons (pe_ix ix_tup (pv 0) pe_int (fun _ _ => rfl)) (pa_cons (pc0 tm hr (by decide) (pa_cons (pe_ix ix_tup (pv 1) pe_int (fun _ _ => rfl)) (pa_cons (pv 2) pa_nil))) pa_nil))) pa_nil))))), ?_⟩
    refine ⟨_, rfl, r, _, 0, _, rfl, rfl, SqT.of e1, atI_nat (j := 0) rfl, _, rfl, r2, _, 0, _, rfl, rfl, SqT.of g1, atI_nat (j := 0) rfl, _, rfl, a, a2, cn, ks, ks2, R.f, R2.f, c, m, m, rfl, e2, g2.toF, h2, fun k => (okR.1 k).mono (by decide), okR2.1, okc, by omega, by omega, fun H1 c1 ks1 s1 nc1 d1 => ?_⟩
    refine ⟨_, rfl, r, _, 1, _, rfl, rfl, SqT.of (s1 _ _ e1), atI_nat (j := 1) rfl, ?_⟩
    refine ⟨_, rfl, r, _, 2, _, rfl, rfl, SqT.of (s1 _ _ e1), atI_nat (j := 2) rfl, ?_⟩
    refine ⟨_, rfl, r2, _, 2, _, rfl, rfl, SqT.of (s1 _ _ g1), atI_nat (j := 2) rfl, _, rfl, R2.n.1, R2.n.2, c.1, c.2, two_of (g3.new s1) (h2.new s1) okR2.2 okc (by decide) (by decide), fun p np => ?_⟩
    have s3 := same_new (o := .tup [.int (fr1 (R2.n.1 * c.1) (R2.n.2 * c.2)), .int (fr2 (R2.n.1 * c.1) (R2.n.2 * c.2))]) np
    have fp : FrT K _ p (ftimes R2.n c).1 (ftimes R2.n c).2 := FrT.of (upd_same (H := H1) (a := p) (o := .tup [.int (fr1 (R2.n.1 * c.1) (R2.n.2 * c.2)), .int (fr2 (R2.n.1 * c.1) (R2.n.2 * c.2))]))
    refine ⟨R.n.1, R.n.2, (ftimes R2.n c).1, (ftimes R2.n c).2, two_of (e3.new (s1.trans s3)) fp okR.2 (okb_times okR2.2 okc) (by decide) (by decide), fun p2 np2 => ?_⟩
    refine ⟨(by show 3 ≤ sizeLine; decide), fun t nt => ?_⟩
    have s4 := same_new (o := .tup [.int (fplus R.n (ftimes R2.n c)).1, .int (fplus R.n (ftimes R2.n c)).2]) np2
    have s5 := same_new (o := .tup [.ref c1, .str R.s, .ref p2]) nt
    exact q _ t c1 (((s1.trans s3).trans s4).trans s5) (s1.free (s3.free (s4.free nt))) nc1 ⟨ks1, p2, upd_same, (((d1.same s3).same s4).same s5).mono (Nat.le_refl _), (FrT.of upd_same).new s5, e4⟩
end
end SS

namespace LvR
open PySem PySem.Spec PyProof.Rows L2
section
variable {X : Cx} {e : Expr} {te : TE} {p apos cpos pos : Pos}
def tListVals (te : TE) : TE := fun σ H Q => te σ H fun x H1 => ∃ (d : Addr) (kvs : List (Key × V)), x = .ref d ∧ H1 d = some (.dK kvs) ∧ ∀ p, H1 p = none → Q (.ref p) (upd H1 p (.lst (kvs.map (·.2))))
theorem vals_snd : ∀ {kvs : List (Key × V)} {vs : List (Key × Value)}, KV kvs vs → Vals (kvs.map (·.2)) (vs.map (·.2))
  | _, _, .nil => .nil
  | _, _, .cons r t => .cons r.2 (vals_snd t)
/-- list(e.values()) -/
theorem pe_listValues (hc : X.calm = true) (he : PE X e te) (hg : Gl X "list") (hm : X.mg "list" = none) (hv : bootBuiltins "list" = some (.type "list")) (hbase : attributeBase e "values" X.env (eval e X.env) = eval e X.env := by rfl) (hline : (apos.endLine == cpos.line) = true := by rfl)
    (hs : starEach [.Call (.Attribute e "values" apos) [] [] cpos] X.env = (false, eval (.Call (.Attribute e "values" apos) [] [] cpos) X.env) :: starEach [] X.env := by rfl) :
    PE X (.Call (.Name "list" p) [.Call (.Attribute e "values" apos) [] [] cpos] [] pos) (tListVals te) := by
  refine ⟨fun pins s σ H Q I hq => ?_⟩
  refine wpAny_Call_Name_kw (ld_blt I hg hm hv ?_)
  refine PyProof.Rows.callWith_type1 ?_ hs rfl
  rw [hs]
  show wpAny _ _ (spliced ((false, eval (.Call (.Attribute e "values" apos) [] [] cpos) X.env) :: backTo pos (starEach [] X.env))) _ _ s
  refine Calls.spliced_cons ?_
  refine wpAny_Call_method (T := "dict") (id := "dict.values") hbase rfl hline F.plainAttrs_dict F.slot_dict_values F.type_dict_values (thn (he.run pins s σ H _ I hq) fun u s1 ⟨x, H1, I1, rx, d, kvs, ex, hd, q⟩ => ?_)
  subst ex
  obtain rfl : u = Value.ref d := rx
  obtain ⟨hz, hs0, vs, kv, hdo⟩ := I1.hok d _ hd
  obtain ⟨ep, hat⟩ := hdo.dictAt
  have lk : kvs.length = vs.length := Paired.length kv
  have I2 : Inv X pins σ H1 { s1 with heap := s1.heap.push { cls := .type "dict_values", data := .fields #[.ref d] } } := I1.kept (t' := s1.toks) fun b ob q => Heap.get?_push_of_some _ q
  refine ⟨hdo.typeIs, hdo.mapOf.noDict, ?_⟩
  show wpAny _ _ (callWith cpos (.builtin "dict.values") [.ref d] [] []) _ X.xe s1
  refine method_meetsIn F.slot_dict_values F.entry_dict_values rfl (PySem.evalArgs_none ⟨rfl, hdo.typeIs, F.args_dict_values_1 _, _, meets_dict_values (mixKind X.prog X.w) d hs0, ⟨vs, hdo⟩, ?_⟩)
  refine Calls.spliced_nil ?_
  refine PySem.W.kdl_call (PySem.W.kdl_values (knd := mixKind X.prog X.w) (kvs := vs) (ep := ep) (r := s1.heap.objs.size) (d := d)) (I1.ok.hd hc) ⟨⟨_, Heap.get?_push_size _ rfl, rfl, rfl⟩, hat.push _⟩ (by omega) fun h' tk acc c hk hS hacc => ?_
  have ea : acc.toList = vs.map (·.2) := PySem.W.kdl_vals_eq acc.toList (by simpa using hacc.1) fun j v hj => hacc.2 j v (by simpa using hj)
  have I3 := I2.laid (h' := h') (t' := tk) (o := .lst (kvs.map (·.2))) hk (Nat.le_refl _) ⟨by rw [List.length_map]; omega, vs.map (·.2), c, vals_snd kv, by rw [← ea, Array.toArray_toList]; exact hS⟩
  exact ⟨.ref _, _, I3, rfl, q _ (I2.hok.fresh (Nat.le_refl _))⟩
end
end LvR

namespace SS
open PySem PySem.Spec PyProof.Rows L2 NumText LamX KyS
section
variable {P : Program} {w : World} {K : PySem.W.Frag} {mg : Str → Option Value} {base : Heap}
/-! ### _law_within -/
def smT (x : Int × Int) : Bool := decide ((if x.1 < 0 then -x.1 else x.1) < 1000) && decide (x.2 < 100)
def spWithin (K : PySem.W.Frag) : Sp := fun vs H Q _ => ∃ (r a : Addr) (R : Rw) (m : Nat), vs = [.ref r] ∧ RowE K m H r a R ∧ m ≤ 400 ∧ ∀ H' b, Same H H' → (b = true → (∀ k, smT (R.f k) = true) ∧ smT R.n = true) → Q (.bl b) H'
theorem scWithin : FnScope ["_law_row", "_law_number_here"] ["_law_row"] (defScope sWithin) := ⟨rfl, rfl, rfl, by decide +kernel, rfl, by decide +kernel, by decide +kernel⟩
theorem ok_within {f : Addr} {fd : FuncData} {k : Nat} (F : Fun K "_law_within" "_law_within" sWithin f fd) (ma : mg "all" = none) (mab : mg "abs" = none) (mli : mg "list" = none) : FnOk P w K mg base CX0 (k + 1) f fd ["_law_row"] (spWithin K) := by
  refine F.ok scWithin (fun vs H Q E h => ?_) (fun cdv A outer s H vs Q E hr h => ?_)
  · obtain ⟨_, _, _, _, rfl, _⟩ := h
    rfl
  · obtain ⟨r, a, R, m, rfl, ⟨ks, n, h1, h2, h3, h4⟩, hm, q⟩ := h
    refine ⟨_, pss_one (ps_ret (pe_callB (cr_all rfl) (by rfl) ma boot_all (pa_cons
      (pe_lc (own := [("_law_number_here", 1)]) (g := gName 1) (tt := tYes) rfl scWithin.nd (pi_list (pe_op op_cat (LvR.pe_listValues rfl (pe_ix ix_tup (pv 0) pe_int (fun _ _ => rfl)) (by rfl) mli (by decide +kernel)) (pe_lst (pa_cons (pe_ix ix_tup (pv 0) pe_int (fun _ _ => rfl)) pa_nil)))) (blkOk_by (by rfl))
        (fun _ _ _ _ _ => pg_name (i := 1) scWithin.nd rfl (Or.inl rfl)) (fun _ _ _ _ _ => pts_nil)
        (fun _ _ _ _ _ => pe_and (pe_cmpR op_lt (pe_callB call_abs (by rfl) mab boot_abs (pa_cons (pe_ix (ix_tupK (K := K) rfl) (pv 1) pe_int (fun _ _ => rfl)) pa_nil)) pe_int (nomark _)) (pe_one (pe_cmpR op_lt (pe_ix (ix_tupK (K := K) rfl) (pv 1) pe_int (fun _ _ => rfl)) pe_int (nomark _))))) pa_nil))), ?_⟩
    have kl : ks.length ≤ m := h2.2.2.1
    refine ⟨_, rfl, r, _, 0, _, rfl, rfl, SqT.of h1, atI_nat (j := 0) rfl, a, ks, rfl, h2.1, fun p1 np1 => ?_⟩
    have s1 := same_new (o := .lst (ks.map (·.2))) np1
    refine ⟨_, rfl, r, _, 2, _, rfl, rfl, SqT.of (s1 _ _ h1), atI_nat (j := 2) rfl, (by show 1 ≤ sizeLine; decide), fun p2 np2 => ?_⟩
    have s2 := same_new (o := .lst [.ref n]) np2
    refine ⟨p1, p2, _, _, rfl, rfl, s2 _ _ upd_same, upd_same, ?_, fun L nL => ?_⟩
    · rw [List.length_map]
      exact Nat.le_of_lt (small1000 (by show ks.length + 1 ≤ 1000; omega))
    have s3 := same_new (o := .lst (ks.map (·.2) ++ [V.ref n])) nL
    have S3 := (s1.trans s2).trans s3
    refine ⟨L, rfl, ⟨_, SqL.of upd_same⟩, fun D nD => ?_⟩
    have cs : ∀ (i : Nat) (x : V), (ks.map (·.2) ++ [V.ref n])[i]? = some x → ∃ (c : Addr) (y : Int × Int), x = .ref c ∧ (ks.map (fun p => R.f p.1) ++ [R.n])[i]? = some y ∧ FrT K H c y.1 y.2 := fun i x e => by
      by_cases c : i < ks.length
      · rw [List.getElem?_append_left (by rw [List.length_map]; exact c), List.getElem?_map] at e
        rw [List.getElem?_append_left (by rw [List.length_map]; exact c), List.getElem?_map]
        have e0 := List.getElem?_eq_getElem c
        rw [e0] at e ⊢
        obtain ⟨_, ⟨c', e2, e3⟩, _⟩ := h2.2.2.2.1 ks[i] (List.getElem_mem c)
        exact ⟨c', _, (Option.some.inj e).symm.trans e2, rfl, FrT.of e3⟩
      · have il := (List.getElem?_eq_some_iff.mp e).1
        rw [List.length_append, List.length_map] at il
        have hi : i = ks.length := by
          have : i < ks.length + 1 := il
          omega
        subst hi
        rw [List.getElem?_append_right (by rw [List.length_map]; exact Nat.le_refl _), List.length_map, Nat.sub_self] at e
        rw [List.getElem?_append_right (by rw [List.length_map]; exact Nat.le_refl _), List.length_map, Nat.sub_self]
        exact ⟨n, R.n, (Option.some.inj e).symm, rfl, h3⟩
    refine lc_list (K := K) (a := L) (xs := ks.map (·.2) ++ [V.ref n]) (fun i H' => H' D = some (.lst ((((ks.map fun p => R.f p.1) ++ [R.n]).take i).map fun y => V.bl (smT y))) ∧ ∀ b o, b ≠ D → (upd (upd (upd H p1 (.lst (ks.map (·.2)))) p2 (.lst [.ref n])) L (.lst (ks.map (·.2) ++ [V.ref n]))) b = some o → H' b = some o)
      ⟨upd_same, fun b o n e => by rw [upd_ne n]; exact e⟩ (fun i H' _ ⟨_, w2⟩ => SqL.of (w2 _ _ (ne_of_none upd_same nD) upd_same)) ?_ ?_
    · rintro i v H' hv ⟨w1, w2⟩
      obtain ⟨c, y, rfl, hy, fr⟩ := cs i v hv
      have fr' : SqT K H' c [.int y.1, .int y.2] := by
        have S4 : ∀ b o, H b = some o → H' b = some o := fun b o e => w2 _ _ (ne_of_none (S3 _ _ e) nD) (S3 _ _ e)
        exact Same.seqT S4 fr.1
      have il : i < 401 + 1 := by
        have := (List.getElem?_eq_some_iff.mp hv).1
        rw [List.length_append, List.length_map] at this
        have : i < ks.length + 1 := this
        omega
      have nxt : ∀ bb, bb = smT y → ∃ acc, H' D = some (.lst acc) ∧ acc.length < sizeLine ∧ upd H' D (.lst (acc ++ [V.bl bb])) D = some (.lst ((((ks.map fun p => R.f p.1) ++ [R.n]).take (i + 1)).map fun y => V.bl (smT y))) ∧
          ∀ b o, b ≠ D → (upd (upd (upd H p1 (.lst (ks.map (·.2)))) p2 (.lst [.ref n])) L (.lst (ks.map (·.2) ++ [V.ref n]))) b = some o → upd H' D (.lst (acc ++ [V.bl bb])) b = some o := fun bb e => by
        refine ⟨_, w1, ?_, ?_, fun b o n e => by rw [upd_ne n]; exact w2 b o n e⟩
        · rw [List.length_map, List.length_take]
          exact small1000 (by omega)
        · rw [upd_same, List.take_add_one, hy, e, List.map_append]
          rfl
      refine ⟨rfl, _, rfl, c, _, 0, _, rfl, rfl, fr', atI_nat (j := 0) rfl, y.1, rfl, _, _, rfl, rfl, decide ((if y.1 < 0 then -y.1 else y.1) < 1000), rfl, ?_⟩
      by_cases z : (if y.1 < 0 then -y.1 else y.1) < 1000
      · rw [decide_eq_true z]
        refine iteT ⟨_, rfl, c, _, 1, _, rfl, rfl, fr', atI_nat (j := 1) rfl, _, _, rfl, rfl, nxt _ ?_⟩
        unfold smT
        rw [decide_eq_true z, Bool.true_and]
      · rw [decide_eq_false z]
        refine iteF (nxt _ ?_)
        unfold smT
        rw [decide_eq_false z, Bool.false_and]
    · rintro H' ⟨w1, w2⟩
      have el : (ks.map (·.2) ++ [V.ref n]).length = ((ks.map fun p => R.f p.1) ++ [R.n]).length := by
        rw [List.length_append, List.length_append, List.length_map, List.length_map]
        rfl
      rw [el, List.take_length] at w1
      have w1' : H' D = some (.lst ((((ks.map fun p => R.f p.1) ++ [R.n]).map smT).map V.bl)) := by
        rw [w1, List.map_map]
        rfl
      refine ⟨D, _, rfl, SqL.of w1', ?_⟩
      refine q H' _ (fun b o e => w2 _ _ (ne_of_none (S3 _ _ e) nD) (S3 _ _ e)) fun hb => ?_
      have hall : ∀ y ∈ (ks.map fun p => R.f p.1) ++ [R.n], smT y = true := fun y hy => List.all_eq_true.mp hb (smT y) (List.mem_map.mpr ⟨y, hy, rfl⟩)
      refine ⟨fun k => ?_, hall _ (List.mem_append_right _ (List.mem_singleton.mpr rfl))⟩
      by_cases c : k ∈ ks.map (·.1)
      · obtain ⟨p, hp, rfl⟩ := List.mem_map.mp c
        exact hall _ (List.mem_append_left _ (List.mem_map.mpr ⟨p, hp, rfl⟩))
      · rw [h2.out c]
        decide
end
end SS

namespace SS
open PySem PySem.Spec PyProof.Rows L2 NumText LamX KyS
section
variable {P : Program} {w : World} {K : PySem.W.Frag} {mg : Str → Option Value} {base : Heap}
/-- all is kept but the state, or lists -/
theorem EntOk.st {m : Nat} {H H' : Hp} {e : Ent} {st c : Addr} (h : EntOk K m H e) (b : But st H H') (sa : StA st c H) : EntOk K m H' e := by
  obtain ⟨i, n, f, xs, g1, _⟩ := sa
  have tp : ∀ x ys, H x = some (.tup ys) → H' x = some (.tup ys) := fun x ys q => b _ _ (ne_of q g1 (fun z => by cases z)) q
  obtain ⟨h1, kvs, n, h2, h3, h4, h5⟩ := h
  refine ⟨tp _ _ h1, kvs, n, tp _ _ h2, ?_, ?_, h5⟩
  · obtain ⟨d1, d2, d3, d4, d5⟩ := h3
    refine ⟨b _ _ (ne_of d1 g1 (fun z => by cases z)) d1, d2, d3, fun p hp => ?_, d5⟩
    obtain ⟨e1, ⟨r', e2, e3⟩, e4⟩ := d4 p hp
    exact ⟨e1, ⟨r', e2, tp _ _ e3⟩, e4⟩
  · obtain ⟨f1, f2⟩ := h4
    rcases f1 with (f1 | ⟨u, f1⟩) | ⟨u, its, m, k1, k2, k3⟩
    · exact ⟨.inl (.inl (tp _ _ f1)), .base (.tup (tp _ _ f1))⟩
    · have q := b _ _ (ne_of f1 g1 (fun z => by cases z)) f1
      exact ⟨.inl (.inr ⟨u, q⟩), .fTuple q⟩
    · exact ⟨.inr ⟨u, its, m, k1, k2, k3⟩, .kTuple k1 k2⟩
theorem But.free {st c b : Addr} {H H' : Hp} (x : But st H H') (sa : StA st c H') (h : H' b = none) : H b = none := by
  cases e : H b with
  | none => rfl
  | some o =>
    by_cases z : b = st
    · obtain ⟨i, n, f, xs, g1, _⟩ := sa
      rw [z, g1] at h
      cases h
    · rw [x _ _ z e] at h
      cases h
/-! ### _law_handed -/
def spHanded (K : PySem.W.Frag) : Sp := fun vs H Q _ => ∃ (st c a : Addr) (zs : List Ent) (m : Nat), vs = [.ref st, .ref a] ∧ StA st c H ∧ SqL K H a (zs.map fun z => V.ref z.t) ∧ (∀ z ∈ zs, EntOk K m H z) ∧ zs.length ≤ 400 ∧
  ∀ (H' : Hp) (l : Addr) (es : List Ent), But st H H' → StA st c H' → (H' l = some (.lst (es.map fun e : Ent => V.ref e.t)) ∨ H' l = some (.tup (es.map fun e : Ent => V.ref e.t))) → (∀ e ∈ es, EntOk K m H' e ∧ H e.a = none) → (es.map (·.a)).Nodup → (es.map nr).Perm (zs.map nr) → H l = none → Q (.ref l) H'
end
end SS

namespace SS
open PySem PySem.Spec PyProof.Rows L2 NumText LamX KyS
/-! ### the mathematics of steps -/
theorem ft_one_less {x c : Int × Int} {A B : Nat} (hx : Okb A x) (hc : Okb B c) : fplus x (ftimes x (fplus c (-1, 1))) = ftimes x c := by
  have h1 : Okb 1 (-1, 1) := ⟨by decide, by decide, by decide, by decide⟩
  have hm := okb_plus hc h1
  have ht := okb_times hx hm
  refine toQ_inj (okb_plus hx ht).lo (okb_times hx hc).lo ?_
  rw [toQ_plus hx.1 ht.1, toQ_times hx.1 hm.1, toQ_times hx.1 hc.1, toQ_plus hc.1 h1.1]
  have e : toQ (-1, 1) = -1 := by
    show Rat.divInt (-1) 1 = -1
    decide +kernel
  rw [e]
  grind
theorem plus_tm {R R2 : Rw} {x : Str} {c : Int × Int} (h : R.Okb 1400) (hc : SS.Okb 105 c) : R.plus R (fplus c (-1, 1)) = R.step R2 (.tm x c) := by
  unfold Rw.plus Rw.step
  have e : (fun k => fplus (R.f k) (ftimes (R.f k) (fplus c (-1, 1)))) = fun k => ftimes (R.f k) c := funext fun k => ft_one_less (h.1 k) hc
  rw [e, ft_one_less h.2 hc]
theorem look_perm {L L' : List Nm} (p : L.Perm L') (nd : (L.map (·.1)).Nodup) {y : Str} (h : y ∈ L.map (·.1)) : look L y = look L' y := by
  have m1 := look_mem h
  have m2 := p.mem_iff.mp m1
  have h' : y ∈ L'.map (·.1) := (p.map _).mem_iff.mp h
  have m3 := look_mem h'
  have nd' : (L'.map (·.1)).Nodup := (p.map _).nodup_iff.mp nd
  obtain ⟨i, hi⟩ := List.mem_iff_getElem?.mp m2
  obtain ⟨j, hj⟩ := List.mem_iff_getElem?.mp m3
  have q1 : (L'.map (·.1))[i]? = some y := by rw [List.getElem?_map, hi]; rfl
  have q2 : (L'.map (·.1))[j]? = some y := by rw [List.getElem?_map, hj]; rfl
  have z := (List.getElem?_inj (List.getElem?_eq_some_iff.mp q1).1 nd').mp (q1.trans q2.symm)
  rw [z, hj] at hi
  exact (congrArg Prod.snd (Option.some.inj hi)).symm
/-- a step does not look at the order -/
theorem stepM_perm {L L' : List Nm} (p : L.Perm L') (nd : (L.map (·.1)).Nodup) {t : Stp} (h : t.nm2 ∈ L.map (·.1)) : (stepM L t).Perm (stepM L' t) := by
  unfold stepM
  rw [look_perm p nd h]
  exact p.map _
theorem steps_perm : ∀ (ts : List Stp) {L L' : List Nm}, L.Perm L' → (L.map (·.1)).Nodup → (∀ t ∈ ts, t.nm2 ∈ L.map (·.1)) → (ts.foldl stepM L).Perm (ts.foldl stepM L')
  | [], _, _, p, _, _ => p
  | t :: ts, L, L', p, nd, h => by
    rw [List.foldl_cons, List.foldl_cons]
    refine steps_perm ts (stepM_perm p nd (h t List.mem_cons_self)) (by rw [stepM_names]; exact nd) fun t' ht' => ?_
    rw [stepM_names]
    exact h t' (List.mem_cons_of_mem _ ht')
/-- two lists of pairs whose names rise are one -/
theorem leS_uniq {L L' : List Nm} (p : L.Perm L') (nd : (L.map (·.1)).Nodup) (s : (L.map (·.1)).Pairwise leS) (s' : (L'.map (·.1)).Pairwise leS) : L = L' := by
  refine List.Perm.eq_of_pairwise (le := fun a b : Nm => leS a.1 b.1) (fun a b ha hb h1 h2 => ?_) (List.pairwise_map.mp s) (List.pairwise_map.mp s') p
  have e : a.1 = b.1 := leS_anti h1 h2
  have hb' := p.mem_iff.mpr hb
  obtain ⟨i, hi⟩ := List.mem_iff_getElem?.mp ha
  obtain ⟨j, hj⟩ := List.mem_iff_getElem?.mp hb'
  have q1 : (L.map (·.1))[i]? = some a.1 := by rw [List.getElem?_map, hi]; rfl
  have q2 : (L.map (·.1))[j]? = some a.1 := by rw [List.getElem?_map, hj, e]; rfl
  have z := (List.getElem?_inj (List.getElem?_eq_some_iff.mp q1).1 nd).mp (q1.trans q2.symm)
  rw [z, hj] at hi
  exact (Option.some.inj hi).symm
/-! ### how far the fractions grow: each a whole number over one bottom -/
def Ov (D M : Nat) (x : Int × Int) : Prop := ∃ z : Int, toQ x * ((D : Int) : Rat) = (z : Rat) ∧ z.natAbs ≤ M
theorem toQ_mul {x : Int × Int} (h : 0 < x.2) : toQ x * (x.2 : Rat) = (x.1 : Rat) := by
  have h0 : (x.2 : Rat) ≠ 0 := by
    intro z
    have : x.2 = 0 := by exact_mod_cast z
    omega
  show Rat.divInt x.1 x.2 * (x.2 : Rat) = _
  rw [Rat.divInt_eq_div, Rat.div_mul_cancel h0]
theorem ov_ok {D M n : Nat} {x : Int × Int} (l : Lo x) (h : Ov D M x) (d0 : 0 < D) (hD : D < 2 ^ n) (hM : M < 2 ^ n) : Okb n x := by
  obtain ⟨z, e, hz⟩ := h
  obtain ⟨x0, g⟩ := l
  have e2 : x.1 * (D : Int) = z * x.2 := by
    have t1 := toQ_mul x0
    have : (x.1 : Rat) * ((D : Int) : Rat) = (z : Rat) * (x.2 : Rat) := by
      rw [← t1, ← e]
      grind
    exact_mod_cast this
  obtain ⟨q, hq⟩ := dvd_cop (a := x.2) (b := x.1) (c := (D : Int)) ⟨z, by rw [e2, Int.mul_comm]⟩ (by rw [Int.gcd_comm]; exact g)
  have q0 : 0 < q := by
    have : 0 < x.2 * q := by rw [← hq]; exact_mod_cast d0
    exact Int.pos_of_mul_pos_left (by rw [Int.mul_comm]; exact this) x0
  have e3 : x.1 * q = z := by
    rw [hq] at e2
    have : (x.1 * q) * x.2 = z * x.2 := by rw [← e2]; grind
    exact Int.eq_of_mul_eq_mul_right (by omega) this
  have n2 : x.2.natAbs ≤ D := by
    have : x.2.natAbs * q.natAbs = D := by rw [← Int.natAbs_mul, ← hq]; rfl
    rw [← this]
    exact Nat.le_mul_of_pos_right _ (by omega)
  have n1 : x.1.natAbs ≤ M := by
    refine Nat.le_trans ?_ hz
    rw [← e3, Int.natAbs_mul]
    exact Nat.le_mul_of_pos_right _ (by omega)
  exact ⟨x0, Nat.lt_of_le_of_lt n1 hM, Nat.lt_of_le_of_lt n2 hD, g⟩
theorem ov_ad {D M : Nat} {x y c : Int × Int} (lx : Lo x) (ly : Lo y) (lc : Lo c) (hx : Ov D M x) (hy : Ov D M y) : Ov (D * c.2.natAbs) (M * (c.2.natAbs + c.1.natAbs)) (fplus x (ftimes y c)) := by
  obtain ⟨z, e, hz⟩ := hx
  obtain ⟨u, e', hu⟩ := hy
  have tc := toQ_mul lc.1
  refine ⟨z * c.2 + u * c.1, ?_, ?_⟩
  · rw [toQ_plus lx.1 (lo_times ly.1 lc.1).1, toQ_times ly.1 lc.1]
    have ec : (((D * c.2.natAbs : Nat) : Int) : Rat) = ((D : Int) : Rat) * (c.2 : Rat) := by
      have : ((D * c.2.natAbs : Nat) : Int) = (D : Int) * c.2 := by
        have := lc.1
        rw [Int.natCast_mul, Int.natAbs_of_nonneg (by omega)]
      rw [this]
      exact_mod_cast rfl
    rw [ec]
    have : ((z * c.2 + u * c.1 : Int) : Rat) = (z : Rat) * (c.2 : Rat) + (u : Rat) * (c.1 : Rat) := by exact_mod_cast rfl
    rw [this, ← e, ← e', ← tc]
    grind
  · refine Nat.le_trans (Int.natAbs_add_le _ _) ?_
    rw [Int.natAbs_mul, Int.natAbs_mul, Nat.mul_add]
    exact Nat.add_le_add (Nat.mul_le_mul_right _ hz) (Nat.mul_le_mul_right _ hu)
theorem ov_tm {D M : Nat} {x c : Int × Int} (lx : Lo x) (lc : Lo c) (hx : Ov D M x) : Ov (D * c.2.natAbs) (M * (c.2.natAbs + c.1.natAbs)) (ftimes x c) := by
  obtain ⟨z, e, hz⟩ := hx
  have tc := toQ_mul lc.1
  refine ⟨z * c.1, ?_, ?_⟩
  · rw [toQ_times lx.1 lc.1]
    have ec : (((D * c.2.natAbs : Nat) : Int) : Rat) = ((D : Int) : Rat) * (c.2 : Rat) := by
      have : ((D * c.2.natAbs : Nat) : Int) = (D : Int) * c.2 := by
        have := lc.1
        rw [Int.natCast_mul, Int.natAbs_of_nonneg (by omega)]
      rw [this]
      exact_mod_cast rfl
    rw [ec]
    have : ((z * c.1 : Int) : Rat) = (z : Rat) * (c.1 : Rat) := by exact_mod_cast rfl
    rw [this, ← e, ← tc]
    grind
  · rw [Int.natAbs_mul, Nat.mul_add]
    exact Nat.le_trans (Nat.mul_le_mul_right _ hz) (Nat.le_add_left _ _)
theorem ov_more {D M D' M' : Nat} {x : Int × Int} (h : Ov D M x) (k : Nat) (e : D' = D * k) (hM : M * k ≤ M') : Ov D' M' x := by
  obtain ⟨z, e1, hz⟩ := h
  refine ⟨z * (k : Int), ?_, ?_⟩
  · have : ((D' : Int) : Rat) = ((D : Int) : Rat) * ((k : Int) : Rat) := by
      rw [e]
      exact_mod_cast rfl
    rw [this]
    have : ((z * (k : Int) : Int) : Rat) = (z : Rat) * ((k : Int) : Rat) := by exact_mod_cast rfl
    rw [this, ← e1]
    grind
  · rw [Int.natAbs_mul]
    exact Nat.le_trans (Nat.mul_le_mul_right _ hz) hM
end SS

namespace SS
open PySem PySem.Spec PyProof.Rows L2 NumText LamX KyS
def OvR (D M : Nat) (R : Rw) : Prop := (∀ k, Lo (R.f k) ∧ Ov D M (R.f k)) ∧ Lo R.n ∧ Ov D M R.n
theorem OvR.okb {D M : Nat} {R : Rw} (h : OvR D M R) (d0 : 0 < D) (hD : D < 2 ^ 1400) (hM : M < 2 ^ 1400) : R.Okb 1400 :=
  ⟨fun k => ov_ok (h.1 k).1 (h.1 k).2 d0 hD hM, ov_ok h.2.1 h.2.2 d0 hD hM⟩
def dT (t : Stp) : Nat := t.num.2.natAbs
def mT (t : Stp) : Nat := t.num.2.natAbs + t.num.1.natAbs
def prodD (ts : List Stp) : Nat := ts.foldr (fun t n => dT t * n) 1
def prodM (ts : List Stp) : Nat := ts.foldr (fun t n => mT t * n) 1
theorem OvR.step {D M : Nat} {R R2 : Rw} {t : Stp} (h : OvR D M R) (h2 : OvR D M R2) (lc : Lo t.num) : OvR (D * dT t) (M * mT t) (R.step R2 t) := by
  cases t with
  | tm x c => exact ⟨fun k => ⟨lo_times (h.1 k).1.1 lc.1, ov_tm (h.1 k).1 lc (h.1 k).2⟩, lo_times h.2.1.1 lc.1, ov_tm h.2.1 lc h.2.2⟩
  | ad x y c => exact ⟨fun k => ⟨lo_plus (h.1 k).1.1 (lo_times (h2.1 k).1.1 lc.1).1, ov_ad (h.1 k).1 (h2.1 k).1 lc (h.1 k).2 (h2.1 k).2⟩, lo_plus h.2.1.1 (lo_times h2.2.1.1 lc.1).1, ov_ad h.2.1 h2.2.1 lc h.2.2 h2.2.2⟩
theorem OvR.more {D M : Nat} {R : Rw} {t : Stp} (h : OvR D M R) : OvR (D * dT t) (M * mT t) R := by
  have le : M * dT t ≤ M * mT t := Nat.mul_le_mul_left _ (Nat.le_add_right _ _)
  exact ⟨fun k => ⟨(h.1 k).1, ov_more (h.1 k).2 _ rfl le⟩, h.2.1, ov_more h.2.2 _ rfl le⟩
theorem prod_pos : ∀ {ts : List Stp}, (∀ t ∈ ts, Lo t.num) → 0 < prodD ts ∧ 0 < prodM ts
  | [], _ => ⟨Nat.one_pos, Nat.one_pos⟩
  | t :: ts, h => by
    obtain ⟨a, b⟩ := prod_pos (ts := ts) fun t' ht => h t' (List.mem_cons_of_mem _ ht)
    have l := (h t List.mem_cons_self).1
    exact ⟨Nat.mul_pos (by unfold dT; omega) a, Nat.mul_pos (by unfold mT; omega) b⟩
/-- all is well on the way where the fractions stay small enough -/
theorem way_of : ∀ {ts : List Stp} {L : List Nm} {D M : Nat} {U : List Str}, 0 < D → (∀ q ∈ L, q.2.In U ∧ OvR D M q.2) → (∀ t ∈ ts, t.Ok (L.map (·.1))) → D * prodD ts < 2 ^ 1400 → M * prodM ts < 2 ^ 1400 →
    ∀ i, ∀ q ∈ (ts.take i).foldl stepM L, q.2.In U ∧ q.2.Okb 1400 := by
  intro ts
  induction ts with
  | nil =>
    intro L D M U d0 h _ hD hM i q hq
    rw [List.take_nil] at hq
    have e1 : D * prodD [] = D := Nat.mul_one D
    have e2 : M * prodM [] = M := Nat.mul_one M
    rw [e1] at hD
    rw [e2] at hM
    exact ⟨(h q hq).1, (h q hq).2.okb d0 hD hM⟩
  | cons t ts ih =>
    intro L D M U d0 h ok hD hM i q hq
    have okt := ok t List.mem_cons_self
    have lo : ∀ t' ∈ t :: ts, Lo t'.num := fun t' ht => (ok t' ht).nm.2.2.lo
    obtain ⟨p1, p2⟩ := prod_pos (ts := ts) fun t' ht => lo t' (List.mem_cons_of_mem _ ht)
    have lt := lo t List.mem_cons_self
    have dp : 0 < dT t := by have := lt.1; unfold dT; omega
    have mp : 0 < mT t := by have := lt.1; unfold mT; omega
    have hD' : D * dT t * prodD ts < 2 ^ 1400 := by rw [Nat.mul_assoc]; exact hD
    have hM' : M * mT t * prodM ts < 2 ^ 1400 := by rw [Nat.mul_assoc]; exact hM
    have hD0 : D < 2 ^ 1400 := Nat.lt_of_le_of_lt (Nat.le_trans (Nat.le_mul_of_pos_right _ dp) (Nat.le_mul_of_pos_right _ p1)) hD'
    have hM0 : M < 2 ^ 1400 := Nat.lt_of_le_of_lt (Nat.le_trans (Nat.le_mul_of_pos_right _ mp) (Nat.le_mul_of_pos_right _ p2)) hM'
    have okL : ∀ q ∈ L, q.2.In U ∧ q.2.Okb 1400 := fun q hq => ⟨(h q hq).1, (h q hq).2.okb d0 hD0 hM0⟩
    cases i with
    | zero => exact okL q hq
    | succ i =>
      rw [List.take_succ_cons, List.foldl_cons] at hq
      refine ih (L := stepM L t) (D := D * dT t) (M := M * mT t) (Nat.mul_pos d0 dp) (fun q hq => ?_) (fun t' ht => by rw [stepM_names]; exact ok t' (List.mem_cons_of_mem _ ht)) hD' hM' i q hq
      obtain ⟨g, hg, rfl⟩ := List.mem_map.mp hq
      have m2 := look_mem (L := L) okt.nm.2.1
      by_cases c : g.1 = t.nm
      · rw [if_pos c]
        exact ⟨step_in (h g hg).1 (h _ m2).1 (okL g hg).2 (okL _ m2).2 okt.nm.2.2, (h g hg).2.step (h _ m2).2 lt⟩
      · rw [if_neg c]
        exact ⟨(h g hg).1, (h g hg).2.more⟩
/-- a number that all numbers below a hundred divide -/
def dHund : Nat := (List.range 99).foldl (fun a k => Nat.lcm a (k + 1)) 1
theorem dHund_dvd : ∀ b : Nat, 0 < b → b < 100 → b ∣ dHund := by
  have : ∀ b : Fin 100, 0 < b.val → b.val ∣ dHund := by decide +kernel
  exact fun b h1 h2 => this ⟨b, h2⟩ h1
theorem dHund_pos : 0 < dHund := by decide +kernel
theorem dHund_lt : dHund < 2 ^ 140 := by decide +kernel
theorem sm_ov {x : Int × Int} (l : Lo x) (h : smT x = true) : Ov dHund (999 * dHund) x := by
  unfold smT at h
  rw [Bool.and_eq_true] at h
  have a1 := of_decide_eq_true h.1
  have a2 := of_decide_eq_true h.2
  have x0 := l.1
  obtain ⟨q, hq⟩ := dHund_dvd x.2.natAbs (by omega) (by omega)
  have e : (dHund : Int) = x.2 * (q : Int) := by
    rw [hq, Int.natCast_mul, Int.natAbs_of_nonneg (by omega)]
  refine ⟨x.1 * (q : Int), ?_, ?_⟩
  · rw [e]
    have t1 := toQ_mul x0
    have : ((x.2 * (q : Int) : Int) : Rat) = (x.2 : Rat) * ((q : Int) : Rat) := by exact_mod_cast rfl
    rw [this]
    have : ((x.1 * (q : Int) : Int) : Rat) = (x.1 : Rat) * ((q : Int) : Rat) := by exact_mod_cast rfl
    rw [this, ← t1]
    grind
  · rw [Int.natAbs_mul]
    have qd : q ≤ dHund := by
      rw [hq]
      exact Nat.le_mul_of_pos_left _ (by omega)
    have xl : x.1.natAbs ≤ 999 := by
      split at a1 <;> omega
    exact Nat.mul_le_mul xl qd
theorem sm_ovR {R : Rw} {A : Nat} (ok : R.Okb A) (h : (∀ k, smT (R.f k) = true) ∧ smT R.n = true) : OvR dHund (999 * dHund) R :=
  ⟨fun k => ⟨(ok.1 k).lo, sm_ov (ok.1 k).lo (h.1 k)⟩, ok.2.lo, sm_ov ok.2.lo h.2⟩
end SS

namespace SS
open PySem PySem.Spec PyProof.Rows L2
/-! ### texts that rise -/
theorem nlt_trans : ∀ (a b c : List Nat), ltCps b a = false → ltCps c b = false → ltCps c a = false
  | [], _, [], _, _ => rfl
  | [], [], _ :: _, _, _ => rfl
  | [], _ :: _, _ :: _, _, _ => rfl
  | a :: as, [], c, h, _ => by simp [ltCps] at h
  | a :: as, b :: bs, [], _, h => by simp [ltCps] at h
  | a :: as, b :: bs, c :: cs, h1, h2 => by
    have ih := nlt_trans as bs cs
    simp only [ltCps, Bool.or_eq_false_iff, decide_eq_false_iff_not, Bool.and_eq_false_imp, beq_iff_eq] at h1 h2 ⊢
    refine ⟨by omega, fun e => ?_⟩
    have e1 : b = a := by omega
    have e2 : c = b := by omega
    exact ih (h1.2 e1) (h2.2 e2)
theorem nlt_antisymm : ∀ (a b : List Nat), ltCps b a = false → ltCps a b = false → a = b
  | [], [], _, _ => rfl
  | [], b :: bs, _, h => by simp [ltCps] at h
  | a :: as, [], h, _ => by simp [ltCps] at h
  | a :: as, b :: bs, h1, h2 => by
    have ih := nlt_antisymm as bs
    simp only [ltCps, Bool.or_eq_false_iff, decide_eq_false_iff_not, Bool.and_eq_false_imp, beq_iff_eq] at h1 h2
    have e : a = b := by omega
    rw [e, ih (h1.2 e.symm) (h2.2 e)]
def leT (a b : Str) : Prop := ltCps b.cps.toList a.cps.toList = false
theorem leT_antisymm {a b : Str} (h1 : leT a b) (h2 : leT b a) : a = b := by
  have e := nlt_antisymm _ _ h1 h2
  cases a
  cases b
  congr 1
  exact Array.toList_inj.mp e
theorem rising_pw : ∀ (l : List Str) (p : Str), risingS p l = true → (p :: l).Pairwise leT
  | [], p, _ => List.pairwise_singleton leT p
  | x :: r, p, h => by
    have h' : (!ltCps x.cps.toList p.cps.toList) = true ∧ risingS x r = true := Bool.and_eq_true_iff.mp h
    have i := rising_pw r x h'.2
    have px : leT p x := by
      have z := h'.1
      unfold leT
      cases c : ltCps x.cps.toList p.cps.toList with
      | false => rfl
      | true =>
        rw [c] at z
        cases z
    refine List.pairwise_cons.mpr ⟨fun y hy => ?_, i⟩
    rcases List.mem_cons.mp hy with e | e
    · rw [e]
      exact px
    · exact nlt_trans _ _ _ px ((List.pairwise_cons.mp i).1 y e)
theorem sorted_pw {l : List Str} (h : sortedS l = true) : l.Pairwise leT := by
  cases l with
  | nil => exact List.Pairwise.nil
  | cons x r => exact rising_pw r x h
end SS

namespace SS
open PySem PySem.Spec PyProof.Rows L2 NumText LamX KyS
section
variable {P : Program} {w : World} {K : PySem.W.Frag} {mg : Str → Option Value} {base : Heap}
/-- a dict from names to rows, in the law -/
structure CurL (K : PySem.W.Frag) (U : List Str) (H' : Hp) (D : Addr) (es : List Ent) : Prop where
  d : H' D = some (.dK (es.map fun e => (.inr e.x, V.ref e.r)))
  r : ∀ e ∈ es, RowE K U.length H' e.r e.a e.R ∧ e.a ≠ D
  nd : (es.map (·.x)).Nodup
  ln : es.length ≤ 60
theorem CurL.step {U : List Str} {H1 H2 : Hp} {D : Addr} {es : List Ent} {t : Stp} {e e2 : Ent} {r' a' : Addr} (c : CurL K U H1 D es) (he : e ∈ es) (he2 : e2 ∈ es) (hx : e.x = t.nm) (hx2 : e2.x = t.nm2) (s : Same H1 H2) (ha : H1 a' = none)
    (row : RowE K (U.length + U.length) H2 r' a' (e.R.step e2.R t)) (iu : (e.R.step e2.R t).In U) :
    CurL K U (upd H2 D (.dK (putK (es.map fun e => (.inr e.x, V.ref e.r)) (.inr t.nm) (.ref r')))) D (repl es t.nm (e.R.step e2.R t) r' a') ∧ (repl es t.nm (e.R.step e2.R t) r' a').map nr = stepM (es.map nr) t := by
  have hD := s _ _ c.d
  have aD : a' ≠ D := fun z => by rw [z, c.d] at ha; cases ha
  have mx : t.nm ∈ es.map (·.x) := List.mem_map.mpr ⟨e, he, hx⟩
  have l2 : look (es.map nr) t.nm2 = e2.R := by rw [← hx2]; exact nr_look c.nd he2
  have ex : (repl es t.nm (e.R.step e2.R t) r' a').map (·.x) = es.map (·.x) := by
    unfold repl
    rw [List.map_map]
    refine List.map_congr_left fun g _ => ?_
    show (if g.x = t.nm then (⟨g.t, g.x, _, r', a'⟩ : Ent) else g).x = g.x
    split <;> rfl
  refine ⟨⟨by rw [upd_same, putK_ents mx], fun g hg => ?_, by rw [ex]; exact c.nd, by unfold repl; rw [List.length_map]; exact c.ln⟩, ?_⟩
  · obtain ⟨q, hq, eq⟩ := List.mem_map.mp hg
    by_cases z : q.x = t.nm
    · rw [if_pos z] at eq
      rw [← eq]
      exact ⟨RowE.but (row.tight iu) hD (fun b o n q => by rw [upd_ne n]; exact q) aD, aD⟩
    · rw [if_neg z] at eq
      rw [← eq]
      obtain ⟨r1, r3⟩ := c.r q hq
      exact ⟨RowE.but (RowE.extN r1 (ExtN.same s)) hD (fun b o n q => by rw [upd_ne n]; exact q) r3, r3⟩
  · have z : (repl es t.nm (e.R.step e2.R t) r' a').map nr = (es.map nr).map fun q => if q.1 = t.nm then (q.1, e.R.step e2.R t) else q := repl_nr
    rw [z]
    unfold stepM
    rw [List.map_map, List.map_map]
    refine List.map_congr_left fun g hg => ?_
    show (if g.x = t.nm then (g.x, e.R.step e2.R t) else nr g) = if g.x = t.nm then (g.x, g.R.step (look (es.map nr) t.nm2) t) else nr g
    by_cases y : g.x = t.nm
    · rw [if_pos y, if_pos y, l2]
      have e3 : g.R = e.R := by rw [← nr_look c.nd hg, ← nr_look c.nd he, y, hx]
      rw [e3]
    · rw [if_neg y, if_neg y]
/-! ### _law_done -/
def spDone15 (K : PySem.W.Frag) : Sp := fun vs H Q _ => ∃ (a b : Addr) (zs : List Ent) (us : List V) (ts : List Stp) (U : List Str), vs = [.ref a, .ref b] ∧ SqL K H a (zs.map fun z => V.ref z.t) ∧ (∀ z ∈ zs, EntOk K U.length H z) ∧ (zs.map (·.x)).Nodup ∧ zs.length ≤ 60 ∧ U.length ≤ 20 ∧
  SqL K H b us ∧ Paired (StpAt K H) us ts ∧ Way U (zs.map nr) ts ∧
  ∀ (H' : Hp) (l : Addr) (es : List Ent) (L0 : List Nm), Same H H' → L0.Perm ((zs.map nr).filter isN) → (L0.map (·.1)).Pairwise leS → es.map nr = ts.foldl stepM L0 → H' l = some (.lst (es.map fun e => V.ref e.t)) → (∀ e ∈ es, EntOk K U.length H' e) → H l = none → Q (.ref l) H'
end
end SS

namespace SS
open PySem PySem.Spec PyProof.Rows L2 NumText LamX KyS
theorem prod_le {B : Nat} : ∀ {ts : List Stp}, (∀ t ∈ ts, dT t ≤ 2 ^ B ∧ mT t ≤ 2 ^ B) → prodD ts ≤ 2 ^ (B * ts.length) ∧ prodM ts ≤ 2 ^ (B * ts.length)
  | [], _ => ⟨Nat.le_refl _, Nat.le_refl _⟩
  | t :: ts, h => by
    obtain ⟨a, b⟩ := prod_le (ts := ts) fun t' ht => h t' (List.mem_cons_of_mem _ ht)
    obtain ⟨c, d⟩ := h t List.mem_cons_self
    have e : 2 ^ (B * (t :: ts).length) = 2 ^ B * 2 ^ (B * ts.length) := by rw [List.length_cons, Nat.mul_add, Nat.mul_one, Nat.add_comm, Nat.pow_add]
    rw [e]
    exact ⟨Nat.mul_le_mul c a, Nat.mul_le_mul d b⟩
end SS

namespace SS
open PySem PySem.Spec PyProof.Rows L2 NumText LamX KyS
section
variable {P : Program} {w : World} {K : PySem.W.Frag} {mg : Str → Option Value} {base : Heap}
/-! ### _law_steps -/
theorem SqT.kp {K : PySem.W.Frag} {H H' : Hp} {a : Addr} {xs : List V} (h : SqT K H a xs) (k : ∀ b o, (∀ ys, o ≠ .lst ys) → H b = some o → H' b = some o) : SqT K H' a xs := by
  rcases h with (h | ⟨o, h⟩) | ⟨o, its, m, k1, k2, k3⟩
  · exact .inl (.inl (k _ _ (fun ys => by simp) h))
  · exact .inl (.inr ⟨o, k _ _ (fun ys => by simp) h⟩)
  · exact .inr ⟨o, its, m, k1, k2, k3⟩
theorem FrT.kp {K : PySem.W.Frag} {H H' : Hp} {p : Addr} {n d : Int} (h : FrT K H p n d) (k : ∀ b o, (∀ ys, o ≠ .lst ys) → H b = some o → H' b = some o) : FrT K H' p n d := by
  obtain ⟨h1, h2⟩ := h
  rcases h1 with (h1 | ⟨o, h1⟩) | ⟨o, its, m, k1, k2, k3⟩
  · have q := k _ _ (fun ys => by simp) h1
    exact ⟨.inl (.inl q), .base (.tup q)⟩
  · have q := k _ _ (fun ys => by simp) h1
    exact ⟨.inl (.inr ⟨o, q⟩), .fTuple q⟩
  · exact ⟨.inr ⟨o, its, m, k1, k2, k3⟩, .kTuple k1 k2⟩
theorem StpAt.kp {K : PySem.W.Frag} {H H' : Hp} {v : V} {t : Stp} (h : StpAt K H v t) (k : ∀ b o, (∀ ys, o ≠ .lst ys) → H b = some o → H' b = some o) : StpAt K H' v t := by
  cases t with
  | tm x c =>
    obtain ⟨s, n, e1, h1, h2⟩ := h
    exact ⟨s, n, e1, SqT.kp h1 k, FrT.kp h2 k⟩
  | ad x y c =>
    obtain ⟨s, n, e1, h1, h2⟩ := h
    exact ⟨s, n, e1, SqT.kp h1 k, FrT.kp h2 k⟩
theorem But.kp {st c : Addr} {H H' : Hp} (b : But st H H') (sa : StA st c H) : ∀ x o, (∀ ys, o ≠ .lst ys) → H x = some o → H' x = some o := fun x o n e => b _ _ (fun z => by
  obtain ⟨i, m, f, xs, g1, _⟩ := sa
  rw [z, g1] at e
  exact n _ (Option.some.inj e).symm) e
theorem paired_snoc {α β : Type} {R : α → β → Prop} : ∀ {xs : List α} {ys : List β} {x : α} {y : β}, Paired R xs ys → R x y → Paired R (xs ++ [x]) (ys ++ [y])
  | _, _, _, _, .nil, r => .cons r .nil
  | _, _, _, _, .cons a p, r => .cons a (paired_snoc p r)
theorem paired_mono {α β : Type} {R S : α → β → Prop} (h : ∀ x y, R x y → S x y) : ∀ {xs : List α} {ys : List β}, Paired R xs ys → Paired S xs ys
  | _, _, .nil => .nil
  | _, _, .cons a p => .cons (h _ _ a) (paired_mono h p)

def spSteps15 (K : PySem.W.Frag) : Sp := fun vs H Q _ => ∃ (st c u : Addr) (xs : List Str) (many : Int), vs = [.ref st, .ref u, .int many] ∧ StA st c H ∧ H u = some (.lst (xs.map V.str)) ∧ 0 < xs.length ∧ xs.length ≤ 60 ∧ 0 ≤ many ∧ (many < 13 ∨ many = 40 ∨ many = 200) ∧
  ∀ (H' : Hp) (l : Addr) (us : List V) (ts : List Stp), But st H H' → StA st c H' → H l = none → H' l = some (.lst us) → us.length ≤ 200 → Paired (StpAt K H') us ts → (∀ t ∈ ts, t.Ok xs) → prodD ts ≤ 2 ^ 1250 → prodM ts ≤ 2 ^ 1250 → Q (.ref l) H'
end
end SS

namespace SS
open PySem PySem.Spec PyProof.Rows L2 NumText LamX KyS
section
variable {P : Program} {w : World} {K : PySem.W.Frag} {mg : Str → Option Value} {base : Heap}
/-- all but lists is kept -/
def NoL (H H' : Hp) : Prop := ∀ b o, (∀ ys, o ≠ .lst ys) → H b = some o → H' b = some o
theorem NoL.same {H H' : Hp} (s : Same H H') : NoL H H' := fun b o _ e => s b o e
theorem NoL.trans {H H1 H2 : Hp} (x : NoL H H1) (y : NoL H1 H2) : NoL H H2 := fun b o n e => y b o n (x b o n e)
theorem DM.kp {z : Prop} {m : Nat} {H H' : Hp} {a : Addr} {kvs : List (Key × V)} {f : Key → Int × Int} (h : DM z m H a kvs f) (k : NoL H H') : DM z m H' a kvs f := by
  obtain ⟨d1, d2, d3, d4, d5⟩ := h
  refine ⟨k _ _ (fun ys => by simp) d1, d2, d3, fun p hp => ?_, d5⟩
  obtain ⟨e1, ⟨r', e2, e3⟩, e4⟩ := d4 p hp
  exact ⟨e1, ⟨r', e2, k _ _ (fun ys => by simp) e3⟩, e4⟩
theorem RowE.kp {m : Nat} {H H' : Hp} {r a : Addr} {R : Rw} (h : RowE K m H r a R) (k : NoL H H') : RowE K m H' r a R := by
  obtain ⟨kvs, n, h1, h2, h3, h4⟩ := h
  exact ⟨kvs, n, k _ _ (fun ys => by simp) h1, h2.kp k, h3.kp k, h4⟩
theorem EntOk.kp {m : Nat} {H H' : Hp} {e : Ent} (h : EntOk K m H e) (k : NoL H H') : EntOk K m H' e := ⟨k _ _ (fun ys => by simp) h.1, h.2.kp k⟩
theorem But.nol {st c : Addr} {H H' : Hp} (b : But st H H') (sa : StA st c H) : NoL H H' := But.kp b sa
theorem nol_lst {H : Hp} {L : Addr} {xs : List V} {o : HO} (h : H L = some (.lst xs)) : NoL H (upd H L o) := fun b x n e => by
  rw [upd_ne fun z => ?_]
  · exact e
  · rw [z, h] at e
    exact n _ (Option.some.inj e).symm
/-- the heap on the way of _law_equals -/
structure Eqs (K : PySem.W.Frag) (st c ul nl rl pa : Addr) (xs ns : List Str) (zs : List Ent) (pk : List (Key × V)) (pg : Key → Int × Int) (H H' : Hp) : Prop where
  b : But st H H'
  s : StA st c H'
  u : H' ul = some (.lst (xs.map V.str))
  n : H' nl = some (.lst (ns.map V.str))
  r : H' rl = some (.lst (zs.map fun z => V.ref z.t))
  p : DM False 10 H' pa pk pg
  z : ∀ z ∈ zs, EntOk K xs.length H' z ∧ z.R.In xs ∧ z.R.Okb 20 ∧ (∀ k, smT (z.R.f k) = true) ∧ smT z.R.n = true
section
variable {st c ul nl rl pa : Addr} {xs ns : List Str} {zs : List Ent} {pk : List (Key × V)} {pg : Key → Int × Int} {H H1 H2 : Hp}
theorem Eqs.but (h : Eqs K st c ul nl rl pa xs ns zs pk pg H H1) (b : But st H1 H2) (s : StA st c H2) (nu : ul ≠ st) (nn : nl ≠ st) (nr : rl ≠ st) : Eqs K st c ul nl rl pa xs ns zs pk pg H H2 :=
  ⟨h.b.trans b, s, b _ _ nu h.u, b _ _ nn h.n, b _ _ nr h.r, h.p.but b h.s, fun z hz => ⟨(h.z z hz).1.kp (b.nol h.s), (h.z z hz).2⟩⟩
theorem Eqs.same (h : Eqs K st c ul nl rl pa xs ns zs pk pg H H1) (s : Same H1 H2) : Eqs K st c ul nl rl pa xs ns zs pk pg H H2 :=
  ⟨h.b.trans (Same.but s), h.s.same s, s _ _ h.u, s _ _ h.n, s _ _ h.r, h.p.same s, fun z hz => ⟨(h.z z hz).1.kp (NoL.same s), (h.z z hz).2⟩⟩
theorem Eqs.put (h : Eqs K st c ul nl rl pa xs ns zs pk pg H H1) (e : Ent) (n1 : H rl = none) (n2 : rl ≠ st) (n3 : rl ≠ c) (n4 : rl ≠ ul) (n5 : rl ≠ nl) (he : EntOk K xs.length H1 e ∧ e.R.In xs ∧ e.R.Okb 20 ∧ (∀ k, smT (e.R.f k) = true) ∧ smT e.R.n = true) :
    Eqs K st c ul nl rl pa xs ns (zs ++ [e]) pk pg H (upd H1 rl (.lst ((zs.map fun z => V.ref z.t) ++ [.ref e.t]))) := by
  have k := nol_lst (o := .lst ((zs.map fun z => V.ref z.t) ++ [.ref e.t])) h.r
  refine ⟨fun b o n q => ?_, h.s.other n2 n3, by rw [upd_ne n4.symm]; exact h.u, by rw [upd_ne n5.symm]; exact h.n, by rw [upd_same, List.map_append]; rfl, h.p.kp k, fun z hz => ?_⟩
  · rw [upd_ne fun z => ?_]
    · exact h.b b o n q
    · rw [z, n1] at q
      cases q
  · rcases List.mem_append.mp hz with y | y
    · exact ⟨(h.z z y).1.kp k, (h.z z y).2⟩
    · obtain rfl := List.mem_singleton.mp y
      exact ⟨he.1.kp k, he.2⟩
end
theorem In.of {xs : List Str} {m : Nat} {H : Hp} {a : Addr} {kvs : List (Key × V)} {z : Prop} {f : Key → Int × Int} (h : DM z m H a kvs f) (k : KIn xs kvs) (s : Str) (n : Int × Int) : Rw.In xs ⟨f, s, n⟩ := fun key hk => by
  refine Classical.byContradiction fun no => hk ?_
  have : ¬ key ∈ kvs.map (·.1) := fun z => by
    obtain ⟨p, hp, rfl⟩ := List.mem_map.mp z
    obtain ⟨x, hx, e⟩ := k p hp
    exact no (List.mem_map.mpr ⟨x, hx, e.symm⟩)
  show (f key).1 = 0
  rw [h.out this]
theorem plus_in {U : List Str} {A B C : Nat} {R R2 : Rw} {c : Int × Int} (h : R.In U) (h2 : R2.In U) (o : ∀ k, SS.Okb A (R.f k)) (o2 : ∀ k, SS.Okb B (R2.f k)) (oc : SS.Okb C c) : (R.plus R2 c).In U := fun k hk => by
  refine Classical.byContradiction fun n => hk ?_
  have z1 : R.f k = (0, 1) := okb_top0 (o k) (Classical.byContradiction fun y => n (h k y))
  have z2 : R2.f k = (0, 1) := okb_top0 (o2 k) (Classical.byContradiction fun y => n (h2 k y))
  show (fplus (R.f k) (ftimes (R2.f k) c)).1 = 0
  rw [z1, z2, zero_ftimes oc]
  decide
theorem sm_okb {A : Nat} {x : Int × Int} (o : SS.Okb A x) (h : smT x = true) : SS.Okb 20 x := by
  unfold smT at h
  rw [Bool.and_eq_true] at h
  have a1 := of_decide_eq_true h.1
  have a2 := of_decide_eq_true h.2
  have x0 := o.1
  refine ⟨x0, ?_, ?_, o.2.2.2⟩
  · have : (2 : Nat) ^ 20 = 1048576 := by decide
    split at a1 <;> omega
  · have : (2 : Nat) ^ 20 = 1048576 := by decide
    omega
theorem Rw.Okb.mono {A B : Nat} {R : Rw} (h : R.Okb A) (l : A ≤ B) : R.Okb B := ⟨fun k => (h.1 k).mono l, h.2.mono l⟩
theorem at_mapV {α : Type} {f : α → V} {xs : List α} {d : Int} (h0 : 0 ≤ d) (h : d < xs.length) : ∃ x, x ∈ xs ∧ atI (xs.map f) d = some (f x) := by
  have hn : d.toNat < xs.length := by omega
  refine ⟨xs[d.toNat], List.getElem_mem hn, at_of (j := d.toNat) (by omega) ?_⟩
  rw [List.getElem?_map, List.getElem?_eq_getElem hn]
  rfl
/-! ### _law_equals -/
def spEquals (K : PySem.W.Frag) : Sp := fun vs H Q _ => ∃ (st c : Addr) (most : Int), vs = [.ref st, .int most] ∧ 0 ≤ most ∧ most ≤ 9 ∧ StA st c H ∧
  ∀ (H' : Hp) (t ul rl : Addr) (xs : List Str) (zs : List Ent), But st H H' → StA st c H' → H' t = some (.tup [.ref ul, .ref rl]) → H' ul = some (.lst (xs.map V.str)) → H' rl = some (.lst (zs.map fun z => V.ref z.t)) → ul ≠ rl → H rl = none →
    xs.length ≤ 4 → xs.Nodup → (∀ x ∈ xs, NmOk x) → (zs.map (·.x)).Nodup → (∀ z ∈ zs, NmOk z.x) → (zs.length : Int) ≤ most → (∀ z ∈ zs, EntOk K xs.length H' z ∧ z.R.In xs ∧ z.R.Okb 20 ∧ OvR dHund (999 * dHund) z.R ∧ (∀ k, smT (z.R.f k) = true) ∧ smT z.R.n = true) → Q (.ref t) H'
theorem scEquals : FnScope ["_law_state", "_law_most", "_law_unknowns", "_law_names_here", "_law_amiss", "_law_point", "_law_rows", "_law_name", "_law_way", "_law_row", "_law_one", "_law_other", "_law_known", "_law_word"] ["_law_state", "_law_most"] (defScope sEquals) := ⟨rfl, rfl, rfl, by decide +kernel, rfl, by decide +kernel, by decide +kernel⟩
set_option maxHeartbeats 4000000 in
theorem ok_equals {f : Addr} {fd : FuncData} (F : Fun K "_law_equals" "_law_equals" sEquals f fd) (ml : mg "len" = none) (md : mg "dict" = none) (tk : Cl P w K mg base CX0 3 "_law_take" spTake []) (nm : Cl P w K mg base CX0 5 "_law_names" spNames []) (po : Cl P w K mg base CX0 4 "_law_some_point" spSpoint [])
    (sr : Cl P w K mg base CX0 6 "_law_some_row" (spSRow K) []) (ss : Cl P w K mg base CX0 5 "_law_some_sum" spSsum []) (lw : Cl P w K mg base CX0 4 "_law_worth" (spWorth K) []) (rp : Cl P w K mg base CX0 5 "_law_row_plus" (spRowPlus K) []) (lpl : Cl P w K mg base CX0 3 "_law_plus" (spPlus K) [])
    (wi : Cl P w K mg base CX0 1 "_law_within" (spWithin K) []) : FnOk P w K mg base CX0 7 f fd ["_law_state", "_law_most"] (spEquals K) := by
  refine F.ok scEquals (fun vs H Q E h => ?_) (fun cdv A outer s H vs Q E hr h => ?_)
  · obtain ⟨_, _, _, rfl, _⟩ := h
    rfl
  · obtain ⟨st, c, most, rfl, m0, m9, sa, q⟩ := h
    have hu := hu_of hr
    refine ⟨_, pss_cons (ps_set (i := 2) scEquals.nd rfl (.inl rfl) (pc0 nm hr (by decide) (pa_cons (pv 0) (pa_cons (pe_op op_add pe_int (pc0 tk hr (by decide) (pa_cons (pv 0) (pa_cons pe_int pa_nil)))) pa_nil))))
      (pss_cons (ps_set (i := 3) scEquals.nd rfl (.inl rfl) (pc0 nm hr (by decide) (pa_cons (pv 0) (pa_cons (pc0 tk hr (by decide) (pa_cons (pv 0) (pa_cons (pe_op op_add (pv 1) pe_int) pa_nil))) pa_nil))))
      (pss_cons (ps_set (i := 4) scEquals.nd rfl (.inl rfl) (pc0 tk hr (by decide) (pa_cons (pv 0) (pa_cons pe_int pa_nil))))
      (pss_cons (ps_set (i := 5) scEquals.nd rfl (.inl rfl) (pc0 po hr (by decide) (pa_cons (pv 0) (pa_cons (pv 2) pa_nil))))
      (pss_cons (ps_set (i := 6) scEquals.nd rfl (.inl rfl) (pe_lst pa_nil))
      (pss_cons (ps_for PassesOwn.never rfl (pi_list (pv 3)) (pg_name (i := 7) scEquals.nd rfl (.inl rfl))
        (pss_cons (ps_set (i := 8) scEquals.nd rfl (.inl rfl) (pc0 tk hr (by decide) (pa_cons (pv 0) (pa_cons pe_int pa_nil))))
        (pss_cons (ps_set (i := 9) scEquals.nd rfl (.inl rfl) (pc0 sr hr (by decide) (pa_cons (pv 0) (pa_cons (pv 2) (pa_cons (pv 5) pa_nil)))))
        (pss_cons (ps_set (i := 10) scEquals.nd rfl (.inl rfl) (pc0 ss hr (by decide) (pa_cons (pv 0) (pa_cons (pv 2) pa_nil))))
        (pss_cons (ps_setLc (i := 12) (own := [("_law_word", 13), ("_law_other", 11)]) (g := gTup K 2 (gCons (gName 13) (gCons (gName 11) gNil))) rfl scEquals.nd rfl rfl (sw_true rfl rfl rfl (by rfl)) (pi_list (pv 6)) (blkOk_by (by rfl))
          (fun _ _ _ _ _ => pg_tup rfl (pgs_cons (pg_name (i := 13) scEquals.nd rfl (.inl rfl)) (pgs_cons (pg_name (i := 11) scEquals.nd rfl (.inl rfl)) pgs_nil))) (fun _ _ _ _ _ => pts_one (pt_cmpR op_eq (pe_ix (ix_tupK (K := K) rfl) (pv 11) pe_int (fun _ _ => rfl)) pe_str (nomark _)))
          (fun _ _ _ _ _ => pv 11))
        (pss_cons (ps_if (pt_cmpR op_gt (pv 8) pe_int (nomark _)) (pss_one (ps_set (i := 9) scEquals.nd rfl (.inl rfl) (pe_tup (pa_cons (pv 10) (pa_cons pe_str (pa_cons (pc0 lw hr (by decide) (pa_cons (pv 10) (pa_cons (pv 5) pa_nil))) pa_nil)))))) pss_nil)
        (pss_cons (ps_if (PW.pt (pw_and (pt_cmpR op_gt (pv 8) pe_int (nomark _)) (pw_and1 (pt_cmpR op_gt (pe_callB call_len_seq (by rfl) ml PySem.boot_len (pa_cons (pv 12) pa_nil)) pe_int (nomark _)))))
          (pss_cons (ps_set (i := 11) scEquals.nd rfl (.inl rfl) (pe_ix ix_list (pv 12) (pc0 tk hr (by decide) (pa_cons (pv 0) (pa_cons (pe_callB call_len_seq (by rfl) ml PySem.boot_len (pa_cons (pv 12) pa_nil)) pa_nil))) (fun _ _ => rfl)))
          (pss_one (ps_set (i := 9) scEquals.nd rfl (.inl rfl) (pc0 rp hr (by decide) (pa_cons (pe_ix ix_list (pv 12) (pc0 tk hr (by decide) (pa_cons (pv 0) (pa_cons (pe_callB call_len_seq (by rfl) ml PySem.boot_len (pa_cons (pv 12) pa_nil)) pa_nil))) (fun _ _ => rfl)) (pa_cons (pv 11) (pa_cons (pe_tup (pa_cons (pe_op op_sub (pc0 tk hr (by decide) (pa_cons (pv 0) (pa_cons pe_int pa_nil))) pe_int) (pa_cons pe_int pa_nil))) pa_nil)))))) ) pss_nil)
        (pss_cons (ps_if (PW.pt (pw_and (pt_cmpR op_eq (pv 4) pe_int (nomark _)) (pw_and1 (pt_cmpR op_eq (pc0 tk hr (by decide) (pa_cons (pv 0) (pa_cons pe_int pa_nil))) pe_int (nomark _)))))
          (pss_one (ps_set (i := 9) scEquals.nd rfl (.inl rfl) (pe_tup (pa_cons (pe_ix ix_tup (pv 9) pe_int (fun _ _ => rfl)) (pa_cons (pe_ix ix_tup (pv 9) pe_int (fun _ _ => rfl)) (pa_cons (pc0 lpl hr (by decide) (pa_cons (pe_ix ix_tup (pv 9) pe_int (fun _ _ => rfl)) (pa_cons (pe_tup (pa_cons (pe_op op_add pe_int (pc0 tk hr (by decide) (pa_cons (pv 0) (pa_cons pe_int pa_nil)))) (pa_cons pe_int pa_nil))) pa_nil))) pa_nil)))))) pss_nil)
        (pss_cons (ps_if (pt_not (pt_val (pc0 wi hr (by decide) (pa_cons (pv 9) pa_nil)))) (pss_one (ps_set (i := 9) scEquals.nd rfl (.inl rfl) (pe_tup (pa_cons pe_dnewK (pa_cons pe_str (pa_cons (pe_tup (pa_cons pe_int (pa_cons pe_int pa_nil))) pa_nil)))))) pss_nil)
        (pss_one (ps_expr (pe_bm PySem.F.plainAttrs_list PySem.F.slot_list_append PySem.F.type_list_append mt_append (pv 6) (pa_cons (pe_tup (pa_cons (pv 7) (pa_cons (pe_tup (pa_cons (pe_callTy call_dictD (by rfl) md (by decide +kernel) (pa_cons (pe_ix ix_tup (pv 9) pe_int (fun _ _ => rfl)) pa_nil))
          (pa_cons (pe_ix ix_tup (pv 9) pe_int (fun _ _ => rfl)) (pa_cons (pe_ix ix_tup (pv 9) pe_int (fun _ _ => rfl)) pa_nil)))) pa_nil))) pa_nil)))))))))))))
      (pss_one (ps_ret (pe_tup (pa_cons (pv 2) (pa_cons (pv 6) pa_nil)))))))))), ?_⟩
    refine ⟨_, rfl, _, rfl, st, c, 4, rfl, by decide, lt8 (by decide), sa, fun H1 d1 b1 s1 l1 u1 => ⟨1, d1, rfl, rfl, st, c, 1 + d1, rfl, by omega, by omega, s1, fun H2 ul xs b2 s2 nu2 hu2 xl xok xnd => ?_⟩⟩
    have B2 := b1.trans b2
    have nuH := b1.free s1 nu2
    have uS := s1.fresh nu2
    refine ⟨_, rfl, _, rfl, _, rfl, most, 1, rfl, rfl, st, c, most + 1, rfl, by omega, lt8 (by omega), s2, fun H3 d3 b3 s3 l3 u3 => ⟨st, c, d3, rfl, l3, by omega, s3, fun H4 nl ns b4 s4 nn4 hn4 nlen nok nnd => ?_⟩⟩
    have nS := s3.fresh nn4
    have B4 := (B2.trans b3).trans b4
    have hu4 := b4 _ _ uS (b3 _ _ uS hu2)
    refine ⟨_, rfl, st, c, 3, rfl, by decide, lt8 (by decide), s4, fun H5 am b5 s5 l5 u5 => ?_⟩
    refine ⟨_, rfl, _, rfl, st, c, ul, xs, rfl, s5, b5 _ _ uS hu4, by omega, xok, fun H6 pa pk pg b6 s6 np6 dp okp => ?_⟩
    refine ⟨Nat.zero_le _, fun rl nrl => ?_⟩
    have sR := same_new (o := .lst []) nrl
    have rS := s6.fresh nrl
    have rC := s6.fresh2 nrl
    have B6 := (B4.trans b5).trans b6
    have hu6 := b6 _ _ uS (b5 _ _ uS hu4)
    have hn6 := b6 _ _ nS (b5 _ _ nS hn4)
    have rlH := B6.free s6 nrl
    have rU : rl ≠ ul := (ne_of_none hu6 nrl).symm
    have rN : rl ≠ nl := (ne_of_none hn6 nrl).symm
    have E0 : Eqs K st c ul nl rl pa xs ns [] pk pg H (upd H6 rl (.lst [])) := ⟨B6.trans (Same.but sR), s6.same sR, sR _ _ hu6, sR _ _ hn6, upd_same, dp.same sR, fun z hz => by cases hz⟩
    have nE : ns.length ≤ 9 := by omega
    have xE : xs.length ≤ 4 := by omega
    generalize upd H6 rl (.lst []) = G0 at E0 ⊢
    clear sR hu6 hn6 B6 nrl dp np6 s6 b6 b5 s5 hu4 B4 nn4 hn4 s4 b4 s3 b3 nu2 hu2 s2 b2 B2 s1 b1
    refine ⟨_, rfl, nl, rfl, ⟨_, SqL.of E0.n⟩, for_list (K := K) (a := nl) (xs := ns.map V.str) (fun i σ H' => ∃ (y7 y8 y9 y10 y11 y12 y13 : Option V) (zs : List Ent), σ = [some (.ref st), some (.int most), some (.ref ul), some (.ref nl), some (.int am), some (.ref pa), some (.ref rl), y7, y8, y9, y10, y11, y12, y13] ∧ Eqs K st c ul nl rl pa xs ns zs pk pg H H' ∧ zs.map (·.x) = ns.take i)
      ⟨none, none, none, none, none, none, none, [], rfl, E0, rfl⟩ (fun i σ H' _ ⟨_, _, _, _, _, _, _, _, _, w1, _⟩ => SqL.of w1.n) ?turn ?after⟩
    case after =>
      rintro σ H1 ⟨y7, y8, y9, y10, y11, y12, y13, zs, rfl, E1, hx⟩
      rw [List.length_map, List.take_length] at hx
      have zl : zs.length = ns.length := by
        have := congrArg List.length hx
        rwa [List.length_map] at this
      refine ⟨_, rfl, _, rfl, small2, fun t nt => ?_⟩
      have e := same_new (o := .tup [.ref ul, .ref rl]) nt
      refine q _ t ul rl xs zs (E1.same e).b (E1.same e).s upd_same (E1.same e).u (E1.same e).r rU.symm rlH xE xnd xok (by rw [hx]; exact nnd) (fun z hz => nok _ ?_) (by omega) fun z hz => ?_
      · rw [← hx]
        exact List.mem_map.mpr ⟨z, hz, rfl⟩
      · obtain ⟨h1, h2, h3, h4, h5⟩ := (E1.same e).z z hz
        exact ⟨h1, h2, h3, sm_ovR h3 ⟨h4, h5⟩, h4, h5⟩
    case turn =>
      rintro i yv σ H1 hy ⟨y7, y8, y9, y10, y11, y12, y13, zs, rfl, E1, hx⟩
      obtain ⟨nme, hni, rfl⟩ : ∃ y, ns[i]? = some y ∧ yv = .str y := by
        rw [List.getElem?_map] at hy
        cases e : ns[i]? with
        | none => rw [e] at hy; cases hy
        | some y =>
          rw [e] at hy
          exact ⟨y, rfl, (Option.some.inj hy).symm⟩
      have tk1 : ns.take (i + 1) = ns.take i ++ [nme] := by
        rw [List.take_add_one, hni]
        rfl
      have zl : zs.length ≤ 9 := by
        have q1 := congrArg List.length hx
        rw [List.length_map, List.length_take] at q1
        omega
      refine ⟨_, rfl, st, c, 6, rfl, by decide, lt8 (by decide), E1.s, fun H2 way b2 s2 l2 u2 => ?_⟩
      have E2 := E1.but b2 s2 uS nS rS
      refine ⟨_, rfl, _, rfl, _, rfl, st, c, ul, pa, xs, pk, pg, rfl, E2.s, E2.u, by omega, xok, E2.p, okp, fun H3 r3 a3 p3 k3 f3 srt3 n3 b3 s3 na3 hr3 d3 ok3 hs3 hf3 okn3 kin3 => ?_⟩
      have E3 := E2.but b3 s3 uS nS rS
      have i3 : Rw.In xs ⟨f3, srt3, n3⟩ := In.of d3 kin3 srt3 n3
      have R3 : RowE K xs.length H3 r3 a3 ⟨f3, srt3, n3⟩ := RowE.tight (m := 10) ⟨k3, p3, hr3, d3, hf3, hs3⟩ i3
      refine ⟨_, rfl, _, rfl, st, c, ul, xs, rfl, E3.s, E3.u, by omega, xok, fun H4 a4 k4 b4 s4 na4 df4 nz4 kin4 => ?_⟩
      have E4 := E3.but b4 s4 uS nS rS
      have R4 := R3.kp (b4.nol s3)
      have D4 : DM True 10 H4 a4 k4 (pval H4 k4) := (df4.dm nz4).mono (by omega)
      have ok4 : ∀ k, SS.Okb 20 (pval H4 k4 k) := fun k => df4.okp (k := 19) k
      have na4p : a4 ≠ pa := (ne_of_none E3.p.1 na4).symm
      generalize pval H4 k4 = f4 at D4 ok4
      clear df4 nz4 R3 E3 b4 E2 b3 E1 b2 d3 hr3 hf3 na3 na4
      -- the rows known
      refine ⟨_, rfl, rl, rfl, ⟨_, SqL.of E4.r⟩, fun D nD => ?_⟩
      have DS := s4.fresh nD
      refine lc_list (K := K) (a := rl) (xs := zs.map fun z => V.ref z.t) (fun j H' => ∃ gs : List Ent, H' D = some (.lst (gs.map fun g => V.ref g.r)) ∧ gs.length ≤ j ∧ (∀ g ∈ gs, g ∈ zs) ∧ ∀ b o, b ≠ D → H4 b = some o → H' b = some o)
        ⟨[], upd_same, Nat.le_refl _, fun g hg => (by cases hg), fun b o n e => by rw [upd_ne n]; exact e⟩ (fun j H' _ ⟨_, _, _, _, w2⟩ => SqL.of (w2 _ _ (ne_of_none E4.r nD) E4.r)) ?_ ?_
      · rintro j v H' hv ⟨gs, w1, wl, wg, w2⟩
        obtain ⟨z, hzj, rfl⟩ : ∃ z, zs[j]? = some z ∧ v = .ref z.t := by
          rw [List.getElem?_map] at hv
          cases e : zs[j]? with
          | none => rw [e] at hv; cases hv
          | some z =>
            rw [e] at hv
            exact ⟨z, rfl, (Option.some.inj hv).symm⟩
        obtain ⟨h1, kvs, n, h2, h3, h4, h5⟩ := (E4.z z (List.mem_of_getElem? hzj)).1
        have jl : j < zs.length := (List.getElem?_eq_some_iff.mp hzj).1
        refine ⟨z.t, _, rfl, SqT.of (w2 _ _ (ne_of_none h1 nD) h1), rfl, _, _, rfl, _, _, rfl, rfl, rfl, ?_⟩
        refine ⟨_, rfl, z.r, _, 1, _, rfl, rfl, SqT.of (w2 _ _ (ne_of_none h2 nD) h2), atI_nat (j := 1) rfl, rfl, _, rfl, ite2 (fun e => ?_) (fun e => ⟨gs, w1, Nat.le_succ_of_le wl, wg, w2⟩)⟩
        refine ⟨_, rfl, gs.map fun g => V.ref g.r, w1, by rw [List.length_map]; exact small1000 (by omega), gs ++ [z], by rw [upd_same, List.map_append]; rfl, by rw [List.length_append]; exact Nat.add_le_add_right wl 1, fun g hg => ?_, fun b o n e => by rw [upd_ne n]; exact w2 b o n e⟩
        rcases List.mem_append.mp hg with y | y
        · exact wg g y
        · obtain rfl := List.mem_singleton.mp y
          exact List.mem_of_getElem? hzj
      rintro H5 ⟨gs, hD5, gl, wg, w2⟩
      rw [List.length_map] at gl
      have S5 : Same H4 H5 := fun b o e => w2 _ _ (ne_of_none e nD) e
      have E5 := E4.same S5
      have R5 := R4.kp (NoL.same S5)
      have D5 := D4.same S5
      clear w2 S5 D4 R4 E4 nD s4 hy
      dsimp only [gName]
      have isS : (Str.ofString "is") ∈ sorts := by decide +kernel
      refine' mid (C := _) (Inv := fun σ H' => ∃ (r a : Addr) (R : Rw), σ = [some (.ref st), some (.int most), some (.ref ul), some (.ref nl), some (.int am), some (.ref pa), some (.ref rl), some (.str nme), some (.int way), some (.ref r), some (.ref a4), y11, some (.ref D), y13] ∧ Eqs K st c ul nl rl pa xs ns zs pk pg H H' ∧ RowE K xs.length H' r a R ∧ R.In xs ∧ R.Okb 500 ∧ H' D = some (.lst (gs.map fun g => V.ref g.r))) (fun key => ?mA) ?rA
      case mA =>
        refine ⟨_, rfl, way, 0, rfl, rfl, _, rfl, ite2 (fun e => ?ya) (fun e => ?yb)⟩
        case yb =>
          dsimp only
          refine key _ _ ?_
          exact ⟨r3, a3, ⟨f3, srt3, n3⟩, rfl, E5, R5, i3, ⟨fun k => (ok3 k).mono (by decide), okn3.mono (by decide)⟩, hD5⟩
        case ya =>
          refine ⟨_, rfl, _, rfl, _, rfl, a4, pa, k4, pk, f4, pg, True, False, 10, 10, 20, 20, rfl, D5, E5.p, ok4, okp, by decide, na4p, fun H6 r6 s6 fw okw => ?_⟩
          refine ⟨(by show 3 ≤ sizeLine; decide), fun t nt => ?_⟩
          have e := same_new (o := .tup [.ref a4, .str (Str.ofString "is"), .ref r6]) nt
          have i4 : Rw.In xs ⟨f4, Str.ofString "is", wof f4 pg (k4.map (·.1))⟩ := In.of D5 kin4 _ _
          dsimp only [gName]
          refine key _ _ ?_
          exact ⟨t, a4, ⟨f4, Str.ofString "is", wof f4 pg (k4.map (·.1))⟩, rfl, (E5.same s6).same e, RowE.tight (m := 10) ⟨k4, r6, upd_same, (D5.same s6).same e, fw.new e, isS⟩ i4, i4, ⟨fun k => (ok4 k).mono (by decide), okw.mono (by decide)⟩, e _ _ (s6 _ _ hD5)⟩
      case rA =>
        clear E5 R5 D5 hD5 ok3 okn3 ok4
        rintro σ H6 ⟨r6, a6, R6, rfl, E6, hR6, i6, ok6, hD6⟩
        have el : ((gs.map fun g => V.ref g.r).length : Int) = (gs.length : Int) := by rw [List.length_map]
        refine' mid (C := _) (Inv := fun σ H' => ∃ (y11 : Option V) (r a : Addr) (R : Rw), σ = [some (.ref st), some (.int most), some (.ref ul), some (.ref nl), some (.int am), some (.ref pa), some (.ref rl), some (.str nme), some (.int way), some (.ref r), some (.ref a4), y11, some (.ref D), y13] ∧ Eqs K st c ul nl rl pa xs ns zs pk pg H H' ∧ RowE K xs.length H' r a R ∧ R.In xs ∧ R.Okb 500 ∧ H' D = some (.lst (gs.map fun g => V.ref g.r))) (fun key => ?mB) ?rB
        case mB =>
          refine ⟨_, rfl, way, 3, rfl, rfl, _, rfl, ite2 (fun e => ?ya) (fun e => iteF ?yb)⟩
          case yb =>
            dsimp only
            refine key _ _ ?_
            exact ⟨_, r6, a6, R6, rfl, E6, hR6, i6, ok6, hD6⟩
          case ya =>
            refine ⟨_, rfl, D, _, rfl, .inl (SqL.of hD6), (gs.length : Int), 0, congrArg V.int el, rfl, _, rfl, ite2 (fun e2 => ?yaa) (fun e2 => ?yab)⟩
            case yab =>
              dsimp only
              refine key _ _ ?_
              exact ⟨_, r6, a6, R6, rfl, E6, hR6, i6, ok6, hD6⟩
            have gp : 0 < (gs.length : Int) := of_decide_eq_true e2
            refine ⟨_, rfl, _, rfl, _, rfl, D, _, rfl, .inl (SqL.of hD6), st, c, (gs.length : Int), congrArg (fun z => [V.ref st, V.int z]) el, gp, lt8 (by omega), E6.s, fun H7 d7 b7 s7 l7 u7 => ?_⟩
            have hD7 := b7 _ _ DS hD6
            have E7 := E6.but b7 s7 uS nS rS
            obtain ⟨g7, hg7, hat7⟩ := at_mapV (f := fun g : Ent => V.ref g.r) (xs := gs) l7 u7
            refine ⟨D, _, d7, _, rfl, rfl, SqL.of hD7, hat7, ?_⟩
            refine ⟨_, rfl, _, rfl, _, rfl, D, _, rfl, .inl (SqL.of hD7), st, c, (gs.length : Int), congrArg (fun z => [V.ref st, V.int z]) el, gp, lt8 (by omega), E7.s, fun H8 d8 b8 s8 l8 u8 => ?_⟩
            have hD8 := b8 _ _ DS hD7
            have E8 := E7.but b8 s8 uS nS rS
            obtain ⟨g8, hg8, hat8⟩ := at_mapV (f := fun g : Ent => V.ref g.r) (xs := gs) l8 u8
            refine ⟨D, _, d8, _, rfl, rfl, SqL.of hD8, hat8, ?_⟩
            refine ⟨_, rfl, _, rfl, st, c, 5, rfl, by decide, lt8 (by decide), E8.s, fun H9 d9 b9 s9 l9 u9 => ⟨d9, 2, rfl, rfl, small2, fun n nn => ?_⟩⟩
            have en := same_new (o := .tup [.int (d9 - 2), .int 1]) nn
            have E9 := (E8.but b9 s9 uS nS rS).same en
            have hD9 := en _ _ (b9 _ _ DS hD8)
            obtain ⟨⟨_, q1⟩, q2, q3, _⟩ := E9.z g8 (wg _ hg8)
            obtain ⟨⟨_, p1⟩, p2, p3, _⟩ := E9.z g7 (wg _ hg7)
            have okd : SS.Okb 11 (d9 - 2, 1) := okb_whole (by omega)
            refine ⟨g8.r, g8.a, g7.r, g7.a, n, g8.R, g7.R, (d9 - 2, 1), xs.length, rfl, q1, p1, FrT.of upd_same, by omega, q3.mono (by decide), p3.mono (by decide), okd.mono (by decide), fun H10 r' a' s10 nr' na' row => ?_⟩
            have ip := plus_in q2 p2 q3.1 p3.1 okd
            dsimp only [gName]
            refine key _ _ ?_
            exact ⟨_, r', a', g8.R.plus g7.R (d9 - 2, 1), rfl, E9.same s10, row.tight ip, ip, ⟨fun k => (okb_plus (q3.1 k) (okb_times (p3.1 k) okd)).mono (by decide), (okb_plus q3.2 (okb_times p3.2 okd)).mono (by decide)⟩, s10 _ _ hD9⟩
        case rB =>
          clear E6 hR6 i6 ok6 hD6
          rintro σ H7 ⟨y11, r7, a7, R7, rfl, E7, hR7, i7, ok7, hD7⟩
          refine' mid (C := _) (Inv := fun σ H' => ∃ (r a : Addr) (R : Rw), σ = [some (.ref st), some (.int most), some (.ref ul), some (.ref nl), some (.int am), some (.ref pa), some (.ref rl), some (.str nme), some (.int way), some (.ref r), some (.ref a4), y11, some (.ref D), y13] ∧ Eqs K st c ul nl rl pa xs ns zs pk pg H H' ∧ RowE K xs.length H' r a R ∧ R.In xs ∧ R.Okb 600) (fun key => ?mC) ?rC
          case mC =>
            refine ⟨_, rfl, rfl, _, rfl, ite2 (fun e => ?ca) (fun e => iteF ?cb)⟩
            case cb =>
              dsimp only
              refine key _ _ ?_
              exact ⟨r7, a7, R7, rfl, E7, hR7, i7, ok7.mono (by decide)⟩
            case ca =>
              refine ⟨_, rfl, st, c, 4, rfl, by decide, lt8 (by decide), E7.s, fun H8 d8 b8 s8 l8 u8 => ⟨rfl, _, rfl, ite2 (fun e => ?caa) (fun e => ?cab)⟩⟩
              all_goals have E8 := E7.but b8 s8 uS nS rS
              all_goals have hR8 := hR7.kp (b8.nol E7.s)
              case cab =>
                dsimp only
                refine key _ _ ?_
                exact ⟨r7, a7, R7, rfl, E8, hR8, i7, ok7.mono (by decide)⟩
              case caa =>
                obtain ⟨kvs, n7, h1, h2, h3, h4⟩ := id hR8
                refine ⟨_, rfl, r7, _, 0, _, rfl, rfl, SqT.of h1, atI_nat (j := 0) rfl, _, rfl, r7, _, 1, _, rfl, rfl, SqT.of h1, atI_nat (j := 1) rfl, _, rfl, r7, _, 2, _, rfl, rfl, SqT.of h1, atI_nat (j := 2) rfl, ?_⟩
                refine ⟨_, rfl, st, c, 3, rfl, by decide, lt8 (by decide), E8.s, fun H9 d9 b9 s9 l9 u9 => ⟨1, d9, rfl, rfl, small2, fun n nn => ?_⟩⟩
                have en := same_new (o := .tup [.int (1 + d9), .int 1]) nn
                have E9 := (E8.but b9 s9 uS nS rS).same en
                have k9 : NoL H8 _ := (b9.nol E8.s).trans (NoL.same en)
                have okd : SS.Okb 11 (1 + d9, 1) := okb_whole (by omega)
                refine ⟨R7.n.1, R7.n.2, 1 + d9, 1, two_of (A := R7.n) (B := (1 + d9, 1)) (h3.kp k9) (FrT.of upd_same) ok7.2 okd (by decide) (by decide), fun p2 np2 => ?_⟩
                have e2 := same_new (o := .tup [.int (fplus R7.n (1 + d9, 1)).1, .int (fplus R7.n (1 + d9, 1)).2]) np2
                refine ⟨(by show 3 ≤ sizeLine; decide), fun t nt => ?_⟩
                have e3 := same_new (o := .tup [.ref a7, .str R7.s, .ref p2]) nt
                dsimp only [gName]
                refine key _ _ ?_
                exact ⟨t, a7, ⟨R7.f, R7.s, fplus R7.n (1 + d9, 1)⟩, rfl, (E9.same e2).same e3, ⟨kvs, p2, upd_same, ((h2.kp k9).same e2).same e3, (FrT.of upd_same).new e3, h4⟩, i7, ⟨fun k => (ok7.1 k).mono (by decide), (okb_plus ok7.2 okd).mono (by decide)⟩⟩
          case rC =>
            clear E7 hR7 i7 ok7 hD7
            rintro σ H8 ⟨r8, a8, R8, rfl, E8, hR8, i8, ok8⟩
            refine ⟨_, rfl, r8, a8, R8, xs.length, rfl, hR8, by omega, fun H9 b s9 hb => ⟨b, rfl, ?_⟩⟩
            have E9 := E8.same s9
            have hR9 := hR8.kp (NoL.same s9)
            refine' mid (C := _) (Inv := fun σ H' => ∃ (r a : Addr) (R : Rw), σ = [some (.ref st), some (.int most), some (.ref ul), some (.ref nl), some (.int am), some (.ref pa), some (.ref rl), some (.str nme), some (.int way), some (.ref r), some (.ref a4), y11, some (.ref D), y13] ∧ Eqs K st c ul nl rl pa xs ns zs pk pg H H' ∧ RowE K xs.length H' r a R ∧ R.In xs ∧ R.Okb 20 ∧ (∀ k, smT (R.f k) = true) ∧ smT R.n = true) (fun key => ?mD) ?rD
            case mD =>
              cases b with
              | true =>
                refine iteF ?_
                obtain ⟨t1, t2⟩ := hb rfl
                dsimp only
                refine key _ _ ?_
                exact ⟨r8, a8, R8, rfl, E9, hR9, i8, ⟨fun k => sm_okb (ok8.1 k) (t1 k), sm_okb ok8.2 t2⟩, t1, t2⟩
              | false =>
                refine iteT ?_
                intro d nd
                have e1 := same_new (o := .dK []) nd
                refine ⟨small2, fun n nn => ?_⟩
                have e2 := same_new (o := .tup [.int 0, .int 1]) nn
                refine ⟨(by show 3 ≤ sizeLine; decide), fun t nt => ?_⟩
                have e3 := same_new (o := .tup [.ref d, .str (Str.ofString "is"), .ref n]) nt
                dsimp only [gName]
                refine key _ _ ?_
                have o0 : SS.Okb 20 (0, 1) := ⟨by decide, by decide, by decide, by decide⟩
                exact ⟨t, d, ⟨fun _ => (0, 1), Str.ofString "is", (0, 1)⟩, rfl, ((E9.same e1).same e2).same e3, ⟨[], n, upd_same, ((dm_new (upd_same (H := H9) (a := d) (o := .dK []))).same e2).same e3, (FrT.of upd_same).new e3, isS⟩, fun k hk => absurd rfl hk, ⟨fun _ => o0, o0⟩, fun _ => (by decide : smT (0, 1) = true), (by decide : smT (0, 1) = true)⟩
            case rD =>
              clear E9 hR9 E8 hR8 i8 ok8 hb
              rintro σ H10 ⟨r, a, R, rfl, E10, hR, iR, okR, sm1, sm2⟩
              obtain ⟨kvs, n, h1, h2, h3, h4⟩ := id hR
              refine ⟨.ref rl, rfl, .inl ⟨rfl, _, SqL.of E10.r⟩, _, rfl, _, rfl, r, _, 0, _, rfl, rfl, SqT.of h1, atI_nat (j := 0) rfl, a, kvs, rfl, .inl h2.1, fun d nd => ?_⟩
              have e1 := same_new (o := .dK kvs) nd
              refine ⟨_, rfl, r, _, 1, _, rfl, rfl, SqT.of (e1 _ _ h1), atI_nat (j := 1) rfl, _, rfl, r, _, 2, _, rfl, rfl, SqT.of (e1 _ _ h1), atI_nat (j := 2) rfl, (by show 3 ≤ sizeLine; decide), fun r' nr' => ?_⟩
              have e2 := same_new (o := .tup [.ref d, .str R.s, .ref n]) nr'
              refine ⟨small2, fun t nt => ?_⟩
              have e3 := same_new (o := .tup [.str nme, .ref r']) nt
              have E11 := ((E10.same e1).same e2).same e3
              have dm : DM True xs.length _ d kvs R.f := ⟨e3 _ _ (e2 _ _ (upd_same (H := H10) (a := d) (o := .dK kvs))), (h2.same ((e1.trans e2).trans e3)).2⟩
              have ee : EntOk K xs.length _ (⟨t, nme, R, r', d⟩ : Ent) := ⟨upd_same (a := t) (o := .tup [.str nme, .ref r']), kvs, n, e3 _ _ (upd_same (a := r') (o := .tup [.ref d, .str R.s, .ref n])), dm, h3.new ((e1.trans e2).trans e3), h4⟩
              have E12 := E11.put ⟨t, nme, R, r', d⟩ rlH rS rC rU rN ⟨ee, iR, okR, sm1, sm2⟩
              refine ⟨rl, _, _, rfl, rfl, E11.r, by rw [List.length_map]; exact small1000 (by omega), _, _, _, _, _, _, _, zs ++ [⟨t, nme, R, r', d⟩], rfl, E12, ?_⟩
              rw [List.map_append, hx, tk1]
              rfl
end
end SS


namespace SS
open PySem PySem.Spec PyProof.Rows L2 NumText LamX KyS
/-! ### how rows are solved: the plain reckoning -/
def finv (a : Int × Int) : Int × Int := (fr1 (1 * a.2) (1 * a.1), fr2 (1 * a.2) (1 * a.1))
def LoR (R : Rw) : Prop := (∀ k, Lo (R.f k)) ∧ Lo R.n
theorem top_q {a : Int × Int} (l : Lo a) : a.1 = 0 ↔ toQ a = 0 := by
  constructor
  · intro h
    show Rat.divInt a.1 a.2 = 0
    rw [h, Rat.zero_divInt]
  · intro h
    rw [← toQ_zero] at h
    rw [toQ_inj l lo_zero h]
theorem toQ_m1 : toQ (-1, 1) = -1 := by
  show Rat.divInt (-1) 1 = -1
  decide
theorem lo_m1 : Lo (-1, 1) := ⟨by decide, by decide⟩
theorem lo_one1 : Lo (1, 1) := ⟨by decide, by decide⟩
theorem finv_lo {a : Int × Int} (h : a.1 ≠ 0) : Lo (finv a) := lo_fr (by rw [Int.one_mul]; exact h)
theorem finv_q {a : Int × Int} (l : Lo a) (h : a.1 ≠ 0) : toQ (finv a) * toQ a = 1 := by
  show toQ (fr1 _ _, fr2 _ _) * Rat.divInt a.1 a.2 = 1
  rw [toQ_fr (by rw [Int.one_mul]; exact h), Int.one_mul, Int.one_mul, Rat.divInt_mul_divInt, Int.mul_comm]
  have e1 : (1 : Rat) = Rat.divInt 1 1 := by decide
  rw [e1]
  exact (Rat.divInt_eq_divInt_iff (Int.mul_ne_zero h (Int.ne_of_gt l.1)) (by decide)).mpr (by rw [Int.mul_one, Int.one_mul])
theorem finv_top {a : Int × Int} (l : Lo a) (h : a.1 ≠ 0) : (finv a).1 ≠ 0 := fun z => by
  have := finv_q l h
  rw [(top_q (finv_lo h)).mp z, Rat.zero_mul] at this
  exact absurd this (by decide)
theorem finv_okb {a : Int × Int} {n : Nat} (ok : Okb n a) (h : a.1 ≠ 0) : Okb n (finv a) := by
  have nz : 1 * a.1 ≠ 0 := by rw [Int.one_mul]; exact h
  refine ⟨fr2_pos nz, Nat.lt_of_le_of_lt (fr1_le nz) ?_, Nat.lt_of_le_of_lt (fr2_le nz) ?_, fr_gcd nz⟩
  · rw [Int.one_mul]; exact ok.2.2.1
  · rw [Int.one_mul]; exact ok.2.1
/-- the row that leads, so that its unknown stands once -/
def sc (R : Rw) (u : Str) : Rw := if R.f (.inr u) = (1, 1) then R else R.step R (.tm "" (finv (R.f (.inr u))))
/-- another row, without the unknown -/
def fneg (a : Int × Int) : Int × Int := ftimes a (-1, 1)
def cl (R S : Rw) (u : Str) : Rw := if (R.f (.inr u)).1 = 0 then R else R.step S (.ad "" "" (fneg (R.f (.inr u))))
theorem fneg_lo {a : Int × Int} (l : Lo a) : Lo (fneg a) := lo_times l.1 lo_m1.1
theorem fneg_q {a : Int × Int} (l : Lo a) : toQ (fneg a) = - toQ a := by
  show toQ (ftimes a (-1, 1)) = _
  rw [toQ_times l.1 lo_m1.1, toQ_m1]
  grind
/-- the fractions as worths -/
def Rw.F (R : Rw) (k : Key) : Rat := toQ (R.f k)
def Rw.N (R : Rw) : Rat := toQ R.n
theorem sc_lo {R : Rw} {u : Str} (l : LoR R) (h : (R.f (.inr u)).1 ≠ 0) : LoR (sc R u) := by
  unfold sc
  split
  · exact l
  · exact ⟨fun k => lo_times (l.1 k).1 (finv_lo h).1, lo_times l.2.1 (finv_lo h).1⟩
theorem sc_q {R : Rw} {u : Str} (l : LoR R) (h : (R.f (.inr u)).1 ≠ 0) : (∀ k, (sc R u).F k * R.F (.inr u) = R.F k) ∧ (sc R u).N * R.F (.inr u) = R.N := by
  unfold sc
  split
  · rename_i e
    have : R.F (.inr u) = 1 := by
      show toQ (R.f (.inr u)) = 1
      rw [e, toQ_one]
    rw [this]
    exact ⟨fun k => Rat.mul_one _, Rat.mul_one _⟩
  · have i := finv_q (l.1 (.inr u)) h
    constructor
    · intro k
      show toQ (ftimes (R.f k) (finv (R.f (.inr u)))) * toQ (R.f (.inr u)) = toQ (R.f k)
      rw [toQ_times (l.1 k).1 (finv_lo h).1]
      grind
    · show toQ (ftimes R.n (finv (R.f (.inr u)))) * toQ (R.f (.inr u)) = toQ R.n
      rw [toQ_times l.2.1 (finv_lo h).1]
      grind
theorem cl_lo {R S : Rw} {u : Str} (l : LoR R) (s : LoR S) : LoR (cl R S u) := by
  unfold cl
  split
  · exact l
  · exact ⟨fun k => lo_plus (l.1 k).1 (lo_times (s.1 k).1 (fneg_lo (l.1 (.inr u))).1).1, lo_plus l.2.1 (lo_times s.2.1 (fneg_lo (l.1 (.inr u))).1).1⟩
theorem cl_q {R S : Rw} {u : Str} (l : LoR R) (s : LoR S) : (∀ k, (cl R S u).F k = R.F k - R.F (.inr u) * S.F k) ∧ (cl R S u).N = R.N - R.F (.inr u) * S.N := by
  unfold cl
  split
  · rename_i e
    have : R.F (.inr u) = 0 := (top_q (l.1 (.inr u))).mp e
    rw [this]
    exact ⟨fun k => by grind, by grind⟩
  · have n := fneg_q (l.1 (.inr u))
    have nl := (fneg_lo (l.1 (.inr u))).1
    constructor
    · intro k
      show toQ (fplus (R.f k) (ftimes (S.f k) (fneg (R.f (.inr u))))) = toQ (R.f k) - toQ (R.f (.inr u)) * toQ (S.f k)
      rw [toQ_plus (l.1 k).1 (lo_times (s.1 k).1 nl).1, toQ_times (s.1 k).1 nl, n]
      grind
    · show toQ (fplus R.n (ftimes S.n (fneg (R.f (.inr u))))) = toQ R.n - toQ (R.f (.inr u)) * toQ S.n
      rw [toQ_plus l.2.1 (lo_times s.2.1 nl).1, toQ_times s.2.1 nl, n]
      grind
/-! ### how far the fractions grow -/
def RB (n : Nat) (R : Rw) : Prop := ∃ D, 0 < D ∧ D ≤ 2 ^ n ∧ OvR D (2 ^ n) R
theorem RB.lo {n : Nat} {R : Rw} (h : RB n R) : LoR R := by
  obtain ⟨D, _, _, h⟩ := h
  exact ⟨fun k => (h.1 k).1, h.2.1⟩
theorem RB.okb {n : Nat} {R : Rw} (h : RB n R) (hn : n < 1400) : R.Okb 1400 := by
  obtain ⟨D, d0, d1, h⟩ := h
  have p : 2 ^ n < 2 ^ 1400 := Nat.pow_lt_pow_right (by decide) hn
  exact h.okb d0 (Nat.lt_of_le_of_lt d1 p) p
theorem Ov.mono {D M M' : Nat} {x : Int × Int} (h : Ov D M x) (l : M ≤ M') : Ov D M' x := by
  obtain ⟨z, e, hz⟩ := h
  exact ⟨z, e, Nat.le_trans hz l⟩
theorem RB.mono {n m : Nat} {R : Rw} (h : RB n R) (l : n ≤ m) : RB m R := by
  obtain ⟨D, d0, d1, h⟩ := h
  have p : 2 ^ n ≤ 2 ^ m := Nat.pow_le_pow_right (by decide) l
  exact ⟨D, d0, Nat.le_trans d1 p, fun k => ⟨(h.1 k).1, (h.1 k).2.mono p⟩, h.2.1, h.2.2.mono p⟩
theorem ov_sc {D M : Nat} {x a y : Int × Int} {z : Int} (d0 : 0 < D) (hz : toQ a * ((D : Int) : Rat) = (z : Rat)) (z0 : z ≠ 0) (hx : Ov D M x) (hy : toQ y * toQ a = toQ x) : Ov z.natAbs M y := by
  obtain ⟨w, e, hw⟩ := hx
  have zq : (z : Rat) ≠ 0 := fun q => z0 (by exact_mod_cast q)
  have dq : ((D : Int) : Rat) ≠ 0 := fun q => by
    have : (D : Int) = 0 := by exact_mod_cast q
    omega
  have key : toQ y * (z : Rat) = (w : Rat) := by
    rw [← hz, ← e, ← hy]
    grind
  rcases Int.natAbs_eq z with h | h
  · exact ⟨w, by rw [← h]; exact key, hw⟩
  · refine ⟨-w, ?_, by rw [Int.natAbs_neg]; exact hw⟩
    have h2 : ((z.natAbs : Int) : Rat) = -(z : Rat) := by
      have : ((z.natAbs : Nat) : Int) = -z := by omega
      rw [this]
      exact_mod_cast rfl
    have h3 : ((-w : Int) : Rat) = -(w : Rat) := by exact_mod_cast rfl
    rw [h2, h3, ← key]
    grind
theorem RB.sc {n : Nat} {R : Rw} {u : Str} (h : RB n R) (hu : (R.f (.inr u)).1 ≠ 0) : RB n (sc R u) := by
  have lo := h.lo
  obtain ⟨q1, q2⟩ := sc_q lo hu
  obtain ⟨l1, l2⟩ := sc_lo lo hu
  obtain ⟨D, d0, d1, h⟩ := h
  obtain ⟨z, e, hz⟩ := (h.1 (.inr u)).2
  have z0 : z ≠ 0 := fun c => by
    rw [c] at e
    have dq : ((D : Int) : Rat) ≠ 0 := fun q => by
      have : (D : Int) = 0 := by exact_mod_cast q
      omega
    have : toQ (R.f (.inr u)) = 0 := by
      have e' : toQ (R.f (.inr u)) * ((D : Int) : Rat) = 0 := by rw [e]; rfl
      grind
    exact hu ((top_q (lo.1 _)).mpr this)
  refine ⟨z.natAbs, by omega, hz, fun k => ⟨l1 k, ov_sc d0 e z0 (h.1 k).2 (q1 k)⟩, l2, ov_sc d0 e z0 h.2.2 q2⟩
theorem ov_cl {D D' M N : Nat} {x r s y : Int × Int} (hx : Ov D M x) (hr : Ov D M r) (hs : Ov D' M s) (hy : toQ y = toQ x - toQ r * toQ s) (hN : M * D' + M * M ≤ N) : Ov (D * D') N y := by
  obtain ⟨w, e, hw⟩ := hx
  obtain ⟨z, e2, hz⟩ := hr
  obtain ⟨v, e3, hv⟩ := hs
  refine ⟨w * (D' : Int) - z * v, ?_, ?_⟩
  · have h1 : (((D * D' : Nat) : Int) : Rat) = ((D : Int) : Rat) * ((D' : Int) : Rat) := by
      rw [Int.natCast_mul]
      exact_mod_cast rfl
    have h2 : ((w * (D' : Int) - z * v : Int) : Rat) = (w : Rat) * ((D' : Int) : Rat) - (z : Rat) * (v : Rat) := by
      rw [Rat.intCast_sub, Rat.intCast_mul, Rat.intCast_mul]
    rw [h1, h2, hy, ← e, ← e2, ← e3]
    grind
  · refine Nat.le_trans ?_ hN
    have a1 : (w * (D' : Int) - z * v).natAbs ≤ (w * (D' : Int)).natAbs + (z * v).natAbs := by omega
    refine Nat.le_trans a1 ?_
    rw [Int.natAbs_mul, Int.natAbs_mul]
    exact Nat.add_le_add (Nat.mul_le_mul hw (by omega)) (Nat.mul_le_mul hz hv)
theorem RB.cl {n : Nat} {R S : Rw} {u : Str} (h : RB n R) (g : RB n S) : RB (2 * n + 1) (cl R S u) := by
  obtain ⟨q1, q2⟩ := cl_q (u := u) h.lo g.lo
  obtain ⟨l1, l2⟩ := cl_lo (u := u) h.lo g.lo
  obtain ⟨D, d0, d1, h⟩ := h
  obtain ⟨D', d0', d1', g⟩ := g
  have p : 2 ^ n * D' + 2 ^ n * 2 ^ n ≤ 2 ^ (2 * n + 1) := by
    have e : 2 ^ (2 * n + 1) = 2 ^ n * 2 ^ n + 2 ^ n * 2 ^ n := by
      rw [Nat.pow_succ, Nat.two_mul, Nat.pow_add]
      omega
    rw [e]
    exact Nat.add_le_add_right (Nat.mul_le_mul_left _ d1') _
  have p2 : D * D' ≤ 2 ^ (2 * n + 1) := by
    refine Nat.le_trans (Nat.mul_le_mul d1 d1') ?_
    rw [← Nat.pow_add]
    exact Nat.pow_le_pow_right (by decide) (by omega)
  exact ⟨D * D', Nat.mul_pos d0 d0', p2, fun k => ⟨l1 k, ov_cl (h.1 k).2 (h.1 (.inr u)).2 (g.1 k).2 (q1 k) p⟩, l2, ov_cl h.2.2 (h.1 (.inr u)).2 g.2.2 q2 p⟩
end SS
namespace SS
open PySem PySem.Spec PyProof.Rows L2 NumText LamX KyS
/-! ### a pivot, step by step -/
def pivR (L : List Nm) (x u : Str) (q : Nm) : Rw := if q.1 = x then sc q.2 u else cl q.2 (sc (look L x) u) u
def midP (L : List Nm) (x u : Str) (S : List Str) : List Nm := L.map fun q => if q.1 ∈ S then (q.1, pivR L x u q) else q
def has (u : Str) (q : Nm) : Bool := decide ((q.2.f (.inr u)).1 ≠ 0)
def clrX (L : List Nm) (x u : Str) : List Stp := if (look L x).f (.inr u) = (1, 1) then [] else [.tm x (finv ((look L x).f (.inr u)))]
def clrO (x u : Str) (q : Nm) : Stp := .ad q.1 x (fneg (q.2.f (.inr u)))
def clrs (L : List Nm) (x u : Str) : List Stp := clrX L x u ++ (L.filter fun q => decide (q.1 ≠ x) && has u q).map (clrO x u)
def piv (L : List Nm) (x u : Str) : List Nm := L.map fun q => (q.1, pivR L x u q)
theorem midP_names (L : List Nm) (x u : Str) (S : List Str) : (midP L x u S).map (·.1) = L.map (·.1) := by
  unfold midP
  rw [List.map_map]
  refine List.map_congr_left fun q _ => ?_
  show (if q.1 ∈ S then (q.1, pivR L x u q) else q).1 = q.1
  split <;> rfl
theorem piv_names (L : List Nm) (x u : Str) : (piv L x u).map (·.1) = L.map (·.1) := by
  unfold piv
  rw [List.map_map]
  rfl
theorem nm_inj {L : List Nm} (nd : (L.map (·.1)).Nodup) {a b : Nm} (ha : a ∈ L) (hb : b ∈ L) (e : a.1 = b.1) : a = b := by
  obtain ⟨i, hi⟩ := List.mem_iff_getElem?.mp ha
  obtain ⟨j, hj⟩ := List.mem_iff_getElem?.mp hb
  have q1 : (L.map (·.1))[i]? = some a.1 := by rw [List.getElem?_map, hi]; rfl
  have q2 : (L.map (·.1))[j]? = some a.1 := by rw [List.getElem?_map, hj, e]; rfl
  have z := (List.getElem?_inj (List.getElem?_eq_some_iff.mp q1).1 nd).mp (q1.trans q2.symm)
  rw [z, hj] at hi
  exact (Option.some.inj hi).symm
theorem mem_look {L : List Nm} (nd : (L.map (·.1)).Nodup) {q : Nm} (h : q ∈ L) : look L q.1 = q.2 := by
  have m := look_mem (L := L) (List.mem_map.mpr ⟨q, h, rfl⟩)
  have := nm_inj nd m h rfl
  exact congrArg Prod.snd this
theorem midP_look {L : List Nm} (nd : (L.map (·.1)).Nodup) {x u : Str} {S : List Str} (hx : x ∈ L.map (·.1)) (hS : x ∈ S) : look (midP L x u S) x = sc (look L x) u := by
  have m : (x, sc (look L x) u) ∈ midP L x u S := by
    refine List.mem_map.mpr ⟨(x, look L x), look_mem hx, ?_⟩
    rw [if_pos hS]
    unfold pivR
    rw [if_pos rfl]
  exact mem_look (q := (x, sc (look L x) u)) (by rw [midP_names]; exact nd) m
theorem midP_x {L : List Nm} (nd : (L.map (·.1)).Nodup) {x u : Str} (hx : x ∈ L.map (·.1)) : (clrX L x u).foldl stepM L = midP L x u [x] := by
  have lk : ∀ q ∈ L, q.1 = x → look L x = q.2 := fun q hq e => by rw [← e]; exact mem_look nd hq
  unfold clrX midP
  split
  · rename_i e
    show L = _
    refine (List.map_id L).symm.trans (List.map_congr_left fun q hq => ?_)
    by_cases c : q.1 = x
    · rw [if_pos (by rw [c]; exact List.mem_singleton_self x)]
      unfold pivR sc
      rw [if_pos c, if_pos (by rw [← lk q hq c]; exact e)]
      rfl
    · rw [if_neg (fun z => c (List.mem_singleton.mp z))]
      rfl
  · rename_i e
    show stepM L _ = _
    unfold stepM
    refine List.map_congr_left fun q hq => ?_
    show (if q.1 = x then _ else q) = _
    by_cases c : q.1 = x
    · rw [if_pos c, if_pos (by rw [c]; exact List.mem_singleton_self x)]
      unfold pivR sc
      rw [if_pos c, if_neg (by rw [← lk q hq c]; exact e), lk q hq c]
      rfl
    · rw [if_neg c, if_neg (fun z => c (List.mem_singleton.mp z))]
theorem midP_step {L : List Nm} (nd : (L.map (·.1)).Nodup) {x u : Str} (hx : x ∈ L.map (·.1)) {S : List Str} (hS : x ∈ S) {q : Nm} (hq : q ∈ L) (n : q.1 ≠ x) (hu : has u q = true) (ns : q.1 ∉ S) : stepM (midP L x u S) (clrO x u q) = midP L x u (S ++ [q.1]) := by
  have l := midP_look (u := u) nd hx hS
  unfold stepM
  rw [show (clrO x u q).nm2 = x from rfl, l]
  unfold midP
  rw [List.map_map]
  refine List.map_congr_left fun g hg => ?_
  show (if (if g.1 ∈ S then (g.1, pivR L x u g) else g).1 = q.1 then _ else _) = _
  have e1 : (if g.1 ∈ S then (g.1, pivR L x u g) else g).1 = g.1 := by split <;> rfl
  rw [e1]
  by_cases c : g.1 = q.1
  · have := nm_inj nd hg hq c
    subst this
    rw [if_pos rfl]
    dsimp only
    rw [if_neg ns, if_pos (List.mem_append_right _ (List.mem_singleton_self _))]
    unfold pivR cl
    rw [if_neg n, if_neg (of_decide_eq_true hu)]
    rfl
  · rw [if_neg c]
    by_cases d : g.1 ∈ S
    · rw [if_pos d, if_pos (List.mem_append_left _ d)]
    · rw [if_neg d, if_neg (fun z => (List.mem_append.mp z).elim d fun z => c (List.mem_singleton.mp z))]
theorem midP_steps {L : List Nm} (nd : (L.map (·.1)).Nodup) {x u : Str} (hx : x ∈ L.map (·.1)) : ∀ {S : List Str} {l : List Nm}, x ∈ S → (∀ q ∈ l, q ∈ L ∧ q.1 ≠ x ∧ has u q = true ∧ q.1 ∉ S) → (l.map (·.1)).Nodup → (l.map (clrO x u)).foldl stepM (midP L x u S) = midP L x u (S ++ l.map (·.1))
  | S, [], _, _, _ => by rw [List.map_nil, List.map_nil, List.append_nil]; rfl
  | S, q :: l, hS, h, n => by
    obtain ⟨h1, h2, h3, h4⟩ := h q (List.mem_cons_self ..)
    rw [List.map_cons] at n
    obtain ⟨n1, n2⟩ := List.nodup_cons.mp n
    rw [List.map_cons, List.foldl_cons, midP_step nd hx hS h1 h2 h3 h4, midP_steps nd hx (List.mem_append_left _ hS) (fun g hg => ?_) n2, List.map_cons, List.append_assoc]
    · rfl
    · obtain ⟨g1, g2, g3, g4⟩ := h g (List.mem_cons_of_mem _ hg)
      refine ⟨g1, g2, g3, fun z => (List.mem_append.mp z).elim g4 fun z => n1 ?_⟩
      rw [← List.mem_singleton.mp z]
      exact List.mem_map.mpr ⟨g, hg, rfl⟩
theorem clr_nd {L : List Nm} (nd : (L.map (·.1)).Nodup) (p : Nm → Bool) : ((L.filter p).map (·.1)).Nodup := nd.sublist ((List.filter_sublist).map _)
/-- behind some of the steps -/
theorem clr_take {L : List Nm} (nd : (L.map (·.1)).Nodup) {x u : Str} (hx : x ∈ L.map (·.1)) (i : Nat) : ∃ S, ((clrs L x u).take i).foldl stepM L = midP L x u S := by
  unfold clrs
  rw [List.take_append, List.foldl_append]
  by_cases c : i < (clrX L x u).length
  · have e1 : (clrX L x u).take i = [] := by
      unfold clrX at c ⊢
      split at c
      · exact absurd c (Nat.not_lt_zero _)
      · rename_i e
        rw [if_neg e]
        have : i = 0 := by simp at c; omega
        rw [this]
        rfl
    rw [e1, show i - (clrX L x u).length = 0 by omega]
    refine ⟨[], ?_⟩
    show L = _
    unfold midP
    exact (List.map_id L).symm.trans (List.map_congr_left fun q _ => by rw [if_neg (by simp)]; rfl)
  · rw [List.take_of_length_le (by omega), midP_x nd hx, ← List.map_take]
    refine ⟨_, midP_steps nd hx (List.mem_singleton_self x) (fun q hq => ?_) ?_⟩
    · have m := List.mem_of_mem_take hq
      obtain ⟨m1, m2⟩ := List.mem_filter.mp m
      rw [Bool.and_eq_true] at m2
      exact ⟨m1, of_decide_eq_true m2.1, m2.2, fun z => of_decide_eq_true m2.1 (List.mem_singleton.mp z)⟩
    · exact (clr_nd nd _).sublist ((List.take_sublist _ _).map _)
theorem clr_all {L : List Nm} (nd : (L.map (·.1)).Nodup) {x u : Str} (hx : x ∈ L.map (·.1)) : (clrs L x u).foldl stepM L = piv L x u := by
  unfold clrs
  rw [List.foldl_append, midP_x nd hx, midP_steps nd hx (List.mem_singleton_self x) (fun q hq => ?_) (clr_nd nd _)]
  · unfold midP piv
    refine List.map_congr_left fun q hq => ?_
    by_cases c : q.1 ∈ [x] ++ (L.filter fun q => decide (q.1 ≠ x) && has u q).map (·.1)
    · rw [if_pos c]
    · rw [if_neg c]
      have n : q.1 ≠ x := fun z => c (by rw [z]; exact List.mem_append_left _ (List.mem_singleton_self x))
      have nh : (q.2.f (.inr u)).1 = 0 := Classical.byContradiction fun z => c (List.mem_append_right _ (List.mem_map.mpr ⟨q, List.mem_filter.mpr ⟨hq, by
        rw [Bool.and_eq_true]
        exact ⟨decide_eq_true n, decide_eq_true z⟩⟩, rfl⟩))
      unfold pivR cl
      rw [if_neg n, if_pos nh]
  · obtain ⟨m1, m2⟩ := List.mem_filter.mp hq
    rw [Bool.and_eq_true] at m2
    exact ⟨m1, of_decide_eq_true m2.1, m2.2, fun z => of_decide_eq_true m2.1 (List.mem_singleton.mp z)⟩
/-! ### what holds of the rows behind a pivot -/
theorem pivR_rb {L : List Nm} {n : Nat} (h : ∀ q ∈ L, RB n q.2) {x u : Str} (hx : x ∈ L.map (·.1)) (hu : ((look L x).f (.inr u)).1 ≠ 0) (nd : (L.map (·.1)).Nodup) {q : Nm} (hq : q ∈ L) : RB (2 * n + 1) (pivR L x u q) := by
  unfold pivR
  split
  · rename_i e
    have : look L x = q.2 := by rw [← e]; exact mem_look nd hq
    rw [this] at hu
    exact ((h q hq).sc hu).mono (by omega)
  · exact (h q hq).cl ((h _ (look_mem hx)).sc hu)
theorem in_q {U : List Str} {R : Rw} (l : LoR R) : R.In U ↔ ∀ k, R.F k ≠ 0 → k ∈ U.map fun x => (Sum.inr x : Key) := by
  constructor
  · exact fun h k c => h k fun z => c ((top_q (l.1 k)).mp z)
  · exact fun h k c => h k fun z => c ((top_q (l.1 k)).mpr z)
theorem sc_in {U : List Str} {R : Rw} {u : Str} (l : LoR R) (h : (R.f (.inr u)).1 ≠ 0) (i : R.In U) : (sc R u).In U := by
  obtain ⟨q, _⟩ := sc_q l h
  refine (in_q (sc_lo l h)).mpr fun k c => (in_q l).mp i k fun z => c ?_
  have := q k
  have nz : R.F (.inr u) ≠ 0 := fun y => h ((top_q (l.1 _)).mpr y)
  rw [z] at this
  grind
theorem cl_in {U : List Str} {R S : Rw} {u : Str} (l : LoR R) (s : LoR S) (i : R.In U) (j : S.In U) : (cl R S u).In U := by
  obtain ⟨q, _⟩ := cl_q (u := u) l s
  refine (in_q (cl_lo l s)).mpr fun k c => Classical.byContradiction fun n => c ?_
  have z1 : R.F k = 0 := Classical.byContradiction fun y => n ((in_q l).mp i k y)
  have z2 : S.F k = 0 := Classical.byContradiction fun y => n ((in_q s).mp j k y)
  rw [q k, z1, z2]
  grind
theorem pivR_in {L : List Nm} {U : List Str} (h : ∀ q ∈ L, LoR q.2 ∧ q.2.In U) {x u : Str} (hx : x ∈ L.map (·.1)) (hu : ((look L x).f (.inr u)).1 ≠ 0) (nd : (L.map (·.1)).Nodup) {q : Nm} (hq : q ∈ L) : (pivR L x u q).In U := by
  unfold pivR
  split
  · rename_i e
    have : look L x = q.2 := by rw [← e]; exact mem_look nd hq
    rw [this] at hu
    exact sc_in (h q hq).1 hu (h q hq).2
  · obtain ⟨a, b⟩ := h _ (look_mem hx)
    exact cl_in (h q hq).1 (sc_lo a hu) (h q hq).2 (sc_in a hu b)
end SS
namespace SS
/-! ### lines over unknowns: two reduced systems with the same points are the same -/
namespace Sol
variable {κ : Type}
def dot : List κ → (κ → Rat) → (κ → Rat) → Rat
  | [], _, _ => 0
  | k :: U, g, P => g k * P k + dot U g P
theorem dot_congr : ∀ {U : List κ} {g g' P P' : κ → Rat}, (∀ k ∈ U, g k * P k = g' k * P' k) → dot U g P = dot U g' P'
  | [], _, _, _, _, _ => rfl
  | k :: U, g, g', P, P', h => by
    unfold dot
    rw [h k (List.mem_cons_self ..), dot_congr fun j hj => h j (List.mem_cons_of_mem _ hj)]
theorem dot_add (U : List κ) (g h P : κ → Rat) : dot U (fun k => g k + h k) P = dot U g P + dot U h P := by
  induction U with
  | nil => exact (Rat.add_zero 0).symm
  | cons k U ih =>
    unfold dot
    rw [ih]
    grind
theorem dot_mul (U : List κ) (g P : κ → Rat) (c : Rat) : dot U (fun k => g k * c) P = dot U g P * c := by
  induction U with
  | nil => exact (Rat.zero_mul c).symm
  | cons k U ih =>
    unfold dot
    rw [ih]
    grind
theorem dot_zero {U : List κ} {g P : κ → Rat} (h : ∀ k ∈ U, g k * P k = 0) : dot U g P = 0 := by
  induction U with
  | nil => rfl
  | cons k U ih =>
    unfold dot
    rw [h k (List.mem_cons_self ..), ih fun j hj => h j (List.mem_cons_of_mem _ hj)]
    grind
/-- all but one are nought -/
theorem dot_one {U : List κ} {g P : κ → Rat} {x : κ} (nd : U.Nodup) (hx : x ∈ U) (h : ∀ k ∈ U, k ≠ x → g k * P k = 0) : dot U g P = g x * P x := by
  induction U with
  | nil => cases hx
  | cons k U ih =>
    obtain ⟨n1, n2⟩ := List.nodup_cons.mp nd
    unfold dot
    by_cases c : k = x
    · subst c
      rw [dot_zero fun j hj => h j (List.mem_cons_of_mem _ hj) fun e => n1 (e ▸ hj)]
      grind
    · rw [h k (List.mem_cons_self ..) c]
      rcases List.mem_cons.mp hx with e | hx
      · exact absurd e.symm c
      · rw [ih n2 hx fun j hj => h j (List.mem_cons_of_mem _ hj)]
        grind
structure Ln (κ : Type) where
  u : κ
  g : κ → Rat
  n : Rat
def Ln.sat (U : List κ) (l : Ln κ) (P : κ → Rat) : Prop := P l.u = l.n + dot U l.g P
def sats (U : List κ) (ls : List (Ln κ)) (P : κ → Rat) : Prop := ∀ l ∈ ls, l.sat U P
structure Red (U : List κ) (lt : κ → κ → Prop) (ls : List (Ln κ)) : Prop where
  nd : (ls.map (·.u)).Nodup
  mem : ∀ l ∈ ls, l.u ∈ U
  sup : ∀ l ∈ ls, ∀ k, l.g k ≠ 0 → k ∈ U ∧ lt l.u k ∧ ∀ l' ∈ ls, l'.u ≠ k
theorem Red.uniq {U : List κ} {lt : κ → κ → Prop} {ls : List (Ln κ)} (h : Red U lt ls) {l l' : Ln κ} (a : l ∈ ls) (b : l' ∈ ls) (e : l.u = l'.u) : l = l' := by
  obtain ⟨i, hi⟩ := List.mem_iff_getElem?.mp a
  obtain ⟨j, hj⟩ := List.mem_iff_getElem?.mp b
  have q1 : (ls.map (·.u))[i]? = some l.u := by rw [List.getElem?_map, hi]; rfl
  have q2 : (ls.map (·.u))[j]? = some l.u := by rw [List.getElem?_map, hj, e]; rfl
  have z := (List.getElem?_inj (List.getElem?_eq_some_iff.mp q1).1 h.nd).mp (q1.trans q2.symm)
  rw [z, hj] at hi
  exact (Option.some.inj hi).symm
/-- the point of a system where the free unknowns are chosen -/
noncomputable def pt (U : List κ) (ls : List (Ln κ)) (a : κ → Rat) (k : κ) : Rat :=
  open Classical in if h : ∃ l ∈ ls, l.u = k then (Classical.choose h).n + dot U (Classical.choose h).g a else a k
theorem pt_lead {U : List κ} {lt : κ → κ → Prop} {ls : List (Ln κ)} (h : Red U lt ls) (a : κ → Rat) {l : Ln κ} (hl : l ∈ ls) : pt U ls a l.u = l.n + dot U l.g a := by
  have z : ∃ l' ∈ ls, l'.u = l.u := ⟨l, hl, rfl⟩
  unfold pt
  rw [dif_pos z]
  obtain ⟨c1, c2⟩ := Classical.choose_spec z
  rw [h.uniq c1 hl c2]
theorem pt_free {U : List κ} {ls : List (Ln κ)} (a : κ → Rat) {k : κ} (hk : ∀ l ∈ ls, l.u ≠ k) : pt U ls a k = a k := by
  unfold pt
  rw [dif_neg]
  rintro ⟨l, hl, e⟩
  exact hk l hl e
theorem pt_sat {U : List κ} {lt : κ → κ → Prop} {ls : List (Ln κ)} (h : Red U lt ls) (a : κ → Rat) : sats U ls (pt U ls a) := fun l hl => by
  unfold Ln.sat
  rw [pt_lead h a hl]
  congr 1
  refine dot_congr fun k _ => ?_
  by_cases c : l.g k = 0
  · rw [c, Rat.zero_mul, Rat.zero_mul]
  · rw [pt_free a (h.sup l hl k c).2.2]
/-- leads of the one lead in the other -/
theorem red_lead {U : List κ} {lt : κ → κ → Prop} (irr : ∀ k, ¬ lt k k) (tr : ∀ {a b c}, lt a b → lt b c → lt a c) {ls ls' : List (Ln κ)} (h : Red U lt ls) (h' : Red U lt ls') (e : ∀ P, sats U ls' P → sats U ls P) {l : Ln κ} (hl : l ∈ ls) : ∃ l' ∈ ls', l'.u = l.u := by
  refine Classical.byContradiction fun n => ?_
  have fr : ∀ l' ∈ ls', l'.u ≠ l.u := fun l' hl' z => n ⟨l', hl', z⟩
  open Classical in
  let a1 : κ → Rat := fun k => if k = l.u then 1 else 0
  let a0 : κ → Rat := fun _ => 0
  have s0 := e _ (pt_sat h' a0) l hl
  have s1 := e _ (pt_sat h' a1) l hl
  unfold Ln.sat at s0 s1
  rw [pt_free _ fr] at s0 s1
  have q : dot U l.g (pt U ls' a0) = dot U l.g (pt U ls' a1) := by
    refine dot_congr fun k _ => ?_
    by_cases c : l.g k = 0
    · rw [c, Rat.zero_mul, Rat.zero_mul]
    · congr 1
      have ltk := (h.sup l hl k c).2.1
      by_cases d : ∃ l' ∈ ls', l'.u = k
      · obtain ⟨l', hl', ek⟩ := d
        rw [← ek, pt_lead h' a0 hl', pt_lead h' a1 hl']
        congr 1
        refine dot_congr fun j _ => ?_
        by_cases c2 : l'.g j = 0
        · rw [c2, Rat.zero_mul, Rat.zero_mul]
        · have ltj := (h'.sup l' hl' j c2).2.1
          have nj : j ≠ l.u := fun z => by
            rw [z, ek] at ltj
            exact irr _ (tr ltk ltj)
          show l'.g j * 0 = l'.g j * (if j = l.u then 1 else 0)
          rw [if_neg nj]
      · have fk : ∀ l' ∈ ls', l'.u ≠ k := fun l' hl' z => d ⟨l', hl', z⟩
        rw [pt_free _ fk, pt_free _ fk]
        have nk : k ≠ l.u := fun z => irr _ (z ▸ ltk)
        show (0 : Rat) = (if k = l.u then 1 else 0)
        rw [if_neg nk]
  have e1 : a1 l.u = 1 := if_pos rfl
  rw [← q, ← s0, e1] at s1
  exact absurd s1 (by decide)
theorem red_same {U : List κ} {lt : κ → κ → Prop} (nd : U.Nodup) (irr : ∀ k, ¬ lt k k) (tr : ∀ {a b c}, lt a b → lt b c → lt a c) {ls ls' : List (Ln κ)} (h : Red U lt ls) (h' : Red U lt ls') (e : ∀ P, sats U ls P ↔ sats U ls' P) {l : Ln κ} (hl : l ∈ ls) : l ∈ ls' := by
  obtain ⟨l', hl', eu⟩ := red_lead irr tr h h' (fun P => (e P).mpr) hl
  have fr : ∀ k, l'.g k ≠ 0 → ∀ l2 ∈ ls, l2.u ≠ k := fun k c l2 hl2 z => by
    obtain ⟨l3, hl3, e3⟩ := red_lead irr tr h h' (fun P => (e P).mpr) hl2
    exact (h'.sup l' hl' k c).2.2 l3 hl3 (e3.trans z)
  -- the point of ls with chosen free ones, at both lines
  have key : ∀ a : κ → Rat, l.n + dot U l.g a = l'.n + dot U l'.g a := fun a => by
    have s := (e _).mp (pt_sat h a) l' hl'
    unfold Ln.sat at s
    rw [eu, pt_lead h a hl] at s
    rw [s]
    congr 1
    refine dot_congr fun k _ => ?_
    by_cases c : l'.g k = 0
    · rw [c, Rat.zero_mul, Rat.zero_mul]
    · rw [pt_free a (fr k c)]
  have en : l.n = l'.n := by
    have z := key fun _ => 0
    rw [dot_zero fun k _ => Rat.mul_zero _, dot_zero fun k _ => Rat.mul_zero _, Rat.add_zero, Rat.add_zero] at z
    exact z
  have eg : l.g = l'.g := by
    funext x
    by_cases hx : x ∈ U
    · open Classical in
      have z := key fun k => if k = x then 1 else 0
      have o : ∀ g : κ → Rat, dot U g (fun k => open Classical in if k = x then 1 else 0) = g x := fun g => by
        rw [dot_one nd hx fun k _ c => by rw [if_neg c, Rat.mul_zero], if_pos rfl, Rat.mul_one]
      rw [en] at z
      have z2 : dot U l.g (fun k => if k = x then 1 else 0) = dot U l'.g (fun k => if k = x then 1 else 0) := by grind
      rw [o, o] at z2
      exact z2
    · have z1 : l.g x = 0 := Classical.byContradiction fun c => hx (h.sup l hl x c).1
      have z2 : l'.g x = 0 := Classical.byContradiction fun c => hx (h'.sup l' hl' x c).1
      rw [z1, z2]
  have : l = l' := by
    cases l
    cases l'
    simp only [Ln.mk.injEq]
    exact ⟨eu.symm, eg, en⟩
  rw [this]
  exact hl'
end Sol
end SS
namespace SS
open PySem PySem.Spec PyProof.Rows L2 NumText LamX KyS
/-! ### all pivots -/
def pick (led : List Str) (L : List Nm) (u : Str) : Option Nm := L.find? fun q => !decide (q.1 ∈ led) && has u q
def elim : List Str → List Str → List Nm → List Stp × List Nm
  | [], _, L => ([], L)
  | u :: us, led, L => match pick led L u with
    | none => elim us led L
    | some q => (clrs L q.1 u ++ (elim us (q.1 :: led) (piv L q.1 u)).1, (elim us (q.1 :: led) (piv L q.1 u)).2)
theorem pick_mem {led : List Str} {L : List Nm} {u : Str} {q : Nm} (h : pick led L u = some q) : q ∈ L ∧ q.1 ∉ led ∧ (q.2.f (.inr u)).1 ≠ 0 := by
  have a := List.mem_of_find?_eq_some h
  have b := List.find?_some h
  rw [Bool.and_eq_true, Bool.not_eq_true', decide_eq_false_iff_not] at b
  exact ⟨a, b.1, of_decide_eq_true b.2⟩
theorem pick_none {led : List Str} {L : List Nm} {u : Str} (h : pick led L u = none) : ∀ q ∈ L, q.1 ∉ led → (q.2.f (.inr u)).1 = 0 := fun q hq n => by
  have b := List.find?_eq_none.mp h q hq
  refine Classical.byContradiction fun c => b ?_
  rw [Bool.and_eq_true, Bool.not_eq_true', decide_eq_false_iff_not]
  exact ⟨n, decide_eq_true c⟩
theorem elim_fold : ∀ (us : List Str) {led : List Str} {L : List Nm}, (L.map (·.1)).Nodup → (elim us led L).2 = (elim us led L).1.foldl stepM L
  | [], _, _, _ => rfl
  | u :: us, led, L, nd => by
    unfold elim
    cases e : pick led L u with
    | none => exact elim_fold us nd
    | some q =>
      have hx : q.1 ∈ L.map (·.1) := List.mem_map.mpr ⟨q, (pick_mem e).1, rfl⟩
      show (elim us _ _).2 = _
      rw [List.foldl_append, clr_all nd hx]
      exact elim_fold us (by rw [piv_names]; exact nd)
def bd (n : Nat) : Nat → Nat
  | 0 => n
  | k + 1 => bd (2 * n + 1) k
theorem bd_mono : ∀ (k : Nat) {n m : Nat}, n ≤ m → bd n k ≤ bd m k
  | 0, _, _, h => h
  | k + 1, _, _, h => bd_mono k (by omega)
theorem bd_le : ∀ (k n : Nat), n ≤ bd n k
  | 0, n => Nat.le_refl n
  | k + 1, n => Nat.le_trans (by omega) (bd_le k (2 * n + 1))
theorem piv_ok {L : List Nm} {U : List Str} {n : Nat} (nd : (L.map (·.1)).Nodup) (h : ∀ q ∈ L, q.2.In U ∧ RB n q.2) {x u : Str} (hx : x ∈ L.map (·.1)) (hu : ((look L x).f (.inr u)).1 ≠ 0) (S : List Str) : ∀ q ∈ midP L x u S, q.2.In U ∧ RB (2 * n + 1) q.2 := fun q hq => by
  obtain ⟨g, hg, rfl⟩ := List.mem_map.mp hq
  by_cases c : g.1 ∈ S
  · rw [if_pos c]
    exact ⟨pivR_in (fun q hq => ⟨(h q hq).2.lo, (h q hq).1⟩) hx hu nd hg, pivR_rb (fun q hq => (h q hq).2) hx hu nd hg⟩
  · rw [if_neg c]
    exact ⟨(h g hg).1, (h g hg).2.mono (by omega)⟩
theorem piv_ok2 {L : List Nm} {U : List Str} {n : Nat} (nd : (L.map (·.1)).Nodup) (h : ∀ q ∈ L, q.2.In U ∧ RB n q.2) {x u : Str} (hx : x ∈ L.map (·.1)) (hu : ((look L x).f (.inr u)).1 ≠ 0) : ∀ q ∈ piv L x u, q.2.In U ∧ RB (2 * n + 1) q.2 := fun q hq => by
  obtain ⟨g, hg, rfl⟩ := List.mem_map.mp hq
  exact ⟨pivR_in (fun q hq => ⟨(h q hq).2.lo, (h q hq).1⟩) hx hu nd hg, pivR_rb (fun q hq => (h q hq).2) hx hu nd hg⟩
theorem elim_way : ∀ (us : List Str) {led : List Str} {L : List Nm} {U : List Str} {n : Nat}, (L.map (·.1)).Nodup → (∀ q ∈ L, q.2.In U ∧ RB n q.2) → ∀ i, ∀ q ∈ ((elim us led L).1.take i).foldl stepM L, q.2.In U ∧ RB (bd n us.length) q.2
  | [], _, _, _, _, _, h, i, q, hq => by
    unfold elim at hq
    rw [List.take_nil] at hq
    exact h q hq
  | u :: us, led, L, U, n, nd, h, i, q, hq => by
    unfold elim at hq
    cases e : pick led L u with
    | none =>
      rw [e] at hq
      obtain ⟨a, b⟩ := elim_way us nd h i q hq
      exact ⟨a, b.mono (bd_mono _ (by omega))⟩
    | some g =>
      rw [e] at hq
      obtain ⟨m1, m2, m3⟩ := pick_mem e
      have hx : g.1 ∈ L.map (·.1) := List.mem_map.mpr ⟨g, m1, rfl⟩
      have hu : ((look L g.1).f (.inr u)).1 ≠ 0 := by rw [mem_look nd m1]; exact m3
      dsimp only at hq
      rw [List.take_append, List.foldl_append] at hq
      by_cases c : i ≤ (clrs L g.1 u).length
      · rw [show i - (clrs L g.1 u).length = 0 by omega, List.take_zero, List.foldl_nil] at hq
        obtain ⟨S, eS⟩ := clr_take (u := u) nd hx i
        rw [eS] at hq
        obtain ⟨a, b⟩ := piv_ok nd h hx hu S q hq
        exact ⟨a, b.mono (bd_le _ _)⟩
      · rw [List.take_of_length_le (l := clrs L g.1 u) (by omega), clr_all nd hx] at hq
        exact elim_way us (by rw [piv_names]; exact nd) (piv_ok2 nd h hx hu) _ q hq
theorem clr_ok {L : List Nm} {n : Nat} (nd : (L.map (·.1)).Nodup) (h : ∀ q ∈ L, RB n q.2) (hn : n < 1399) {x u : Str} (hx : x ∈ L.map (·.1)) (hu : ((look L x).f (.inr u)).1 ≠ 0) : ∀ t ∈ clrs L x u, t.Ok (L.map (·.1)) := fun t ht => by
  have okb : ∀ q ∈ L, ∀ k, SS.Okb (n + 1) (q.2.f k) := fun q hq k => by
    obtain ⟨D, d0, d1, o⟩ := h q hq
    have p : 2 ^ n < 2 ^ (n + 1) := Nat.pow_lt_pow_right (by decide) (by omega)
    exact ov_ok (o.1 k).1 (o.1 k).2 d0 (Nat.lt_of_le_of_lt d1 p) p
  unfold clrs at ht
  rcases List.mem_append.mp ht with ht | ht
  · unfold clrX at ht
    split at ht
    · cases ht
    · rw [List.mem_singleton] at ht
      subst ht
      exact ⟨hx, finv_top ((h _ (look_mem hx)).lo.1 _) hu, (finv_okb (okb _ (look_mem hx) _) hu).mono (by omega)⟩
  · obtain ⟨q, hq, rfl⟩ := List.mem_map.mp ht
    obtain ⟨m1, m2⟩ := List.mem_filter.mp hq
    rw [Bool.and_eq_true] at m2
    have o := okb_times (okb q m1 (.inr u)) (show SS.Okb 1 (-1, 1) from ⟨by decide, by decide, by decide, by decide⟩)
    exact ⟨List.mem_map.mpr ⟨q, m1, rfl⟩, hx, of_decide_eq_true m2.1, Okb.mono o (by omega)⟩
theorem elim_ok : ∀ (us : List Str) {led : List Str} {L : List Nm} {U : List Str} {n : Nat}, (L.map (·.1)).Nodup → (∀ q ∈ L, q.2.In U ∧ RB n q.2) → bd n us.length < 1399 → ∀ t ∈ (elim us led L).1, t.Ok (L.map (·.1))
  | [], _, _, _, _, _, _, _, t, ht => by
    unfold elim at ht
    cases ht
  | u :: us, led, L, U, n, nd, h, hb, t, ht => by
    have hb1 : bd n us.length < 1399 := Nat.lt_of_le_of_lt (bd_mono _ (by omega)) hb
    have hb2 : n < 1399 := Nat.lt_of_le_of_lt (bd_le _ _) hb
    unfold elim at ht
    cases e : pick led L u with
    | none =>
      rw [e] at ht
      exact elim_ok us nd h hb1 t ht
    | some g =>
      rw [e] at ht
      obtain ⟨m1, m2, m3⟩ := pick_mem e
      have hx : g.1 ∈ L.map (·.1) := List.mem_map.mpr ⟨g, m1, rfl⟩
      have hu : ((look L g.1).f (.inr u)).1 ≠ 0 := by rw [mem_look nd m1]; exact m3
      rcases List.mem_append.mp ht with ht | ht
      · exact clr_ok nd (fun q hq => (h q hq).2) hb2 hx hu t ht
      · have := elim_ok us (led := g.1 :: led) (L := piv L g.1 u) (by rw [piv_names]; exact nd) (piv_ok2 nd h hx hu) hb t ht
        rw [piv_names] at this
        exact this
/-! ### the points stay -/
def kU (U : List Str) : List Key := U.map Sum.inr
def satR (U : List Str) (R : Rw) (P : Key → Rat) : Prop := Sol.dot (kU U) R.F P = R.N
def satA (U : List Str) (L : List Nm) (P : Key → Rat) : Prop := ∀ q ∈ L, satR U q.2 P
theorem sat_sc {U : List Str} {R : Rw} {u : Str} (l : LoR R) (h : (R.f (.inr u)).1 ≠ 0) (P : Key → Rat) : satR U (sc R u) P ↔ satR U R P := by
  obtain ⟨q, qn⟩ := sc_q l h
  have nz : R.F (.inr u) ≠ 0 := fun y => h ((top_q (l.1 _)).mpr y)
  have e : Sol.dot (kU U) R.F P = Sol.dot (kU U) (sc R u).F P * R.F (.inr u) := by
    rw [← Sol.dot_mul]
    exact Sol.dot_congr fun k _ => by rw [q k]
  unfold satR
  rw [e, ← qn]
  constructor
  · intro z
    rw [z]
  · intro z
    grind
theorem sat_cl {U : List Str} {R S : Rw} {u : Str} (l : LoR R) (s : LoR S) {P : Key → Rat} (hs : satR U S P) : satR U (cl R S u) P ↔ satR U R P := by
  obtain ⟨q, qn⟩ := cl_q (u := u) l s
  have e : Sol.dot (kU U) (cl R S u).F P = Sol.dot (kU U) R.F P + Sol.dot (kU U) S.F P * (- R.F (.inr u)) := by
    rw [← Sol.dot_mul, ← Sol.dot_add]
    exact Sol.dot_congr fun k _ => by rw [q k]; grind
  unfold satR at hs ⊢
  rw [e, qn, hs]
  constructor
  · intro z
    grind
  · intro z
    grind
theorem sat_piv {U : List Str} {L : List Nm} (nd : (L.map (·.1)).Nodup) (h : ∀ q ∈ L, LoR q.2) {x u : Str} (hx : x ∈ L.map (·.1)) (hu : ((look L x).f (.inr u)).1 ≠ 0) (P : Key → Rat) : satA U (piv L x u) P ↔ satA U L P := by
  have mx := look_mem hx
  have lx := h _ mx
  have row : ∀ q ∈ L, satR U (sc (look L x) u) P → (satR U (pivR L x u q) P ↔ satR U q.2 P) := fun q hq s => by
    unfold pivR
    split
    · rename_i e
      have : look L x = q.2 := by rw [← e]; exact mem_look nd hq
      rw [this] at hu
      exact sat_sc (h q hq) hu P
    · exact sat_cl (h q hq) (sc_lo lx hu) s
  constructor
  · intro s q hq
    have s0 := s (x, pivR L x u (x, look L x)) (List.mem_map.mpr ⟨_, mx, rfl⟩)
    have e0 : pivR L x u (x, look L x) = sc (look L x) u := if_pos rfl
    rw [e0] at s0
    exact (row q hq s0).mp (s (q.1, pivR L x u q) (List.mem_map.mpr ⟨q, hq, rfl⟩))
  · intro s g hg
    obtain ⟨q, hq, rfl⟩ := List.mem_map.mp hg
    exact (row q hq ((sat_sc lx hu P).mpr (s _ mx))).mpr (s q hq)
theorem elim_sat : ∀ (us : List Str) {led : List Str} {L : List Nm} {U : List Str} {n : Nat}, (L.map (·.1)).Nodup → (∀ q ∈ L, q.2.In U ∧ RB n q.2) → ∀ P, satA U (elim us led L).2 P ↔ satA U L P
  | [], _, _, _, _, _, _, _ => Iff.rfl
  | u :: us, led, L, U, n, nd, h, P => by
    unfold elim
    cases e : pick led L u with
    | none => exact elim_sat us nd h P
    | some g =>
      obtain ⟨m1, m2, m3⟩ := pick_mem e
      have hx : g.1 ∈ L.map (·.1) := List.mem_map.mpr ⟨g, m1, rfl⟩
      have hu : ((look L g.1).f (.inr u)).1 ≠ 0 := by rw [mem_look nd m1]; exact m3
      exact (elim_sat us (by rw [piv_names]; exact nd) (piv_ok2 nd h hx hu) P).trans (sat_piv nd (fun q hq => (h q hq).2.lo) hx hu P)
end SS
namespace SS
open PySem PySem.Spec PyProof.Rows L2 NumText LamX KyS
theorem leS_refl (a : Str) : leS a a := ltIrr _
theorem leS_trans {a b c : Str} (h1 : leS a b) (h2 : leS b c) : leS a c := nltT _ _ _ h1 h2
theorem leS_total (a b : Str) : leS a b ∨ leS b a := by
  by_cases h : ltCps b.cps.toList a.cps.toList = true
  · exact .inr (ltNot _ _ h)
  · exact .inl (Bool.eq_false_iff.mpr h)
/-! ### what holds of the rows when the unknowns `done` were looked at; led: which row is led by which unknown -/
structure InvE (done : List Str) (led : List (Str × Str)) (L : List Nm) : Prop where
  dn : ∀ p ∈ led, p.2 ∈ done
  nm : ∀ p ∈ led, p.1 ∈ L.map (·.1)
  one : ∀ p ∈ led, ∀ q ∈ L, q.1 = p.1 → q.2.F (.inr p.2) = 1
  oth : ∀ p ∈ led, ∀ q ∈ L, q.1 ≠ p.1 → q.2.F (.inr p.2) = 0
  gt : ∀ p ∈ led, ∀ q ∈ L, q.1 = p.1 → ∀ y : Str, q.2.F (.inr y) ≠ 0 → leS p.2 y
  non : ∀ q ∈ L, q.1 ∉ led.map (·.1) → ∀ v ∈ done, q.2.F (.inr v) = 0
theorem InvE.nil (L : List Nm) : InvE [] [] L := by
  refine ⟨?_, ?_, ?_, ?_, ?_, ?_⟩
  · intro p h; cases h
  · intro p h; cases h
  · intro p h; cases h
  · intro p h; cases h
  · intro p h; cases h
  · intro q _ _ v h; cases h
theorem InvE.skip {done : List Str} {led : List (Str × Str)} {L : List Nm} (h : InvE done led L) {u : Str} (n : ∀ q ∈ L, q.1 ∉ led.map (·.1) → q.2.F (.inr u) = 0) : InvE (u :: done) led L :=
  ⟨fun p hp => List.mem_cons_of_mem _ (h.dn p hp), h.nm, h.one, h.oth, h.gt, fun q hq c v hv => by
    rcases List.mem_cons.mp hv with rfl | hv
    · exact n q hq c
    · exact h.non q hq c v hv⟩
/-- the rows behind a pivot, as worths -/
theorem piv_q {L : List Nm} (nd : (L.map (·.1)).Nodup) (h : ∀ q ∈ L, LoR q.2) {x u : Str} (hx : x ∈ L.map (·.1)) (hu : ((look L x).f (.inr u)).1 ≠ 0) :
    ∃ S : Key → Rat, S (.inr u) = 1 ∧ (∀ k, S k * (look L x).F (.inr u) = (look L x).F k) ∧ ∀ g ∈ piv L x u, ∃ q ∈ L, q.1 = g.1 ∧ ((g.1 = x ∧ ∀ k, g.2.F k = S k) ∨ (g.1 ≠ x ∧ ∀ k, g.2.F k = q.2.F k - q.2.F (.inr u) * S k)) := by
  have mx := look_mem hx
  have lx := h _ mx
  obtain ⟨s1, _⟩ := sc_q lx hu
  have nz : (look L x).F (.inr u) ≠ 0 := fun y => hu ((top_q (lx.1 _)).mpr y)
  refine ⟨(sc (look L x) u).F, by have := s1 (.inr u); grind, s1, fun g hg => ?_⟩
  obtain ⟨q, hq, rfl⟩ := List.mem_map.mp hg
  refine ⟨q, hq, rfl, ?_⟩
  by_cases c : q.1 = x
  · refine .inl ⟨c, fun k => ?_⟩
    have e : look L x = q.2 := by rw [← c]; exact mem_look nd hq
    show (pivR L x u q).F k = _
    unfold pivR
    rw [if_pos c, e]
  · refine .inr ⟨c, fun k => ?_⟩
    show (pivR L x u q).F k = _
    unfold pivR
    rw [if_neg c]
    exact (cl_q (h q hq) (sc_lo lx hu)).1 k
theorem InvE.piv {done : List Str} {led : List (Str × Str)} {L : List Nm} {U : List Str} {us : List Str} {x u : Str} (h : InvE done led L) (nd : (L.map (·.1)).Nodup) (lo : ∀ q ∈ L, LoR q.2) (hin : ∀ q ∈ L, ∀ y : Str, q.2.F (.inr y) ≠ 0 → y ∈ done ∨ y ∈ u :: us) (srt : (u :: us).Pairwise leS)
    (hx : x ∈ L.map (·.1)) (nx : x ∉ led.map (·.1)) (hu : ((look L x).f (.inr u)).1 ≠ 0) : InvE (u :: done) ((x, u) :: led) (SS.piv L x u) := by
  obtain ⟨S, S1, Sq, rows⟩ := piv_q nd lo hx hu
  have mx := look_mem hx
  have nz : (look L x).F (.inr u) ≠ 0 := fun y => hu ((top_q ((lo _ mx).1 _)).mpr y)
  -- the pivot's row has nothing of what was done
  have Sd : ∀ v ∈ done, S (.inr v) = 0 := fun v hv => by
    have a := h.non _ mx nx v hv
    have b := Sq (.inr v)
    have a' : (look L x).F (.inr v) = 0 := a
    rw [a'] at b
    grind
  have Sg : ∀ y : Str, S (.inr y) ≠ 0 → leS u y := fun y c => by
    have z : (look L x).F (.inr y) ≠ 0 := fun z => c (by
      have b := Sq (.inr y)
      rw [z] at b
      grind)
    rcases hin _ mx y z with d | d
    · exact absurd (Sd y d) c
    · rcases List.mem_cons.mp d with rfl | d
      · exact leS_refl _
      · exact (List.pairwise_cons.mp srt).1 y d
  refine ⟨fun p hp => ?_, fun p hp => ?_, fun p hp g hg e => ?_, fun p hp g hg e => ?_, fun p hp g hg e y c => ?_, fun g hg c v hv => ?_⟩
  · rcases List.mem_cons.mp hp with rfl | hp
    · exact List.mem_cons_self ..
    · exact List.mem_cons_of_mem _ (h.dn p hp)
  · rw [piv_names]
    rcases List.mem_cons.mp hp with rfl | hp
    · exact hx
    · exact h.nm p hp
  · obtain ⟨q, hq, eq, r⟩ := rows g hg
    rcases List.mem_cons.mp hp with rfl | hp
    · rcases r with ⟨_, r⟩ | ⟨c, _⟩
      · rw [r]; exact S1
      · exact absurd e c
    · have nq : g.1 ≠ x := fun z => nx (List.mem_map.mpr ⟨p, hp, by rw [← e, z]⟩)
      rcases r with ⟨c, _⟩ | ⟨_, r⟩
      · exact absurd c nq
      · rw [r, Sd _ (h.dn p hp), h.one p hp q hq (eq.trans e)]
        grind
  · obtain ⟨q, hq, eq, r⟩ := rows g hg
    rcases List.mem_cons.mp hp with rfl | hp
    · rcases r with ⟨c, _⟩ | ⟨_, r⟩
      · exact absurd c e
      · have e1 := r (.inr u)
        show g.2.F (.inr u) = 0
        rw [e1, S1]
        grind
    · rcases r with ⟨c, r⟩ | ⟨_, r⟩
      · rw [r]; exact Sd _ (h.dn p hp)
      · rw [r, Sd _ (h.dn p hp), h.oth p hp q hq (fun z => e (eq.symm.trans z))]
        grind
  · obtain ⟨q, hq, eq, r⟩ := rows g hg
    rcases List.mem_cons.mp hp with rfl | hp
    · rcases r with ⟨_, r⟩ | ⟨c2, _⟩
      · rw [r] at c
        exact Sg y c
      · exact absurd e c2
    · have nq : g.1 ≠ x := fun z => nx (List.mem_map.mpr ⟨p, hp, by rw [← e, z]⟩)
      rcases r with ⟨c2, _⟩ | ⟨_, r⟩
      · exact absurd c2 nq
      · rw [r] at c
        by_cases d : q.2.F (.inr y) = 0
        · have d1 : q.2.F (.inr u) ≠ 0 := fun z => c (by rw [d, z]; grind)
          have d2 : S (.inr y) ≠ 0 := fun z => c (by rw [d, z]; grind)
          exact leS_trans (h.gt p hp q hq (eq.trans e) u d1) (Sg y d2)
        · exact h.gt p hp q hq (eq.trans e) y d
  · obtain ⟨q, hq, eq, r⟩ := rows g hg
    rw [List.map_cons, List.mem_cons, not_or] at c
    rcases r with ⟨c2, _⟩ | ⟨_, r⟩
    · exact absurd c2 c.1
    · rw [r]
      rcases List.mem_cons.mp hv with rfl | hv
      · rw [S1]
        grind
      · rw [Sd v hv, h.non q hq (fun z => c.2 (by rw [← eq]; exact z)) v hv]
        grind
theorem elim_inv : ∀ (us : List Str) {done : List Str} {led : List (Str × Str)} {L : List Nm} {U : List Str} {n : Nat}, (L.map (·.1)).Nodup → (∀ q ∈ L, q.2.In U ∧ RB n q.2) → (∀ y ∈ U, y ∈ done ∨ y ∈ us) → us.Pairwise leS → InvE done led L →
    ∃ done' led', (∀ v, v ∈ us ∨ v ∈ done → v ∈ done') ∧ InvE done' led' (elim us (led.map (·.1)) L).2
  | [], done, led, L, U, n, _, _, _, _, inv => ⟨done, led, fun v hv => hv.resolve_left (by simp), inv⟩
  | u :: us, done, led, L, U, n, nd, h, hU, srt, inv => by
    have fin : ∀ q ∈ L, ∀ y : Str, q.2.F (.inr y) ≠ 0 → y ∈ done ∨ y ∈ u :: us := fun q hq y c => by
      obtain ⟨z, hz, e⟩ := List.mem_map.mp ((in_q (h q hq).2.lo).mp (h q hq).1 _ c)
      obtain rfl := Sum.inr.inj e
      exact hU z hz
    have hU' : ∀ y ∈ U, y ∈ u :: done ∨ y ∈ us := fun y hy => by
      rcases hU y hy with d | d
      · exact .inl (List.mem_cons_of_mem _ d)
      · rcases List.mem_cons.mp d with rfl | d
        · exact .inl (List.mem_cons_self ..)
        · exact .inr d
    have fin2 : ∀ done' : List Str, (∀ v, v ∈ us ∨ v ∈ u :: done → v ∈ done') → ∀ v, v ∈ u :: us ∨ v ∈ done → v ∈ done' := fun done' k v hv => by
      refine k v ?_
      rcases hv with hv | hv
      · rcases List.mem_cons.mp hv with rfl | hv
        · exact .inr (List.mem_cons_self ..)
        · exact .inl hv
      · exact .inr (List.mem_cons_of_mem _ hv)
    unfold elim
    cases e : pick (led.map (·.1)) L u with
    | none =>
      have pn := pick_none e
      obtain ⟨d', l', k, i⟩ := elim_inv us nd h hU' (List.pairwise_cons.mp srt).2 (inv.skip (u := u) fun q hq c => (top_q ((h q hq).2.lo.1 _)).mp (pn q hq c))
      exact ⟨d', l', fin2 _ k, i⟩
    | some g =>
      obtain ⟨m1, m2, m3⟩ := pick_mem e
      have hx : g.1 ∈ L.map (·.1) := List.mem_map.mpr ⟨g, m1, rfl⟩
      have hu : ((look L g.1).f (.inr u)).1 ≠ 0 := by rw [mem_look nd m1]; exact m3
      obtain ⟨d', l', k, i⟩ := elim_inv us (L := piv L g.1 u) (by rw [piv_names]; exact nd) (piv_ok2 nd h hx hu) hU' (List.pairwise_cons.mp srt).2 (inv.piv (U := U) nd (fun q hq => (h q hq).2.lo) fin srt hx m2 hu)
      exact ⟨d', l', fin2 _ k, i⟩
/-! ### the lines of what is left -/
theorem nd_kU {U : List Str} (nd : U.Nodup) : (kU U).Nodup := by
  unfold kU
  induction U with
  | nil => exact List.nodup_nil
  | cons x U ih =>
    obtain ⟨a, b⟩ := List.nodup_cons.mp nd
    rw [List.map_cons]
    refine List.nodup_cons.mpr ⟨fun z => ?_, ih b⟩
    obtain ⟨y, hy, e⟩ := List.mem_map.mp z
    exact a (Sum.inr.inj e ▸ hy)
def lnOf (R : Rw) (u : Str) : Sol.Ln Key := ⟨.inr u, fun k => if k = .inr u then 0 else - R.F k, R.N⟩
theorem ln_sat {U : List Str} {R : Rw} {u : Str} (nd : U.Nodup) (hu : u ∈ U) (h1 : R.F (.inr u) = 1) (P : Key → Rat) : (lnOf R u).sat (kU U) P ↔ satR U R P := by
  have ndk : (kU U).Nodup := nd_kU nd
  have e : Sol.dot (kU U) (lnOf R u).g P + Sol.dot (kU U) R.F P = P (.inr u) := by
    rw [← Sol.dot_add, Sol.dot_one (x := .inr u) ndk (List.mem_map.mpr ⟨u, hu, rfl⟩) fun k _ c => ?_]
    · show ((if (Sum.inr u : Key) = .inr u then 0 else _) + R.F (.inr u)) * P (.inr u) = _
      rw [if_pos rfl, h1]
      grind
    · show ((if k = .inr u then 0 else - R.F k) + R.F k) * P k = 0
      rw [if_neg c]
      grind
  unfold Sol.Ln.sat satR
  show P (.inr u) = R.N + Sol.dot (kU U) (lnOf R u).g P ↔ _
  constructor
  · intro z
    grind
  · intro z
    grind
end SS
namespace SS
open PySem PySem.Spec PyProof.Rows L2 NumText LamX KyS
/-! ### lines -/
structure Lw where
  u : Str
  g : Key → Int × Int
  n : Int × Int
def LoL (l : Lw) : Prop := (∀ k, Lo (l.g k)) ∧ Lo l.n
def Lw.q (l : Lw) : Sol.Ln Key := ⟨.inr l.u, fun k => toQ (l.g k), toQ l.n⟩
def ltK (a b : Key) : Prop := ∃ x y : Str, a = .inr x ∧ b = .inr y ∧ leS x y ∧ x ≠ y
theorem ltK_irr (k : Key) : ¬ ltK k k := by
  rintro ⟨x, y, rfl, e, _, n⟩
  exact n (Sum.inr.inj e)
theorem ltK_tr {a b c : Key} (h1 : ltK a b) (h2 : ltK b c) : ltK a c := by
  obtain ⟨x, y, rfl, rfl, l1, n1⟩ := h1
  obtain ⟨y', z, e, rfl, l2, n2⟩ := h2
  obtain rfl := Sum.inr.inj e
  refine ⟨x, z, rfl, rfl, leS_trans l1 l2, fun w => ?_⟩
  subst w
  exact n1 (leS_anti l1 l2)
/-- lines of a system: each led by its own unknown, none of these in another line -/
structure Lines (U : List Str) (ps : List Lw) : Prop where
  lo : ∀ l ∈ ps, LoL l
  red : Sol.Red (kU U) ltK (ps.map Lw.q)
theorem lw_inj {l l' : Lw} (a : LoL l) (b : LoL l') (e : l.q = l'.q) : l = l' := by
  obtain ⟨u, g, n⟩ := l
  obtain ⟨u', g', n'⟩ := l'
  unfold Lw.q at e
  simp only [Sol.Ln.mk.injEq] at e
  obtain ⟨e1, e2, e3⟩ := e
  have h1 : u = u' := Sum.inr.inj e1
  have h2 : g = g' := funext fun k => toQ_inj (a.1 k) (b.1 k) (congrFun e2 k)
  have h3 : n = n' := toQ_inj a.2 b.2 e3
  subst h1 h2 h3
  rfl
theorem lines_mem {U : List Str} (nd : U.Nodup) {ps ps' : List Lw} (h : Lines U ps) (h' : Lines U ps') (e : ∀ P, Sol.sats (kU U) (ps.map Lw.q) P ↔ Sol.sats (kU U) (ps'.map Lw.q) P) {l : Lw} (hl : l ∈ ps) : l ∈ ps' := by
  have z := Sol.red_same (nd_kU nd) ltK_irr (fun a b => ltK_tr a b) h.red h'.red e (List.mem_map.mpr ⟨l, hl, rfl⟩)
  obtain ⟨l', hl', eq⟩ := List.mem_map.mp z
  rw [← lw_inj (h'.lo l' hl') (h.lo l hl) eq]
  exact hl'
theorem nodup_ofmap {α β : Type} {f : α → β} {l : List α} (h : (l.map f).Nodup) : l.Nodup := List.nodup_iff_pairwise_ne.mpr ((List.pairwise_map.mp (List.nodup_iff_pairwise_ne.mp h)).imp fun n e => n (by rw [e]))
theorem Lines.nd {U : List Str} {ps : List Lw} (h : Lines U ps) : (ps.map (·.u)).Nodup := by
  have z := h.red.nd
  rw [List.map_map] at z
  have e : ps.map ((fun l : Sol.Ln Key => l.u) ∘ Lw.q) = (ps.map (·.u)).map Sum.inr := by
    rw [List.map_map]
    rfl
  rw [e] at z
  exact nodup_ofmap z
theorem nodup_of_u {ps : List Lw} (nd : (ps.map (·.u)).Nodup) : ps.Nodup := nodup_ofmap nd
/-- the same points, both rising: the same lines -/
theorem lines_same {U : List Str} (nd : U.Nodup) {ps ps' : List Lw} (h : Lines U ps) (h' : Lines U ps') (e : ∀ P, Sol.sats (kU U) (ps.map Lw.q) P ↔ Sol.sats (kU U) (ps'.map Lw.q) P) (s : (ps.map (·.u)).Pairwise leS) (s' : (ps'.map (·.u)).Pairwise leS) : ps = ps' := by
  have p : ps.Perm ps' := (List.perm_ext_iff_of_nodup (nodup_of_u h.nd) (nodup_of_u h'.nd)).mpr fun l => ⟨fun hl => lines_mem nd h h' e hl, fun hl => lines_mem nd h' h (fun P => (e P).symm) hl⟩
  refine List.Perm.eq_of_pairwise (le := fun a b : Lw => leS a.u b.u) (fun a b ha hb h1 h2 => ?_) (List.pairwise_map.mp s) (List.pairwise_map.mp s') p
  have eu : a.u = b.u := leS_anti h1 h2
  have hb' := p.mem_iff.mpr hb
  have z := h.red.uniq (List.mem_map.mpr ⟨a, ha, rfl⟩) (List.mem_map.mpr ⟨b, hb', rfl⟩) (show (Sum.inr a.u : Key) = .inr b.u by rw [eu])
  exact lw_inj (h.lo a ha) (h.lo b hb') z
/-! ### the lines of rows -/
def nz (R : Rw) : Prop := ∃ y : Str, (R.f (.inr y)).1 ≠ 0
noncomputable def ldU (R : Rw) : Str := open Classical in if h : ∃ u : Str, (R.f (.inr u)).1 ≠ 0 ∧ ∀ y : Str, (R.f (.inr y)).1 ≠ 0 → leS u y then Classical.choose h else ""
theorem ldU_eq {R : Rw} {u : Str} (h : (R.f (.inr u)).1 ≠ 0) (g : ∀ y : Str, (R.f (.inr y)).1 ≠ 0 → leS u y) : ldU R = u := by
  have z : ∃ u : Str, (R.f (.inr u)).1 ≠ 0 ∧ ∀ y : Str, (R.f (.inr y)).1 ≠ 0 → leS u y := ⟨u, h, g⟩
  unfold ldU
  rw [dif_pos z]
  obtain ⟨a, b⟩ := Classical.choose_spec z
  exact leS_anti (b u h) (g _ a)
/-- the line of a row that is led by u, once -/
def lw (R : Rw) (u : Str) : Lw := ⟨u, fun k => fneg (open Classical in if k = .inr u then (0, 1) else R.f k), R.n⟩
theorem lw_lo {R : Rw} {u : Str} (l : LoR R) : LoL (lw R u) := ⟨fun k => fneg_lo (by
  show Lo (if k = .inr u then (0, 1) else R.f k)
  split
  · exact lo_zero
  · exact l.1 k), l.2⟩
theorem lw_q {R : Rw} {u : Str} (l : LoR R) : (lw R u).q = lnOf R u := by
  unfold Lw.q lnOf lw
  simp only [Sol.Ln.mk.injEq, true_and]
  refine ⟨funext fun k => ?_, rfl⟩
  by_cases c : k = .inr u
  · rw [if_pos c, if_pos c, fneg_q lo_zero, toQ_zero]
    decide
  · rw [if_neg c, if_neg c, fneg_q (l.1 k)]
    rfl
/-- what is left of the rows: which unknown leads a row -/
structure Fin (U : List Str) (L : List Nm) : Prop where
  row : ∀ q ∈ L, (∀ k, q.2.F k = 0) ∨ ∃ u ∈ U, q.2.F (.inr u) = 1 ∧ (∀ y : Str, q.2.F (.inr y) ≠ 0 → leS u y) ∧ ∀ g ∈ L, g.1 ≠ q.1 → g.2.F (.inr u) = 0
theorem elim_fin {L : List Nm} {U : List Str} {n : Nat} (nd : (L.map (·.1)).Nodup) (h : ∀ q ∈ L, q.2.In U ∧ RB n q.2) {ys : List Str} (hU : ∀ y ∈ U, y ∈ ys) (hy : ∀ y ∈ ys, y ∈ U) (srt : ys.Pairwise leS) : Fin U (elim ys [] L).2 := by
  obtain ⟨done, led, k, inv⟩ := elim_inv ys (done := []) (led := []) nd h (fun y hy => .inr (hU y hy)) srt (InvE.nil L)
  have fin : ∀ q ∈ (elim ys [] L).2, q.2.In U ∧ LoR q.2 := fun q hq => by
    rw [elim_fold ys nd, ← List.take_length (l := (elim ys [] L).1)] at hq
    obtain ⟨a, b⟩ := elim_way ys nd h _ q hq
    exact ⟨a, b.lo⟩
  refine ⟨fun q hq => ?_⟩
  obtain ⟨iu, lo⟩ := fin q hq
  by_cases c : q.1 ∈ led.map (·.1)
  · obtain ⟨p, hp, e⟩ := List.mem_map.mp c
    have o1 := inv.one p hp q hq e.symm
    have mu : p.2 ∈ U := by
      obtain ⟨z, hz, e2⟩ := List.mem_map.mp ((in_q lo).mp iu (.inr p.2) (by rw [o1]; decide))
      obtain rfl := Sum.inr.inj e2
      exact hz
    exact .inr ⟨p.2, mu, o1, inv.gt p hp q hq e.symm, fun g hg n => inv.oth p hp g hg fun z => n (z.trans e)⟩
  · refine .inl fun k' => Classical.byContradiction fun z => ?_
    obtain ⟨y, hy', e2⟩ := List.mem_map.mp ((in_q lo).mp iu k' z)
    subst e2
    exact z (inv.non q hq c y (k y (.inl (hU y hy'))))
end SS
namespace SS
open PySem PySem.Spec PyProof.Rows L2 NumText LamX KyS
/-! ### the lines that the program tells -/
noncomputable def nzB (q : Nm) : Bool := open Classical in decide (nz q.2)
theorem nzB_iff {q : Nm} : nzB q = true ↔ nz q.2 := by
  unfold nzB
  simp only [decide_eq_true_eq]
noncomputable def lnsOf (L : List Nm) : List Lw := (L.filter nzB).map fun q => lw q.2 (ldU q.2)
theorem nz_no {U : List Str} {R : Rw} (l : LoR R) (i : R.In U) (h : ¬ nz R) (k : Key) : R.F k = 0 := Classical.byContradiction fun c => by
  obtain ⟨y, _, e⟩ := List.mem_map.mp ((in_q l).mp i k c)
  subst e
  exact h ⟨y, fun z => c ((top_q (l.1 _)).mp z)⟩
/-- a row that isn't nothing is led -/
theorem Fin.led {U : List Str} {L : List Nm} (h : Fin U L) (ok : ∀ q ∈ L, q.2.In U ∧ LoR q.2) {q : Nm} (hq : q ∈ L) (n : nz q.2) :
    ldU q.2 ∈ U ∧ q.2.F (.inr (ldU q.2)) = 1 ∧ (∀ y : Str, q.2.F (.inr y) ≠ 0 → leS (ldU q.2) y) ∧ ∀ g ∈ L, g.1 ≠ q.1 → g.2.F (.inr (ldU q.2)) = 0 := by
  have lo := (ok q hq).2
  rcases h.row q hq with z | ⟨u, h1, h2, h3, h4⟩
  · obtain ⟨y, c⟩ := n
    exact absurd ((top_q (lo.1 _)).mpr (z (.inr y))) c
  · have e : ldU q.2 = u := ldU_eq (fun z => by
      have := (top_q (lo.1 (.inr u))).mp z
      have h2' : toQ (q.2.f (.inr u)) = 1 := h2
      rw [this] at h2'
      exact absurd h2' (by decide)) fun y c => h3 y fun z => c ((top_q (lo.1 _)).mpr z)
    rw [e]
    exact ⟨h1, h2, h3, h4⟩
theorem Fin.lines {U : List Str} {L : List Nm} (h : Fin U L) (nd : (L.map (·.1)).Nodup) (ok : ∀ q ∈ L, q.2.In U ∧ LoR q.2) : Lines U (lnsOf L) := by
  have mem : ∀ l ∈ lnsOf L, ∃ q ∈ L, nz q.2 ∧ l = lw q.2 (ldU q.2) := fun l hl => by
    obtain ⟨q, hq, e⟩ := List.mem_map.mp hl
    obtain ⟨a, b⟩ := List.mem_filter.mp hq
    exact ⟨q, a, nzB_iff.mp b, e.symm⟩
  have memq : ∀ l ∈ (lnsOf L).map Lw.q, ∃ q ∈ L, nz q.2 ∧ l = lnOf q.2 (ldU q.2) := fun l hl => by
    obtain ⟨l', hl', e⟩ := List.mem_map.mp hl
    obtain ⟨q, a, b, e2⟩ := mem l' hl'
    exact ⟨q, a, b, by rw [← e, e2, lw_q (ok q a).2]⟩
  refine ⟨fun l hl => ?_, ⟨?_, fun l hl => ?_, fun l hl k c => ?_⟩⟩
  · obtain ⟨q, a, _, e⟩ := mem l hl
    rw [e]
    exact lw_lo (ok q a).2
  · have e : ((lnsOf L).map Lw.q).map (·.u) = (L.filter nzB).map fun q => (Sum.inr (ldU q.2) : Key) := by
      unfold lnsOf
      rw [List.map_map, List.map_map]
      rfl
    rw [e]
    have p : (L.filter nzB).Pairwise fun a b => a.1 ≠ b.1 := (List.pairwise_map.mp (List.nodup_iff_pairwise_ne.mp (clr_nd nd nzB)))
    refine List.nodup_iff_pairwise_ne.mpr (List.pairwise_map.mpr (p.imp_of_mem fun {a b} ha hb n => fun z => ?_))
    obtain ⟨a1, a2⟩ := List.mem_filter.mp ha
    obtain ⟨b1, b2⟩ := List.mem_filter.mp hb
    obtain ⟨_, fa, _, oa⟩ := h.led ok a1 (nzB_iff.mp a2)
    obtain ⟨_, fb, _, _⟩ := h.led ok b1 (nzB_iff.mp b2)
    have := oa b b1 (fun y => n y.symm)
    rw [Sum.inr.inj z, fb] at this
    exact absurd this (by decide)
  · obtain ⟨q, a, b, e⟩ := memq l hl
    rw [e]
    exact List.mem_map.mpr ⟨_, (h.led ok a b).1, rfl⟩
  · obtain ⟨q, a, b, e⟩ := memq l hl
    obtain ⟨q1, q2, q3, q4⟩ := h.led ok a b
    rw [e] at c ⊢
    have c' : (if k = .inr (ldU q.2) then 0 else - q.2.F k) ≠ (0 : Rat) := c
    by_cases d : k = .inr (ldU q.2)
    · rw [if_pos d] at c'
      exact absurd rfl c'
    · rw [if_neg d] at c'
      have fk : q.2.F k ≠ 0 := fun z => c' (by rw [z]; decide)
      have mk := (in_q (ok q a).2).mp (ok q a).1 k fk
      obtain ⟨y, hy, ey⟩ := List.mem_map.mp mk
      refine ⟨mk, ⟨ldU q.2, y, rfl, ey.symm, q3 y (by rw [ey]; exact fk), fun z => d (by rw [z, ey])⟩, fun l' hl' z => ?_⟩
      obtain ⟨g, ga, gb, ge⟩ := memq l' hl'
      rw [ge] at z
      have z' : (Sum.inr (ldU g.2) : Key) = k := z
      by_cases same : q.1 = g.1
      · have := nm_inj nd a ga same
        subst this
        exact d z'.symm
      · have := (h.led ok ga gb).2.2.2 q a same
        rw [z'] at this
        exact fk this
theorem Fin.sats {U : List Str} {L : List Nm} (h : Fin U L) (ndU : U.Nodup) (ok : ∀ q ∈ L, q.2.In U ∧ LoR q.2) (hz : ∀ q ∈ L, ¬ nz q.2 → q.2.n.1 = 0) (P : Key → Rat) : Sol.sats (kU U) ((lnsOf L).map Lw.q) P ↔ satA U L P := by
  constructor
  · intro s q hq
    by_cases n : nz q.2
    · obtain ⟨q1, q2, _, _⟩ := h.led ok hq n
      refine (ln_sat ndU q1 q2 P).mp (s _ (List.mem_map.mpr ⟨lw q.2 (ldU q.2), List.mem_map.mpr ⟨q, List.mem_filter.mpr ⟨hq, nzB_iff.mpr n⟩, rfl⟩, lw_q (ok q hq).2⟩))
    · unfold satR
      rw [Sol.dot_zero fun k _ => by rw [nz_no (ok q hq).2 (ok q hq).1 n k, Rat.zero_mul]]
      exact ((top_q (ok q hq).2.2).mp (hz q hq n)).symm
  · intro s l hl
    obtain ⟨l', hl', e⟩ := List.mem_map.mp hl
    obtain ⟨q, hq, e2⟩ := List.mem_map.mp hl'
    obtain ⟨a, b⟩ := List.mem_filter.mp hq
    obtain ⟨q1, q2, _, _⟩ := h.led ok a (nzB_iff.mp b)
    rw [← e, ← e2, lw_q (ok q a).2]
    exact (ln_sat ndU q1 q2 P).mpr (s q a)
theorem zero_of_sat {U : List Str} {L : List Nm} {P : Key → Rat} (ok : ∀ q ∈ L, q.2.In U ∧ LoR q.2) (s : satA U L P) : ∀ q ∈ L, ¬ nz q.2 → q.2.n.1 = 0 := fun q hq n => by
  have e := s q hq
  unfold satR at e
  rw [Sol.dot_zero fun k _ => by rw [nz_no (ok q hq).2 (ok q hq).1 n k, Rat.zero_mul]] at e
  exact (top_q (ok q hq).2.2).mpr e.symm
end SS
namespace SS
open PySem PySem.Spec PyProof.Rows L2 TL NumText LamX KyS SiI ScS
/-! ### many dicts locked -/
def tLocksE : List Addr → TE → TE
  | [], t => t
  | d :: ds, t => fun σ H Q => ∃ u, H d = some u ∧ Mut (some u) ∧ ∀ od, tLocksE ds t σ (upd H d (.frz od u)) fun v H' => H' d = some (.frz od u) ∧ Q v (upd H' d u)
theorem pe_locksL {X : Cx} {e : Expr} {t : TE} (h : PE X e t) : ∀ ds, PE X e (tLocksE ds t)
  | [] => h
  | d :: ds => ⟨fun pins s σ H Q I hw => by
      obtain ⟨u, hd, mu, hw⟩ := hw
      exact (pe_lock (pe_locksL h ds)).run pins s σ H Q I ⟨d, u, hd, mu, hw⟩⟩
theorem pe_locks {X : Cx} {e : Expr} {t : TE} (h : PE X e t) : PE X e (fun σ H Q => ∃ ds, tLocksE ds t σ H Q) := ⟨fun pins s σ H Q I hw => by
  obtain ⟨ds, hw⟩ := hw
  exact (pe_locksL h ds).run pins s σ H Q I hw⟩
def Lkd (ds : List Addr) (H H1 : Hp) : Prop := (∀ b, b ∉ ds → H1 b = H b) ∧ ∀ d ∈ ds, ∃ od u, H d = some u ∧ H1 d = some (.frz od u)
theorem locks_of {t : TE} {σ : L2.St} : ∀ (ds : List Addr) (H : Hp) (Q : VK), ds.Nodup → (∀ d ∈ ds, ∃ u, H d = some u ∧ Mut (some u)) →
    (∀ H1 (Q' : VK), Lkd ds H H1 → (∀ v H1', (∀ d ∈ ds, H1' d = H1 d) → (∀ H', (∀ b, b ∉ ds → H' b = H1' b) → (∀ d ∈ ds, H' d = H d) → Q v H') → Q' v H1') → t σ H1 Q') → tLocksE ds t σ H Q
  | [], H, Q, _, _, h => h H Q ⟨fun _ _ => rfl, fun d hd => nomatch hd⟩ fun v H1' _ q => q H1' (fun _ _ => rfl) fun d hd => nomatch hd
  | d :: ds, H, Q, nd, hm, h => by
    rw [List.nodup_cons] at nd
    obtain ⟨u, hd, mu⟩ := hm d (List.mem_cons_self ..)
    refine ⟨u, hd, mu, fun od => locks_of ds _ _ nd.2 (fun e he => ?_) fun H1 Q' lk q => h H1 Q' ?_ fun v H1' e1 e2 => q v H1' (fun e he => e1 e (List.mem_cons_of_mem _ he)) fun H' k1 k2 => ?_⟩
    · obtain ⟨u', hu', mu'⟩ := hm e (List.mem_cons_of_mem _ he)
      exact ⟨u', by rw [upd_ne (fun z => nd.1 (by rw [← z]; exact he))]; exact hu', mu'⟩
    · refine ⟨fun b hb => ?_, fun e he => ?_⟩
      · rw [List.mem_cons, not_or] at hb
        rw [lk.1 b hb.2, upd_ne hb.1]
      · by_cases c : e = d
        · rw [c]
          exact ⟨od, u, hd, by rw [lk.1 d nd.1, upd_same]⟩
        · have he' : e ∈ ds := (List.mem_cons.mp he).resolve_left c
          obtain ⟨od', u', e3, e4⟩ := lk.2 e he'
          rw [upd_ne c] at e3
          exact ⟨od', u', e3, e4⟩
    · have hd' : H' d = some (.frz od u) := by
        rw [k1 d nd.1, e1 d (List.mem_cons_self ..), lk.1 d nd.1, upd_same]
      refine ⟨hd', e2 _ (fun b hb => ?_) fun e he => ?_⟩
      · rw [List.mem_cons, not_or] at hb
        rw [upd_ne hb.1]
        exact k1 b hb.2
      · by_cases c : e = d
        · rw [c, upd_same, hd]
        · have he' : e ∈ ds := (List.mem_cons.mp he).resolve_left c
          rw [upd_ne c, k2 e he', upd_ne c]
theorem by_walk {J : L2.It} {n : Nat} {G : Hp → Prop} {Y : Nat → Hp → V → Hp → Prop} (w : L2.Walk J n G Y) {H0 : Hp} {Qd : Hp → Prop} {B : V → Hp → (Hp → Prop) → Prop} (Pv : Nat → Hp → Prop) (h0 : Pv 0 H0) (hG : ∀ i H, i ≤ n → Pv i H → G H)
    (hs : ∀ i x H H', i < n → Pv i H → Y i H x H' → B x H' (Pv (i + 1))) (hd : ∀ H, Pv n H → Qd H) :
    ∃ W : Nat → Nat → Hp → Prop, (∃ m, W 0 m H0) ∧ ∀ i m H, W i m H → (J.stop i H ∧ Qd H) ∨ (J.go i H ∧ ∃ Nx : Hp → Prop, (∀ H', Nx H' → ∃ m', m' < m ∧ W (i + 1) m' H') ∧ ∀ x H', J.yld i H x H' → B x H' Nx) := by
  refine ⟨fun i m H => m = n - i ∧ i ≤ n ∧ Pv i H, ⟨n, rfl, Nat.zero_le _, h0⟩, ?_⟩
  rintro i m H ⟨rfl, hi, p⟩
  have q := hG i H hi p
  rcases Nat.lt_or_ge i n with hlt | hge
  · exact .inr ⟨w.goes i H hlt q, Pv (i + 1), fun H' p' => ⟨n - (i + 1), by omega, rfl, hlt, p'⟩, fun x H' y => hs i x H H' hlt p (w.yields i H x H' hlt q y)⟩
  · obtain rfl : i = n := by omega
    exact .inl ⟨w.stops H q, hd H p⟩
/-- a row whose unknowns are among U -/
def RowU (K : PySem.W.Frag) (H : Hp) (U : List Str) (v : V) : Prop := ∃ r a ls f s n m, v = .ref r ∧ RowT K m H r a ls f s n ∧ ∀ q ∈ ls, ∃ x, q.1 = .inr x ∧ x ∈ U
def dictAt (H : Hp) (v : V) : Option Addr := match v with
  | .ref r => (match H r with
    | some (.tup (.ref a :: _)) => some a
    | _ => none)
  | _ => none
theorem sub_len : ∀ {l U : List Str}, l.Nodup → (∀ x ∈ l, x ∈ U) → l.length ≤ U.length
  | [], _, _, _ => Nat.zero_le _
  | x :: l, U, nd, h => by
    rw [List.nodup_cons] at nd
    have hx := h x (List.mem_cons_self ..)
    have ih := sub_len (U := U.erase x) nd.2 fun y hy => (List.mem_erase_of_ne (fun z => nd.1 (by rw [← z]; exact hy))).mpr (h y (List.mem_cons_of_mem _ hy))
    rw [List.length_erase_of_mem hx] at ih
    have := List.length_pos_of_mem hx
    rw [List.length_cons]
    omega
/-- each once -/
def ddp : List Addr → List Addr
  | [] => []
  | a :: l => if a ∈ ddp l then ddp l else a :: ddp l
theorem mem_ddp {x : Addr} : ∀ {l : List Addr}, x ∈ ddp l ↔ x ∈ l
  | [] => Iff.rfl
  | a :: l => by
    unfold ddp
    split
    · rename_i c
      rw [mem_ddp, List.mem_cons]
      exact ⟨.inr, fun h => h.elim (fun e => e ▸ mem_ddp.mp c) id⟩
    · rw [List.mem_cons, List.mem_cons, mem_ddp]
theorem nd_ddp : ∀ (l : List Addr), (ddp l).Nodup
  | [] => List.nodup_nil
  | a :: l => by
    unfold ddp
    split
    · exact nd_ddp l
    · rename_i c
      exact List.nodup_cons.mpr ⟨c, nd_ddp l⟩
section
variable {P : Program} {w : World} {K : PySem.W.Frag} {mg : Str → Option Value} {base : Heap}
def spUnkX (K : PySem.W.Frag) : Sp := fun vs H Q _ => ∃ (d : Addr) (es : List Ent) (m : Nat) (U : List Str), vs = [.ref d] ∧ H d = some (.dK (es.map fun e => (.inr e.x, V.ref e.r))) ∧ (es.map (·.x)).Nodup ∧ (∀ e ∈ es, RowE K m H e.r e.a e.R ∧ e.R.In U) ∧ U.length ≤ 30 ∧
  ∀ H' l (ys : List Str), Same H H' → H' l = some (.lst (ys.map V.str)) → H l = none → ys.Nodup → ys.Pairwise leS → (∀ y, y ∈ ys ↔ ∃ e ∈ es, (e.R.f (.inr y)).1 ≠ 0) → Q (.ref l) H'
theorem addL_sub {l : List Str} {k x : Str} (h : x ∈ l) : x ∈ addL l k := by
  unfold addL
  split
  · exact h
  · exact List.mem_cons_of_mem _ h
theorem addL_self {l : List Str} {k : Str} : k ∈ addL l k := by
  unfold addL
  split
  · assumption
  · exact List.mem_cons_self ..
theorem sorted_leS {l : List Str} (h : sortedS l = true) : l.Pairwise leS := by
  exact (sorted_pw h).imp fun z => z
theorem scUnk : FnScope ["named", "name", "unknown"] ["named"] (defScope sUnk) := ⟨rfl, rfl, rfl, by decide +kernel, rfl, by decide +kernel, by decide +kernel⟩
theorem addL_inX {l : List Str} {U : Str → Prop} {k : Str} (nd : l.Nodup) (h : ∀ x ∈ l, U x) (hk : U k) : (addL l k).Nodup ∧ ∀ x ∈ addL l k, U x := by
  unfold addL
  split
  · exact ⟨nd, h⟩
  · rename_i c
    refine ⟨List.nodup_cons.mpr ⟨c, nd⟩, fun x hx => ?_⟩
    rcases List.mem_cons.mp hx with rfl | hx
    · exact hk
    · exact h x hx
theorem ok_unkX {f : Addr} {fd : FuncData} {k : Nat} (F : Fun K "unknowns_of" "unknowns_of" sUnk f fd) (ms : mg "sorted" = none) : FnOk P w K mg base CX0 (k + 1) f fd ["named"] (spUnkX K) := by
  refine F.ok scUnk (fun vs H Q E h => ?_) (fun cdv A outer s H vs Q E hr h => ?_)
  · obtain ⟨_, _, _, _, rfl, _⟩ := h
    rfl
  · obtain ⟨d, es, m, U, rfl, hd, nde, he, hU, q⟩ := h
    generalize ek : es.map (fun e => ((Sum.inr e.x : Key), V.ref e.r)) = kvs at hd
    have hu := hu_of hr
    refine ⟨_, pss_one (ps_ret (pe_callB (ScS.cr_sortedSet rfl) (by rfl) ms (by decide +kernel) (pa_cons (pe_locks
      (pe_sc2 (own := [("name", 1), ("unknown", 2)]) (vs1 := [2]) (g := gName 1) (g1 := gName 2) rfl scUnk.nd (pi_keys (pv 0)) (blkOk_by (by rfl)) (by decide) (fun _ _ _ _ _ => pg_name (i := 1) scUnk.nd rfl (Or.inl rfl))
        (fun _ _ _ _ _ => pi_keys (pe_ix (ix_tupK (K := K) rfl) (pe_dget hu (pv 0) (pv 1) (fun _ _ => rfl)) pe_int (fun _ _ => rfl)))
        (fun _ _ _ _ _ => pg_name (i := 2) scUnk.nd rfl (Or.inl rfl)) (fun _ _ _ _ _ => pv 2))) pa_nil))), ?_⟩
    -- what is locked
    have hds : ∀ e ∈ ddp (d :: kvs.filterMap fun p => dictAt H p.2), ∃ ks, H e = some (.dK ks) := fun e hm => by
      rcases List.mem_cons.mp (mem_ddp.mp hm) with rfl | hm
      · exact ⟨_, hd⟩
      · obtain ⟨p, hp, e2⟩ := List.mem_filterMap.mp hm
        rw [← ek] at hp
        obtain ⟨g, hg, rfl⟩ := List.mem_map.mp hp
        obtain ⟨⟨ks, n, hr', dm, _⟩, _⟩ := he g hg
        unfold dictAt at e2
        simp only [hr'] at e2
        rw [← Option.some.inj e2]
        exact ⟨_, dm.1⟩
    have hin : ∀ e ∈ es, ∃ ls, (∃ n, H e.r = some (.tup [.ref e.a, .str e.R.s, .ref n])) ∧ e.a ∈ ddp (d :: kvs.filterMap fun p => dictAt H p.2) ∧ H e.a = some (.dK ls) ∧ (∀ q ∈ ls, ∃ x, q.1 = .inr x ∧ (e.R.f (.inr x)).1 ≠ 0) ∧ ∀ y, (e.R.f (.inr y)).1 ≠ 0 → (Sum.inr y : Key) ∈ ls.map (·.1) := fun e hm => by
      obtain ⟨⟨ks, n, hr', dm, _⟩, _⟩ := he e hm
      refine ⟨ks, ⟨_, hr'⟩, mem_ddp.mpr (List.mem_cons_of_mem _ (List.mem_filterMap.mpr ⟨(.inr e.x, .ref e.r), by rw [← ek]; exact List.mem_map.mpr ⟨e, hm, rfl⟩, ?_⟩)), dm.1, fun q hq => ?_, fun y c => ?_⟩
      · unfold dictAt
        simp only [hr']
      · obtain ⟨⟨x, e1, _⟩, _, e3⟩ := dm.2.2.2.1 q hq
        refine ⟨x, e1, ?_⟩
        have := e3 trivial
        rw [e1] at this
        exact this
      · refine Classical.byContradiction fun z => c ?_
        rw [dm.out z]
    have hle : ∀ l : List Str, l.Nodup → (∀ x ∈ l, ∃ e ∈ es, (e.R.f (.inr x)).1 ≠ 0) → l.length ≤ U.length := fun l nd hl => sub_len nd fun x hx => by
      obtain ⟨e, hm, c⟩ := hl x hx
      obtain ⟨z, hz, e2⟩ := List.mem_map.mp ((he e hm).2 _ c)
      obtain rfl := Sum.inr.inj e2
      exact hz
    have hdm : d ∈ ddp (d :: kvs.filterMap fun p => dictAt H p.2) := mem_ddp.mpr (List.mem_cons_self ..)
    have ndd : (ddp (d :: kvs.filterMap fun p => dictAt H p.2)).Nodup := nd_ddp _
    generalize ddp (d :: kvs.filterMap fun p => dictAt H p.2) = ds at hds hin hdm ndd
    refine ⟨ds, locks_of ds H _ ndd (fun e he => ?_) fun H1 Q' lk hq => ?_⟩
    · obtain ⟨ks, e1⟩ := hds e he
      exact ⟨_, e1, trivial⟩
    obtain ⟨od, u0, e0, f0⟩ := lk.2 d hdm
    rw [hd] at e0
    obtain rfl := Option.some.inj e0
    refine ⟨_, rfl, d, od, rfl, .inl ⟨kvs, f0, fun D nD => ?_⟩⟩
    refine by_walk walk_keys (fun i H' => ∃ l : List Str, H' D = some (SetSO P w D l) ∧ l.Nodup ∧ (∀ x ∈ l, ∃ e ∈ es, (e.R.f (.inr x)).1 ≠ 0) ∧ (∀ e ∈ es.take i, ∀ y, (e.R.f (.inr y)).1 ≠ 0 → y ∈ l) ∧ ∀ b o, H1 b = some o → H' b = some o) ⟨[], upd_same, List.nodup_nil, fun x hx => (nomatch hx), fun e hm => (nomatch hm), fun b o e => by rw [upd_ne (ne_of_none e nD)]; exact e⟩
      (fun i H' _ ⟨l, _, _, _, _, kp⟩ => kp _ _ f0) ?_ ?_
    · rintro i x H2 H2' hi ⟨l, hD, nd, hl, hc, kp⟩ ⟨rfl, k0, v0, hk0, rfl⟩
      refine ⟨rfl, ?_⟩
      rw [← ek, List.getElem?_map] at hk0
      obtain ⟨e, hei, hk0⟩ := Option.map_eq_some_iff.mp hk0
      obtain ⟨rfl, rfl⟩ := Prod.mk.inj hk0
      have hem := List.mem_of_getElem? hei
      have hv1 : valV kvs (.inr e.x) = some (.ref e.r) := by rw [← ek]; exact val_ent nde hem
      obtain ⟨ls, ⟨n1, hr1⟩, ha, hls, hq1, hq2⟩ := hin e hem
      have nr : e.r ∉ ds := fun z => by
        obtain ⟨ks, e2⟩ := hds e.r z
        rw [hr1] at e2
        cases e2
      have hr1' : H1 e.r = some (.tup [.ref e.a, .str e.R.s, .ref n1]) := by rw [lk.1 e.r nr]; exact hr1
      obtain ⟨oa, ua, ea, fa⟩ := lk.2 e.a ha
      rw [hls] at ea
      obtain rfl := Option.some.inj ea
      refine ⟨_, rfl, _, rfl, d, _, rfl, .inl ⟨kvs, .inr e.x, .inr ⟨od, kp _ _ f0⟩, rfl, hv1.symm⟩, e.r, _, 0, _, rfl, rfl, SqT.of (kp _ _ hr1'), atI_nat (j := 0) rfl, ?_⟩
      refine ⟨e.a, oa, rfl, .inl ⟨ls, kp _ _ fa, ?_⟩⟩
      refine by_walk walk_keys (fun j H' => ∃ l : List Str, H' D = some (SetSO P w D l) ∧ l.Nodup ∧ (∀ x ∈ l, ∃ e ∈ es, (e.R.f (.inr x)).1 ≠ 0) ∧ (∀ e ∈ es.take i, ∀ y, (e.R.f (.inr y)).1 ≠ 0 → y ∈ l) ∧ (∀ y, (Sum.inr y : Key) ∈ (ls.take j).map (·.1) → y ∈ l) ∧ ∀ b o, H1 b = some o → H' b = some o) ⟨l, hD, nd, hl, hc, fun y hy => (by cases hy), kp⟩ (fun i H' _ ⟨l, _, _, _, _, _, kp⟩ => kp _ _ fa) ?_ ?_
      · rintro j y H3 H3' hj ⟨l', hD', nd', hl', hc', hj', kp'⟩ ⟨rfl, k2, v2, hk2, rfl⟩
        refine ⟨rfl, ?_⟩
        obtain ⟨x2, ex2, hx2⟩ := hq1 _ (List.mem_of_getElem? hk2)
        have ex2' : k2 = Sum.inr x2 := ex2
        subst ex2'
        have ll := hle l' nd' hl'
        obtain ⟨nd2, hl2⟩ := addL_inX nd' hl' ⟨e, hem, hx2⟩
        refine ⟨_, rfl, x2, l', rfl, hD', Nat.lt_of_le_of_lt (Nat.succ_le_succ (Nat.le_trans ll hU)) (by decide), addL l' x2, upd_same, nd2, hl2, fun g hg y c => addL_sub (hc' g hg y c), fun y hy => ?_, fun b o e => by rw [upd_ne (ne_of_none e nD)]; exact kp' b o e⟩
        rw [List.take_add_one, hk2, List.map_append] at hy
        rcases List.mem_append.mp hy with hy | hy
        · exact addL_sub (hj' y hy)
        · have e3 : (Sum.inr y : Key) = Sum.inr x2 := List.mem_singleton.mp hy
          rw [Sum.inr.inj e3]
          exact addL_self
      · rintro H3 ⟨l', hD', nd', hl', hc', hj', kp'⟩
        refine ⟨l', hD', nd', hl', fun g hg y c => ?_, kp'⟩
        rw [List.take_add_one, hei] at hg
        rcases List.mem_append.mp hg with hg | hg
        · exact hc' g hg y c
        · have e3 : g = e := List.mem_singleton.mp hg
          subst e3
          refine hj' y ?_
          rw [List.take_length]
          exact hq2 y c
    · rintro H2 ⟨l, hD, nd, hl, hc, kp⟩
      rw [← ek, List.length_map] at hc
      rw [List.take_length] at hc
      refine hq (.ref D) H2 (fun e he => ?_) fun H' k1 k2 => ?_
      · obtain ⟨oe, ue, _, fe⟩ := lk.2 e he
        rw [fe]
        exact kp _ _ fe
      · have nDd : D ∉ ds := fun z => by
          obtain ⟨oe, ue, _, fe⟩ := lk.2 D z
          rw [nD] at fe
          cases fe
        have ll := hle l nd hl
        have sm : Same H H' := fun b o e => by
          by_cases c : b ∈ ds
          · rw [k2 b c]
            exact e
          · rw [k1 b c]
            exact kp b o (by rw [lk.1 b c]; exact e)
        refine ⟨_, _, D, l, rfl, rfl, rfl, by rw [k1 D nDd]; exact hD, Nat.lt_of_le_of_lt (Nat.le_trans ll hU) (by decide), fun ys p pm srt np => ?_⟩
        have np0 : H p = none := by
          cases c : H p with
          | none => rfl
          | some o =>
            have := sm p o c
            rw [np] at this
            cases this
        refine q _ p ys (sm.trans (same_new np)) upd_same np0 (pm.nodup_iff.mpr nd) (sorted_leS srt) fun y => ⟨fun hy => hl y (pm.mem_iff.mp hy), fun hy => ?_⟩
        obtain ⟨e, hm, c⟩ := hy
        exact pm.mem_iff.mpr (hc e hm y c)
end
end SS
namespace SS
open PySem PySem.Spec PyProof.Rows L2 NumText LamX KyS
section
variable {P : Program} {w : World} {K : PySem.W.Frag} {mg : Str → Option Value} {base : Heap}
/-! ### over, never by nought -/
def spOver0 (K : PySem.W.Frag) : Sp := fun vs H Q _ => ∃ n1 d1 n2 d2 : Int, Two K H vs n1 d1 n2 d2 ∧ n2 ≠ 0 ∧
  ∀ H1, Same H H1 → ∀ r, H1 r = none → Q (.ref r) (upd H1 r (.tup [.int (fr1 (n1 * d2) (d1 * n2)), .int (fr2 (n1 * d2) (d1 * n2))]))
theorem scOver : FnScope ["a", "b"] ["a", "b"] (defScope sOver) := ⟨rfl, rfl, rfl, by decide +kernel, rfl, by decide +kernel, by decide +kernel⟩
theorem fr_neg (t b : Int) (h : b ≠ 0) : fr1 (-t) (-b) = fr1 t b ∧ fr2 (-t) (-b) = fr2 t b := by
  have nb : -b ≠ 0 := by omega
  have c := fr_cross (t := -t) nb
  have e : fr1 (-t) (-b) * b = t * fr2 (-t) (-b) := by
    rw [Int.mul_neg, Int.neg_mul] at c
    omega
  exact frIs h (fr2_pos nb) (fr_gcd nb) e
theorem ok_over0 {f : Addr} {fd : FuncData} (F : Fun K "over" "over" sOver f fd) (tm : Cl P w K mg base CX0 3 "times" (spTimes K) []) : FnOk P w K mg base CX0 4 f fd ["a", "b"] (spOver0 K) := by
  refine F.ok scOver (fun vs H Q E h => ?_) (fun cdv A outer s H vs Q E hr h => ?_)
  · obtain ⟨_, _, _, _, ⟨p, q, rfl, _⟩, _⟩ := h
    rfl
  · obtain ⟨n1, d1, n2, d2, ⟨p, q, rfl, h1, h2, z1, z2, b1, b2, b3, b4, g1, g2⟩, e0, k⟩ := h
    refine ⟨_, pss_cons (ps_if (pt_cmpR op_eq (pe_ix (ix_tupK (K := K) rfl) (pv 1) pe_int (fun _ _ => rfl)) pe_int (nomark _)) (pss_one ps_never) pss_nil)
      (pss_one (ps_ret (pc0 tm hr (by decide) (pa_cons (pv 0) (pa_cons (pe_ifExp (pt_cmpR op_gt (pe_ix (ix_tupK (K := K) rfl) (pv 1) pe_int (fun _ _ => rfl)) pe_int (nomark _)) (pe_tup (pa_cons (pe_ix (ix_tupK (K := K) rfl) (pv 1) pe_int (fun _ _ => rfl)) (pa_cons (pe_ix (ix_tupK (K := K) rfl) (pv 1) pe_int (fun _ _ => rfl)) pa_nil)))
        (pe_tup (pa_cons (pe_un un_neg (pe_ix (ix_tupK (K := K) rfl) (pv 1) pe_int (fun _ _ => rfl))) (pa_cons (pe_un un_neg (pe_ix (ix_tupK (K := K) rfl) (pv 1) pe_int (fun _ _ => rfl))) pa_nil)))) pa_nil))))), ?_⟩
    refine ⟨_, rfl, q, _, 0, _, rfl, rfl, h2.1, atI_nat (j := 0) rfl, rfl, _, rfl, ite2 (fun e => ?_) (fun e => ?_)⟩
    · exact absurd (V.int.inj (of_decide_eq_true e)) e0
    · refine ⟨_, rfl, _, rfl, q, _, 0, _, rfl, rfl, h2.1, atI_nat (j := 0) rfl, n2, 0, rfl, rfl, _, rfl, ite2 (fun e1 => ?_) (fun e1 => ?_)⟩
      · have p0 : 0 < n2 := of_decide_eq_true e1
        refine ⟨_, rfl, q, _, 1, _, rfl, rfl, h2.1, atI_nat (j := 1) rfl, _, rfl, q, _, 0, _, rfl, rfl, h2.1, atI_nat (j := 0) rfl, small2, fun U nU => ?_⟩
        have sU := same_new (o := .tup [.int d2, .int n2]) nU
        exact ⟨n1, d1, d2, n2, ⟨p, U, rfl, h1.new sU, FrT.of upd_same, z1, p0, b1, b2, b4, b3, g1, by rw [Int.gcd_comm]; exact g2⟩, k _ sU⟩
      · have p0 : n2 < 0 := by
          have : ¬ 0 < n2 := fun z => e1 (decide_eq_true z)
          omega
        refine ⟨_, rfl, q, _, 1, _, rfl, rfl, h2.1, atI_nat (j := 1) rfl, d2, rfl, _, rfl, q, _, 0, _, rfl, rfl, h2.1, atI_nat (j := 0) rfl, n2, rfl, small2, fun U nU => ?_⟩
        have sU := same_new (o := .tup [.int (-d2), .int (-n2)]) nU
        have k2 := k _ sU
        have ee := fr_neg (n1 * d2) (d1 * n2) (Int.mul_ne_zero (Int.ne_of_gt z1) e0)
        rw [← ee.1, ← ee.2, ← Int.mul_neg, ← Int.mul_neg] at k2
        exact ⟨n1, d1, -d2, -n2, ⟨p, U, rfl, h1.new sU, FrT.of upd_same, z1, by omega, b1, b2, by rw [Int.natAbs_neg]; exact b4, by rw [Int.natAbs_neg]; exact b3, g1, by rw [Int.gcd_comm, Int.gcd_neg, Int.neg_gcd]; exact g2⟩, k2⟩
theorem eqv_one (n d : Int) : PyData.eqv (.tuple [.int n, .int d]) (.tuple [.int 1, .int 1]) = (n == 1 && d == 1) := by
  simp [PyData.eqv, PyData.eqvAll]
end
end SS
namespace SS
open PySem PySem.Spec PyProof.Rows L2 NumText LamX KyS
section
variable {P : Program} {w : World} {K : PySem.W.Frag} {mg : Str → Option Value} {base : Heap}
theorem paired_app {α β : Type} {R : α → β → Prop} {as as' : List α} {bs bs' : List β} (h : Paired R as bs) (h' : Paired R as' bs') : Paired R (as ++ as') (bs ++ bs') := by
  induction h with
  | nil => exact h'
  | cons r _ ih => exact .cons r ih
def clrP (x u : Str) (q : Nm) : Bool := decide (q.1 ≠ x) && has u q
theorem dgetE {H : Hp} {D : Addr} {es : List Ent} {od : Obj} (nd : (es.map (·.x)).Nodup) (h : H D = some (.frz od (.dK (es.map fun e => (.inr e.x, V.ref e.r))))) {e : Ent} (he : e ∈ es) : DGet H D (.str e.x) (some (.ref e.r)) := .inl ⟨_, .inr e.x, .inr ⟨od, h⟩, rfl, (val_ent nd he).symm⟩
/-- tuples stay -/
def KpT (H H' : Hp) : Prop := ∀ b o, (∃ ys, o = .tup ys ∨ ∃ u, o = .frz u (.tup ys)) → H b = some o → H' b = some o
theorem SqT.kpT {H H' : Hp} {p : Addr} {xs : List V} (h : SqT K H p xs) (k : KpT H H') : SqT K H' p xs := by
  rcases h with (h1 | ⟨o, h1⟩) | z
  · exact .inl (.inl (k _ _ ⟨_, .inl rfl⟩ h1))
  · exact .inl (.inr ⟨o, k _ _ ⟨_, .inr ⟨_, rfl⟩⟩ h1⟩)
  · exact .inr z
theorem FrT.kpT {H H' : Hp} {p : Addr} {n d : Int} (h : FrT K H p n d) (k : KpT H H') : FrT K H' p n d := by
  obtain ⟨h1, h2⟩ := h
  rcases h1 with (h1 | ⟨o, h1⟩) | ⟨o, its, m, k1, k2, k3⟩
  · have q := k _ _ ⟨_, .inl rfl⟩ h1
    exact ⟨.inl (.inl q), .base (.tup q)⟩
  · have q := k _ _ ⟨_, .inr ⟨_, rfl⟩⟩ h1
    exact ⟨.inl (.inr ⟨o, q⟩), .fTuple q⟩
  · exact ⟨.inr ⟨o, its, m, k1, k2, k3⟩, .kTuple k1 k2⟩
theorem StpAt.kpT {H H' : Hp} {v : V} {t : Stp} (h : StpAt K H v t) (k : KpT H H') : StpAt K H' v t := by
  cases t with
  | tm x c =>
    obtain ⟨s, n, e1, h1, h2⟩ := h
    exact ⟨s, n, e1, SqT.kpT h1 k, FrT.kpT h2 k⟩
  | ad x y c =>
    obtain ⟨s, n, e1, h1, h2⟩ := h
    exact ⟨s, n, e1, SqT.kpT h1 k, FrT.kpT h2 k⟩
theorem KpT.but {H H' : Hp} {D : Addr} {o0 : HO} (hD : H D = some o0) (n : ∀ ys, o0 ≠ .tup ys ∧ ∀ u, o0 ≠ .frz u (.tup ys)) (k : ∀ b o, b ≠ D → H b = some o → H' b = some o) : KpT H H' := fun b o c e => by
  refine k b o (fun z => ?_) e
  rw [z, hD] at e
  obtain rfl := Option.some.inj e
  obtain ⟨ys, c | ⟨u, c⟩⟩ := c
  · exact (n ys).1 c
  · exact (n ys).2 u c
/-! ### clearing_steps -/
def spClear (K : PySem.W.Frag) : Sp := fun vs H Q _ => ∃ (D : Addr) (es : List Ent) (x u : Str) (m : Nat), vs = [.ref D, .str x, .str u] ∧ H D = some (.dK (es.map fun e => (.inr e.x, V.ref e.r))) ∧ (es.map (·.x)).Nodup ∧ es.length ≤ 400 ∧ (∀ e ∈ es, RowE K m H e.r e.a e.R ∧ e.a ≠ D ∧ e.R.Okb 1400) ∧ (∃ e ∈ es, e.x = x ∧ (e.R.f (.inr u)).1 ≠ 0) ∧
  ∀ H' l us, Same H H' → H' l = some (.lst us) → H l = none → Paired (StpAt K H') us (clrs (es.map nr) x u) → Q (.ref l) H'
theorem scClear : FnScope ["equals", "name", "unknown", "number", "told", "other"] ["equals", "name", "unknown"] (defScope sClearing) := ⟨rfl, rfl, rfl, by decide +kernel, rfl, by decide +kernel, by decide +kernel⟩
theorem ok_clear {f aO aM : Addr} {fd : FuncData} (F : Fun K "clearing_steps" "clearing_steps" sClearing f fd) (gO : mg "ONE" = some (.ref aO)) (hO : ∀ H, FrT K H aO 1 1) (gM : mg "MINUS_ONE" = some (.ref aM)) (hM : ∀ H, FrT K H aM (-1) 1)
    (ov : Cl P w K mg base CX0 4 "over" (spOver0 K) []) (tm : Cl P w K mg base CX0 3 "times" (spTimes K) []) : FnOk P w K mg base CX0 5 f fd ["equals", "name", "unknown"] (spClear K) := by
  refine F.ok scClear (fun vs H Q E h => ?_) (fun cdv A outer s H vs Q E hr h => ?_)
  · obtain ⟨_, _, _, _, _, rfl, _⟩ := h
    rfl
  · obtain ⟨D, es, x, u, m, rfl, hD, nd, hl, hes, ⟨e0, he0, rfl, hu0⟩, q⟩ := h
    have hu := hu_of hr
    refine ⟨_, pss_cons (ps_set (i := 3) scClear.nd rfl (.inl rfl) (pe_dget hu (pe_ix (ix_tupK (K := K) rfl) (pe_dget hu (pv 0) (pv 1) (fun _ _ => rfl)) pe_int (fun _ _ => rfl)) (pv 2) (fun _ _ => rfl)))
      (pss_cons (ps_set (i := 4) scClear.nd rfl (.inl rfl) (pe_lst pa_nil))
      (pss_cons (ps_if (pt_cmpR (op_neD hr.units) (pv 3) (pe_glob (v := .ref aO) (by rfl) gO rfl) (nomark _))
        (pss_one (ps_expr (pe_bm PySem.F.plainAttrs_list PySem.F.slot_list_append PySem.F.type_list_append mt_append (pv 4) (pa_cons (pe_tup (pa_cons pe_str (pa_cons (pv 1) (pa_cons (pc0 ov hr (by decide) (pa_cons (pe_glob (v := .ref aO) (by rfl) gO rfl) (pa_cons (pv 3) pa_nil))) pa_nil)))) pa_nil)))) pss_nil)
      (pss_cons (ps_lock (ps_for PassesOwn.never rfl (pi_keys (pv 0)) (pg_name (i := 5) scClear.nd rfl (.inl rfl))
        (pss_one (ps_if (PW.pt (pw_and (pt_cmpR op_ne (pv 5) (pv 1) (nomark _)) (pw_and1 (pt_cmp (pc_din hu (pv 2) (pe_ix (ix_tupK (K := K) rfl) (pe_dget hu (pv 0) (pv 5) (fun _ _ => rfl)) pe_int (fun _ _ => rfl)))))))
          (pss_one (ps_expr (pe_bm PySem.F.plainAttrs_list PySem.F.slot_list_append PySem.F.type_list_append mt_append (pv 4) (pa_cons (pe_tup (pa_cons pe_str (pa_cons (pv 5) (pa_cons (pv 1) (pa_cons (pc0 tm hr (by decide) (pa_cons (pe_dget hu (pe_ix (ix_tupK (K := K) rfl) (pe_dget hu (pv 0) (pv 5) (fun _ _ => rfl)) pe_int (fun _ _ => rfl)) (pv 2) (fun _ _ => rfl)) (pa_cons (pe_glob (v := .ref aM) (by rfl) gM rfl) pa_nil))) pa_nil))))) pa_nil)))) pss_nil))))
      (pss_one (ps_ret (pv 4)))))), ?_⟩
    obtain ⟨⟨ks0, n0, t0, d0, _⟩, _, ok0⟩ := hes e0 he0
    have v0 : valV (es.map fun e => ((Sum.inr e.x : Key), V.ref e.r)) (.inr e0.x) = some (.ref e0.r) := val_ent nd he0
    obtain ⟨rn, w1, w2⟩ : ∃ r, valV ks0 (.inr u) = some (.ref r) ∧ H r = some (.tup [.int (e0.R.f (.inr u)).1, .int (e0.R.f (.inr u)).2]) := by
      cases ev : valV ks0 (.inr u) with
      | none => exact absurd (by rw [d0.2.2.2.2 _ ev]) hu0
      | some v =>
        obtain ⟨r', rfl, f'⟩ := d0.get ev
        exact ⟨r', rfl, f'⟩
    refine ⟨_, rfl, _, rfl, D, _, rfl, .inl ⟨_, .inr e0.x, .inl hD, rfl, v0.symm⟩, ?_⟩
    refine ⟨e0.r, _, 0, _, rfl, rfl, SqT.of t0, atI_nat (j := 0) rfl, ?_⟩
    refine ⟨_, rfl, e0.a, _, rfl, .inl ⟨ks0, .inr u, .inl d0.1, rfl, w1.symm⟩, ?_⟩
    refine ⟨by show 0 ≤ sizeLine; exact Nat.zero_le _, fun L nL => ?_⟩
    have s0 := same_new (o := .lst []) nL
    have hL0 := upd_same (H := H) (a := L) (o := .lst [])
    generalize upd H L (.lst []) = H0 at s0 hL0
    have ek : look (es.map nr) e0.x = e0.R := nr_look nd he0
    refine' mid (C := _) (Inv := fun σ H' => ∃ us : List V, σ = [some (.ref D), some (.str e0.x), some (.str u), some (.ref rn), some (.ref L), none] ∧ (∀ b o, H b = some o → H' b = some o) ∧ H' L = some (.lst us) ∧ Paired (StpAt K H') us (clrX (es.map nr) e0.x u) ∧ us.length ≤ 1) (fun key => ?main) ?rest
    case main =>
      refine ⟨_, rfl, .tuple [.int (e0.R.f (.inr u)).1, .int (e0.R.f (.inr u)).2], .tuple [.int 1, .int 1], .tup (SqT.of (s0 _ _ w2)) (.cons (.int _) (.cons (.int _) .nil)), .tup (hO _).1 (.cons (.int _) (.cons (.int _) .nil)), rfl, rfl, _, rfl, ite2 (fun e => ?ya) (fun e => ?yb)⟩
      case yb =>
        have c : e0.R.f (.inr u) = (1, 1) := by
          rw [eqv_one] at e
          have e' : ((e0.R.f (.inr u)).1 == 1 && (e0.R.f (.inr u)).2 == 1) = true := by
            cases h : ((e0.R.f (.inr u)).1 == 1 && (e0.R.f (.inr u)).2 == 1) with
            | true => rfl
            | false => rw [h] at e; exact absurd rfl e
          rw [Bool.and_eq_true, beq_iff_eq, beq_iff_eq] at e'
          exact Prod.ext e'.1 e'.2
        dsimp only
        refine key _ _ ?_
        refine ⟨[], rfl, s0, hL0, ?_, Nat.zero_le _⟩
        unfold clrX
        rw [ek, if_pos c]
        exact .nil
      case ya =>
        have c : e0.R.f (.inr u) ≠ (1, 1) := fun c => by
          rw [eqv_one, c] at e
          exact absurd e (by decide)
        have on : SS.Okb 1400 (e0.R.f (.inr u)) := ok0.1 _
        refine ⟨.ref L, rfl, .inl ⟨rfl, _, SqL.of hL0⟩, _, rfl, _, rfl, 1, 1, (e0.R.f (.inr u)).1, (e0.R.f (.inr u)).2, two_of (A := (1, 1)) (B := e0.R.f (.inr u)) (hO _) (FrT.of (s0 _ _ w2)) (show SS.Okb 1 (1, 1) from ⟨by decide, by decide, by decide, by decide⟩) on (by decide) (by decide), hu0, fun H1 s1 r nr => ?_⟩
        refine ⟨(by show 3 ≤ sizeLine; decide), fun t nt => ?_⟩
        have s2 := same_new (o := .tup [.int (finv (e0.R.f (.inr u))).1, .int (finv (e0.R.f (.inr u))).2]) nr
        have s3 := same_new (o := .tup [.str (Str.ofString "times"), .str e0.x, .ref r]) nt
        have hL3 := s3 _ _ (s2 _ _ (s1 _ _ hL0))
        refine ⟨L, _, _, rfl, rfl, hL3, small1000 (by decide), ?_⟩
        refine key _ _ ?_
        have kp : ∀ b ys, (upd (upd H1 r (.tup [.int (finv (e0.R.f (.inr u))).1, .int (finv (e0.R.f (.inr u))).2])) t (.tup [.str (Str.ofString "times"), .str e0.x, .ref r])) b = some (.tup ys) → (upd (upd (upd H1 r (.tup [.int (finv (e0.R.f (.inr u))).1, .int (finv (e0.R.f (.inr u))).2])) t (.tup [.str (Str.ofString "times"), .str e0.x, .ref r])) L (.lst ([] ++ [.ref t]))) b = some (.tup ys) := fun b ys h => by
          rw [upd_ne (ne_of h hL3 (fun z => by cases z))]
          exact h
        refine ⟨[] ++ [.ref t], rfl, fun b o h => ?_, upd_same, ?_, by simp⟩
        · rw [upd_ne (ne_of_none h nL)]
          exact s3 _ _ (s2 _ _ (s1 _ _ (s0 _ _ h)))
        · unfold clrX
          rw [ek, if_neg c]
          exact .cons ⟨t, r, rfl, SqT.of (kp _ _ upd_same), FrT.of (kp _ _ (s3 _ _ upd_same))⟩ .nil
    case rest =>
      rintro σ H1 ⟨us, rfl, k1, hL1, pd1, l1⟩
      have hD1 := k1 _ _ hD
      have LD : L ≠ D := fun z => by rw [z, hD] at nL; cases nL
      refine ⟨D, _, hD1, trivial, fun od => ⟨_, rfl, D, od, rfl, .inl ⟨_, upd_same, ?_⟩⟩⟩
      refine ⟨fun i mm σ H' => ∃ (y5 : Option V) (us : List V), σ = [some (.ref D), some (.str e0.x), some (.str u), some (.ref rn), some (.ref L), y5] ∧ i + mm = es.length ∧ (∀ b o, b ≠ D → H b = some o → H' b = some o) ∧ H' D = some (.frz od (.dK (es.map fun e => (.inr e.x, V.ref e.r)))) ∧ H' L = some (.lst us) ∧
          Paired (StpAt K H') us (clrX (es.map nr) e0.x u ++ (((es.take i).map nr).filter (clrP e0.x u)).map (clrO e0.x u)) ∧ us.length ≤ i + 1,
        ⟨es.length, none, us, rfl, by omega, fun b o n h => by rw [upd_ne n]; exact k1 _ _ h, upd_same, by rw [upd_ne LD]; exact hL1, ?_, by omega⟩, fun i mm σ H3 hW => ?_⟩
      · rw [List.take_zero, List.map_nil, List.filter_nil, List.map_nil, List.append_nil]
        exact paired_mono (fun v t h => StpAt.kpT h (KpT.but hD1 (fun ys => ⟨by simp, by simp⟩) fun b o n e => by rw [upd_ne n]; exact e)) pd1
      obtain ⟨y5, us, rfl, em, kp, hb3, hL3, pd3, l3⟩ := hW
      by_cases hi : i < es.length
      · refine .inr ⟨⟨hb3, by rw [List.length_map]; exact hi⟩, fun σ' H' => ∃ (y5 : Option V) (us : List V), σ' = [some (.ref D), some (.str e0.x), some (.str u), some (.ref rn), some (.ref L), y5] ∧ (∀ b o, b ≠ D → H b = some o → H' b = some o) ∧ H' D = some (.frz od (.dK (es.map fun e => (.inr e.x, V.ref e.r)))) ∧ H' L = some (.lst us) ∧
          Paired (StpAt K H') us (clrX (es.map nr) e0.x u ++ (((es.take (i + 1)).map nr).filter (clrP e0.x u)).map (clrO e0.x u)) ∧ us.length ≤ i + 2, fun σ' H' hN' => ?_, fun x H' hy => ?_⟩
        · obtain ⟨a1, a2, r1, r2, r3, r4, r5, r6⟩ := hN'
          exact ⟨mm - 1, by omega, a1, a2, r1, by omega, r2, r3, r4, r5, by omega⟩
        · obtain ⟨rfl, key, v, hkv, rfl⟩ := hy
          rw [List.getElem?_map] at hkv
          obtain ⟨e, hei, hkv⟩ := Option.map_eq_some_iff.mp hkv
          obtain ⟨rfl, rfl⟩ := Prod.mk.inj hkv
          have hem := List.mem_of_getElem? hei
          obtain ⟨⟨ks, n, te, de, fe, se⟩, aD, oke⟩ := hes e hem
          have tk : es.take (i + 1) = es.take i ++ [e] := by
            rw [List.take_add_one, hei]
            rfl
          have teH := kp _ _ (ne_of te hD (fun z => by cases z)) te
          have eaH := kp _ _ aD de.1
          have skip : clrP e0.x u (nr e) = false → ((es.take (i + 1)).map nr).filter (clrP e0.x u) = ((es.take i).map nr).filter (clrP e0.x u) := fun c => by
            rw [tk, List.map_append, List.filter_append, List.map_cons, List.map_nil, List.filter_cons_of_neg (by rw [c]; simp), List.filter_nil, List.append_nil]
          refine ⟨_, rfl, _, rfl, rfl, _, rfl, ite2 (fun c1 => ?_) (fun c1 => ?_)⟩
          · have n1 : e.x ≠ e0.x := fun z => by
              rw [z] at c1
              simp [kV] at c1
            refine ⟨_, rfl, _, rfl, _, rfl, D, _, rfl, dgetE nd hb3 hem, e.r, _, 0, _, rfl, rfl, SqT.of teH, atI_nat (j := 0) rfl, e.a, valV ks (.inr u), rfl, DGet.k (k := .inr u) eaH, _, rfl, ite2 (fun c2 => ?_) (fun c2 => ?_)⟩
            · obtain ⟨v2, ev⟩ := Option.isSome_iff_exists.mp c2
              obtain ⟨r2, rfl, hr2⟩ := de.get ev
              have c3 : (e.R.f (.inr u)).1 ≠ 0 := by
                obtain ⟨p, hp, e3, e4⟩ := mem_valV ev
                have := (de.2.2.2.1 p hp).2.2 trivial
                rw [e3] at this
                exact this
              have hr2H := kp _ _ (ne_of hr2 hD (fun z => by cases z)) hr2
              refine ⟨.ref L, rfl, .inl ⟨rfl, _, SqL.of hL3⟩, _, rfl, _, rfl, _, rfl, _, rfl, D, _, rfl, dgetE nd hb3 hem, e.r, _, 0, _, rfl, rfl, SqT.of teH, atI_nat (j := 0) rfl, _, rfl, e.a, _, rfl, .inl ⟨ks, .inr u, .inl eaH, rfl, ev.symm⟩, ?_⟩
              refine ⟨(e.R.f (.inr u)).1, (e.R.f (.inr u)).2, -1, 1, two_of (A := e.R.f (.inr u)) (B := (-1, 1)) (FrT.of hr2H) (hM _) (oke.1 _) (show SS.Okb 1 (-1, 1) from ⟨by decide, by decide, by decide, by decide⟩) (by decide) (by decide), fun r nr1 => ?_⟩
              refine ⟨(by show 4 ≤ sizeLine; decide), fun t nt => ?_⟩
              have s2 := same_new (o := .tup [.int (fneg (e.R.f (.inr u))).1, .int (fneg (e.R.f (.inr u))).2]) nr1
              have s3 := same_new (o := .tup [.str (Str.ofString "add"), .str e.x, .str e0.x, .ref r]) nt
              have hL4 := s3 _ _ (s2 _ _ hL3)
              have s4 : KpT (upd (upd H' r (.tup [.int (fneg (e.R.f (.inr u))).1, .int (fneg (e.R.f (.inr u))).2])) t (.tup [.str (Str.ofString "add"), .str e.x, .str e0.x, .ref r])) (upd (upd (upd H' r (.tup [.int (fneg (e.R.f (.inr u))).1, .int (fneg (e.R.f (.inr u))).2])) t (.tup [.str (Str.ofString "add"), .str e.x, .str e0.x, .ref r])) L (.lst (us ++ [.ref t]))) :=
                KpT.but hL4 (fun ys => ⟨by simp, by simp⟩) fun b o n h => by rw [upd_ne n]; exact h
              refine ⟨L, _, _, rfl, rfl, hL4, small1000 (by omega), some (.str e.x), us ++ [.ref t], rfl, fun b o n h => ?_, ?_, upd_same, ?_, by rw [List.length_append]; exact Nat.succ_le_succ l3⟩
              · rw [upd_ne (ne_of_none h nL)]
                exact s3 _ _ (s2 _ _ (kp b o n h))
              · rw [upd_ne LD.symm]
                exact s3 _ _ (s2 _ _ hb3)
              · have cp : clrP e0.x u (nr e) = true := by
                  unfold clrP has
                  rw [Bool.and_eq_true]
                  exact ⟨decide_eq_true n1, decide_eq_true c3⟩
                rw [tk, List.map_append, List.filter_append, List.map_cons, List.map_nil, List.filter_cons_of_pos cp, List.filter_nil, List.map_append, ← List.append_assoc]
                refine paired_app (paired_mono (fun v t h => StpAt.kpT (StpAt.kpT h (fun b o _ q => s3 _ _ (s2 _ _ q))) s4) pd3) (.cons ⟨t, r, rfl, SqT.kpT (SqT.of upd_same) s4, FrT.kpT ((FrT.of upd_same).new s3) s4⟩ .nil)
            · refine ⟨some (.str e.x), us, rfl, kp, hb3, hL3, ?_, by omega⟩
              rw [skip ?_]
              · exact pd3
              · unfold clrP has
                rw [Bool.and_eq_false_iff]
                right
                refine decide_eq_false fun c3 => c2 ?_
                cases ev : valV ks (.inr u) with
                | none => exact absurd (by rw [show (nr e).2 = e.R from rfl, de.2.2.2.2 _ ev]) c3
                | some v2 => rfl
          · refine iteF ⟨some (.str e.x), us, rfl, kp, hb3, hL3, ?_, by omega⟩
            rw [skip ?_]
            · exact pd3
            · unfold clrP has
              rw [Bool.and_eq_false_iff]
              left
              refine decide_eq_false fun c3 => c1 ?_
              have c4 : e.x ≠ e0.x := c3
              simpa [kV] using c4
      · have ei : es.take i = es := List.take_of_length_le (by omega)
        rw [ei] at pd3
        refine .inl ⟨⟨hb3, by rw [List.length_map]; omega⟩, hb3, _, rfl, q _ L us ?_ ?_ nL ?_⟩
        · intro b o e
          by_cases z : b = D
          · subst z
            rw [upd_same, ← hD]
            exact e
          · rw [upd_ne z]
            exact kp b o z e
        · rw [upd_ne LD]
          exact hL3
        · exact paired_mono (fun v t h => StpAt.kpT h (KpT.but hb3 (fun ys => ⟨by simp, by simp⟩) fun b o n e => by rw [upd_ne n]; exact e)) pd3
end
end SS
namespace SS
open PySem PySem.Spec PyProof.Rows L2 NumText LamX KyS
section
variable {P : Program} {w : World} {K : PySem.W.Frag} {mg : Str → Option Value} {base : Heap}
theorem RowE.kpT {m : Nat} {H H' : Hp} {r a : Addr} {R : Rw} (h : RowE K m H r a R) (k : KpT H H') (ka : ∀ l, H a = some (.dK l) → H' a = some (.dK l)) : RowE K m H' r a R := by
  obtain ⟨kvs, q, h1, h2, h3, h4⟩ := h
  obtain ⟨d1, d2, d3, d4, d5⟩ := h2
  refine ⟨kvs, q, k _ _ ⟨_, .inl rfl⟩ h1, ⟨ka _ d1, d2, d3, fun p hp => ?_, d5⟩, FrT.kpT h3 k, h4⟩
  obtain ⟨e1, ⟨r', e2, e3⟩, e4⟩ := d4 p hp
  exact ⟨e1, ⟨r', e2, k _ _ ⟨_, .inl rfl⟩ e3⟩, e4⟩
theorem Cur.kpT {U : List Str} {H H1 H2 : Hp} {D : Addr} {es : List Ent} (c : Cur K U H H1 D es) (k : KpT H1 H2) (kd : ∀ b, b = D ∨ (∃ e ∈ es, e.a = b) → ∀ l, H1 b = some (.dK l) → H2 b = some (.dK l)) : Cur K U H H2 D es := by
  obtain ⟨⟨d1, d2, d3, d4⟩, c2, c3, c4, c5⟩ := c
  refine ⟨⟨kd D (.inl rfl) _ d1, fun e he => ?_, d3, d4⟩, c2, c3, c4, c5⟩
  obtain ⟨a1, a2, a3⟩ := d2 e he
  exact ⟨a1.kpT k (kd _ (.inr ⟨e, he, rfl⟩)), a2, a3⟩
/-- the state of the walk over the unknowns -/
structure StepsAt (K : PySem.W.Frag) (U : List Str) (H H1 H' : Hp) (D L Ld : Addr) (gs : List Ent) (us : List V) (ts : List Stp) (led : List Str) : Prop where
  cur : Cur K U H H' D gs
  told : H' L = some (.lst us)
  pd : Paired (StpAt K H') us ts
  ld : ∃ kvs, H' Ld = some (.dK kvs) ∧ (∀ x : Str, (valV kvs (.inr x)).isSome = decide (x ∈ led)) ∧ kvs.length ≤ led.length
  na : ∀ e ∈ gs, e.a ≠ Ld
  ne : Ld ≠ D
  kf : ∀ b o, b ≠ D → b ≠ L → b ≠ Ld → H1 b = some o → H' b = some o
/-- the list that is told gets one more -/
theorem StepsAt.told1 {U : List Str} {H H1 H' : Hp} {D L Ld : Addr} {gs : List Ent} {us : List V} {ts : List Stp} {led : List Str} {v : V} {t : Stp} (h : StepsAt K U H H1 H' D L Ld gs us ts led) (hv : StpAt K H' v t) : StepsAt K U H H1 (upd H' L (.lst (us ++ [v]))) D L Ld gs (us ++ [v]) (ts ++ [t]) led := by
  have k : KpT H' (upd H' L (.lst (us ++ [v]))) := KpT.but h.told (fun ys => ⟨by simp, by simp⟩) fun b o n e => by rw [upd_ne n]; exact e
  have kd : ∀ b l, H' b = some (.dK l) → (upd H' L (.lst (us ++ [v]))) b = some (.dK l) := fun b l e => by
    rw [upd_ne (ne_of e h.told (fun z => by cases z))]
    exact e
  refine ⟨h.cur.kpT k fun b _ l e => kd b l e, upd_same, ?_, ?_, h.na, h.ne, fun b o n1 n2 n3 e => by rw [upd_ne n2]; exact h.kf b o n1 n2 n3 e⟩
  · exact paired_snoc (paired_mono (fun v t h => StpAt.kpT h k) h.pd) (hv.kpT k)
  · obtain ⟨kvs, e, z⟩ := h.ld
    exact ⟨kvs, kd _ _ e, z⟩
/-- one more leads -/
theorem StepsAt.lead1 {U : List Str} {H H1 H' : Hp} {D L Ld : Addr} {gs : List Ent} {us : List V} {ts : List Stp} {led : List Str} {x : Str} {kvs : List (Key × V)} (h : StepsAt K U H H1 H' D L Ld gs us ts led) (hk : H' Ld = some (.dK kvs)) : StepsAt K U H H1 (upd H' Ld (.dK (putK kvs (.inr x) (.bl true)))) D L Ld gs us ts (x :: led) := by
  have k : KpT H' (upd H' Ld (.dK (putK kvs (.inr x) (.bl true)))) := KpT.but hk (fun ys => ⟨by simp, by simp⟩) fun b o n e => by rw [upd_ne n]; exact e
  obtain ⟨kvs', e, z1, z2⟩ := h.ld
  rw [hk] at e
  obtain rfl := HO.dK.inj (Option.some.inj e)
  refine ⟨h.cur.kpT k fun b c l e => ?_, ?_, paired_mono (fun v t h => StpAt.kpT h k) h.pd, ⟨_, upd_same, fun y => ?_, ?_⟩, h.na, h.ne, fun b o n1 n2 n3 e => by rw [upd_ne n3]; exact h.kf b o n1 n2 n3 e⟩
  · rw [upd_ne]
    · exact e
    · rcases c with rfl | ⟨g, hg, rfl⟩
      · exact h.ne.symm
      · exact h.na g hg
  · rw [upd_ne (ne_of h.told hk (fun z => by cases z))]
    exact h.told
  · rw [valV_put]
    by_cases c : y = x
    · subst c
      rw [if_pos rfl]
      simp
    · rw [if_neg (fun z => c (Sum.inr.inj z)), z1 y]
      simp [c]
  · refine Nat.le_trans (length_putK ..) ?_
    rw [List.length_cons]
    omega
/-- heaps that only grow -/
theorem StepsAt.same {U : List Str} {H H1 H' H2 : Hp} {D L Ld : Addr} {gs : List Ent} {us : List V} {ts : List Stp} {led : List Str} (h : StepsAt K U H H1 H' D L Ld gs us ts led) (s : Same H' H2) : StepsAt K U H H1 H2 D L Ld gs us ts led := by
  have k : KpT H' H2 := fun b o _ e => s _ _ e
  obtain ⟨kvs, e, z⟩ := h.ld
  exact ⟨h.cur.kpT k fun b _ l e => s _ _ e, s _ _ h.told, paired_mono (fun v t h => StpAt.kpT h k) h.pd, ⟨kvs, s _ _ e, z⟩, h.na, h.ne, fun b o n1 n2 n3 e => s _ _ (h.kf b o n1 n2 n3 e)⟩
/-- a step done -/
theorem StepsAt.step {U : List Str} {H H1 H' H2 : Hp} {D L Ld : Addr} {gs : List Ent} {us : List V} {ts : List Stp} {led : List Str} {t : Stp} {e e2 : Ent} {r' a' : Addr} (h : StepsAt K U H H1 H' D L Ld gs us ts led) (he : e ∈ gs) (he2 : e2 ∈ gs) (hx : e.x = t.nm) (hx2 : e2.x = t.nm2) (s : Same H' H2) (hr : H' r' = none) (ha : H' a' = none) (x01 : ExtN H H')
    (row : RowE K (U.length + U.length) H2 r' a' (e.R.step e2.R t)) (ok : (e.R.step e2.R t).Okb 1400) (iu : (e.R.step e2.R t).In U) :
    StepsAt K U H H1 (upd H2 D (.dK (putK (gs.map fun e => (.inr e.x, V.ref e.r)) (.inr t.nm) (.ref r')))) D L Ld (repl gs t.nm (e.R.step e2.R t) r' a') us ts led ∧ (repl gs t.nm (e.R.step e2.R t) r' a').map nr = stepM (gs.map nr) t := by
  obtain ⟨c1, c2⟩ := h.cur.step he he2 hx hx2 s hr ha x01 row ok iu
  have hD := s _ _ h.cur.d.1
  have k : KpT H2 (upd H2 D (.dK (putK (gs.map fun e => (.inr e.x, V.ref e.r)) (.inr t.nm) (.ref r')))) := KpT.but hD (fun ys => ⟨by simp, by simp⟩) fun b o n e => by rw [upd_ne n]; exact e
  obtain ⟨kvs, el, z⟩ := h.ld
  refine ⟨⟨c1, ?_, paired_mono (fun v t h => StpAt.kpT (StpAt.kpT h (fun b o _ e => s _ _ e)) k) h.pd, ⟨kvs, by rw [upd_ne h.ne]; exact s _ _ el, z⟩, fun g hg => ?_, h.ne, fun b o n1 n2 n3 e => by rw [upd_ne n1]; exact s _ _ (h.kf b o n1 n2 n3 e)⟩, c2⟩
  · rw [upd_ne (ne_of (s _ _ h.told) hD (fun z => by cases z))]
    exact s _ _ h.told
  · obtain ⟨q, hq, eq⟩ := List.mem_map.mp hg
    by_cases z : q.x = t.nm
    · rw [if_pos z] at eq
      rw [← eq]
      exact fun y => by
        have y' : a' = Ld := y
        rw [y', el] at ha
        cases ha
    · rw [if_neg z] at eq
      rw [← eq]
      exact h.na q hq
end
end SS
namespace SS
open PySem PySem.Spec PyProof.Rows L2 NumText LamX KyS
section
variable {P : Program} {w : World} {K : PySem.W.Frag} {mg : Str → Option Value} {base : Heap}
theorem tabs_nol {T : List (Addr × Str)} {H H' : Hp} (t : LamX.Tabs T H) (k : NoL H H') : LamX.Tabs T H' := by
  intro p hp
  obtain ⟨ps, a1, a2, a3⟩ := t p hp
  refine ⟨ps, k _ _ (fun ys => by simp) a1, a2, fun pos cv hcv => ?_⟩
  obtain ⟨c0, e1, e2⟩ := a3 pos cv hcv
  exact ⟨c0, e1, k _ _ (fun ys => by unfold CodeO; simp) e2⟩
theorem tabs_dk {T : List (Addr × Str)} {H : Hp} {D : Addr} {l : List (Key × V)} {o : HO} (t : LamX.Tabs T H) (hD : H D = some (.dK l)) : LamX.Tabs T (upd H D o) := by
  intro p hp
  obtain ⟨ps, a1, a2, a3⟩ := t p hp
  refine ⟨ps, by rw [upd_ne (ne_of a1 hD (fun z => by cases z))]; exact a1, a2, fun pos cv hcv => ?_⟩
  obtain ⟨c0, e1, e2⟩ := a3 pos cv hcv
  exact ⟨c0, e1, by rw [upd_ne (ne_of e2 hD (fun z => by unfold CodeO at z; cases z))]; exact e2⟩
theorem filt_find {gs : List Ent} {led : List Str} {y : Str} : pick led (gs.map nr) y = ((gs.filter fun e => !decide (e.x ∈ led) && has y (nr e)).head?).map nr := by
  unfold pick
  rw [List.head?_filter, List.find?_map]
  rfl
theorem fold_nm (l : List Stp) : ∀ L : List Nm, (l.foldl stepM L).map (·.1) = L.map (·.1) := by
  induction l with
  | nil => intro L; rfl
  | cons t l ih =>
    intro L
    rw [List.foldl_cons, ih, stepM_names]
theorem elim_none {u : Str} {us led : List Str} {L : List Nm} (h : pick led L u = none) : elim (u :: us) led L = elim us led L := by
  show (match pick led L u with | none => _ | some q => _) = _
  rw [h]
theorem elim_some {u : Str} {us led : List Str} {L : List Nm} {q : Nm} (h : pick led L u = some q) : (elim (u :: us) led L).1 = clrs L q.1 u ++ (elim us (q.1 :: led) (piv L q.1 u)).1 := by
  show (match pick led L u with | none => _ | some q => _ : List Stp × List Nm).1 = _
  rw [h]
theorem clrs_len (L : List Nm) (x u : Str) : (clrs L x u).length ≤ 1 + L.length := by
  unfold clrs
  rw [List.length_append, List.length_map]
  have q1 := List.length_filter_le (fun q : Nm => decide (q.1 ≠ x) && has u q) L
  have q2 : (clrX L x u).length ≤ 1 := by
    unfold clrX
    split
    · exact Nat.zero_le _
    · exact Nat.le_refl _
  omega
/-! ### steps_of -/
def spStepsOf (K : PySem.W.Frag) (T : List (Addr × Str)) : Sp := fun vs H Q _ => ∃ (a : Addr) (zs : List Ent) (U : List Str) (n : Nat), vs = [.ref a] ∧ SqA K H a (zs.map fun z => V.ref z.t) ∧ (∀ z ∈ zs, EntOk K U.length H z) ∧ (zs.map (·.x)).Nodup ∧ zs.length ≤ 60 ∧ U.length ≤ 20 ∧ U.Nodup ∧ LamX.Tabs T H ∧
  (∀ z ∈ zs, isR z = true → z.R.In U ∧ RB n z.R) ∧ bd n U.length < 1399 ∧
  ∀ (H' : Hp) (l : Addr) (us : List V) (L0 : List Nm) (ys : List Str), ExtN H H' → LamX.Tabs T H' → L0.Perm ((zs.map nr).filter isN) → (L0.map (·.1)).Pairwise leS → ys.Nodup → ys.Pairwise leS → (∀ y, y ∈ ys ↔ ∃ q ∈ L0, (q.2.f (.inr y)).1 ≠ 0) → H' l = some (.lst us) → Paired (StpAt K H') us (elim ys [] L0).1 → Fr0 H l → Q (.ref l) H'
theorem scStepsOf : FnScope ["rows", "equals", "told", "leading", "unknowns", "unknown", "able", "name", "clearing", "step"] ["rows"] (defScope sStepsOf) := ⟨rfl, rfl, rfl, by decide +kernel, rfl, by decide +kernel, by decide +kernel⟩
theorem ok_stepsof {f : Addr} {fd : FuncData} {T : List (Addr × Str)} (F : Fun K "steps_of" "steps_of" sStepsOf f fd) (eb : Cl P w K mg base CX0 5 "equals_by_name" (spEbn K T) []) (un : Cl P w K mg base CX0 1 "unknowns_of" (spUnkX K) []) (cs : Cl P w K mg base CX0 5 "clearing_steps" (spClear K) []) (rb : Cl P w K mg base CX0 6 "row_behind" (spRowBehind K) []) :
    FnOk P w K mg base CX0 7 f fd ["rows"] (spStepsOf K T) := by
  refine F.ok scStepsOf (fun vs H Q E h => ?_) (fun cdv A outer s H vs Q E hr h => ?_)
  · obtain ⟨_, _, _, _, rfl, _⟩ := h
    rfl
  · obtain ⟨a, zs, U, n, rfl, hS, hz, nd, hl, hU, ndU, ht, hrb, hbd, q⟩ := h
    have hu := hu_of hr
    refine ⟨_, pss_cons (ps_set (i := 1) scStepsOf.nd rfl (.inr rfl) (pc0 eb hr (by decide) (pa_cons (pv 0) pa_nil)))
      (pss_cons (ps_set (i := 2) scStepsOf.nd rfl (.inl rfl) (pe_lst pa_nil))
      (pss_cons (ps_set (i := 3) scStepsOf.nd rfl (.inr rfl) pe_dnewK)
      (pss_cons (ps_set (i := 4) scStepsOf.nd rfl (.inl rfl) (pc0 un hr (by decide) (pa_cons (pv 1) pa_nil)))
      (pss_cons (ps_for PassesOwn.never rfl (pi_list (pv 4)) (pg_name (i := 5) scStepsOf.nd rfl (.inr rfl))
        (pss_cons (ps_lock (ps_setLc (i := 6) (own := [("name", 7)]) (g := gName 7) rfl scStepsOf.nd rfl rfl (sw_true rfl rfl rfl (by rfl)) (pi_keys (pv 1)) (blkOk_by (by rfl))
            (fun _ _ _ _ _ => pg_name (i := 7) scStepsOf.nd rfl (Or.inl rfl)) (fun _ _ _ _ _ => pts_one (PW.pt (pw_and (pt_cmp (pc_dnotin hu (pv 7) (pv 3))) (pw_and1 (pt_cmp (pc_din hu (pv 5) (pe_ix (ix_tupK (K := K) rfl) (pe_dget hu (pv 1) (pv 7) (fun _ _ => rfl)) pe_int (fun _ _ => rfl)))))))) (fun _ _ _ _ _ => pv 7)))
        (pss_one (ps_if (pt_truth (pv 6) (by intro _; rfl))
          (pss_cons (ps_dput hu (pv 3) (pe_ix ix_list (pv 6) pe_int (fun _ _ => rfl)) pe_bl rfl)
          (pss_cons (ps_set (i := 8) scStepsOf.nd rfl (.inl rfl) (pc0 cs hr (by decide) (pa_cons (pv 1) (pa_cons (pe_ix ix_list (pv 6) pe_int (fun _ _ => rfl)) (pa_cons (pv 5) pa_nil)))))
          (pss_one (ps_for PassesOwn.never rfl (pi_list (pv 8)) (pg_name (i := 9) scStepsOf.nd rfl (.inl rfl))
            (pss_cons (ps_dput hu (pv 1) (pe_ix (ix_tupK (K := K) rfl) (pv 9) pe_int (fun _ _ => rfl)) (pc0 rb hr (by decide) (pa_cons (pv 1) (pa_cons (pv 9) pa_nil))) rfl)
            (pss_one (ps_expr (pe_bm PySem.F.plainAttrs_list PySem.F.slot_list_append PySem.F.type_list_append mt_append (pv 2) (pa_cons (pv 9) pa_nil)))))))))
          pss_nil))))
      (pss_one (ps_ret (pv 2))))))), ?_⟩
    refine ⟨_, rfl, a, zs, U.length, rfl, hS, hz, nd, by omega, by omega, ht, fun H1 D es e1 T1 N1 pm srt => ?_⟩
    have Ldd : ∀ e ∈ es, e.R.In U ∧ RB n e.R := fun e he => by
      have m1 := pm.mem_iff.mp (List.mem_map.mpr ⟨e, he, rfl⟩)
      obtain ⟨z, hz1, ez⟩ := List.mem_map.mp m1
      obtain ⟨z1, z2⟩ := List.mem_filter.mp hz1
      have := hrb z z1 z2
      have er : z.R = e.R := congrArg Prod.snd ez
      rw [er] at this
      exact this
    have nde : (es.map (·.x)).Nodup := by
      have q1 := pm.map Prod.fst
      rw [List.map_map, List.map_map] at q1
      exact q1.nodup_iff.mpr (nd.sublist ((List.filter_sublist).map _))
    have lle : es.length ≤ 60 := by
      have z := pm.length_eq
      have z2 := List.length_filter_le isR zs
      rw [List.length_map, List.length_map] at z
      omega
    have n0 : n < 1399 := Nat.lt_of_le_of_lt (bd_le _ _) hbd
    refine ⟨by show 0 ≤ sizeLine; exact Nat.zero_le _, fun L nL => ?_⟩
    have s0 := same_new (o := .lst []) nL
    have hL0 := upd_same (H := H1) (a := L) (o := .lst [])
    refine fun Ld nLd => ?_
    have s1 := same_new (o := .dK []) nLd
    have hLd0 := upd_same (H := upd H1 L (.lst [])) (a := Ld) (o := .dK [])
    have S01 := s0.trans s1
    have hL1 := s1 _ _ hL0
    generalize upd (upd H1 L (.lst [])) Ld (.dK []) = H2 at s1 hLd0 S01 hL1
    refine ⟨_, rfl, D, es, U.length, U, rfl, S01 _ _ N1.1, nde, fun e he => ⟨(N1.2.1 e he).1.extN (ExtN.same S01), (Ldd e he).1⟩, by omega, fun H3 Ul ys s3 hUl nUl ndy srty memy => ?_⟩
    have S3 := S01.trans s3
    have x03 : ExtN H H3 := fun b o eb nt => S3 _ _ (e1 _ _ eb nt)
    have DL : D ≠ L := ne_of_none N1.1 nL
    have LLd : L ≠ Ld := ne_of_none hL0 nLd
    have DLd : D ≠ Ld := ne_of_none (s0 _ _ N1.1) nLd
    have UlD : Ul ≠ D := fun z => by rw [z, S01 _ _ N1.1] at nUl; cases nUl
    have UlL : Ul ≠ L := fun z => by rw [z, hL1] at nUl; cases nUl
    have UlLd : Ul ≠ Ld := fun z => by rw [z, hLd0] at nUl; cases nUl
    have yl : ys.length ≤ U.length := sub_len ndy fun y hy => by
      obtain ⟨e, he, c⟩ := (memy y).mp hy
      obtain ⟨z, hz1, e2⟩ := List.mem_map.mp ((Ldd e he).1 _ c)
      obtain rfl := Sum.inr.inj e2
      exact hz1
    have bdm : ∀ (j k m : Nat), j ≤ k → bd m j ≤ bd m k := fun j k => by
      induction k generalizing j with
      | zero =>
        intro m h
        rw [show j = 0 by omega]
        exact Nat.le_refl _
      | succ k ih =>
        intro m h
        cases j with
        | zero => exact bd_le _ _
        | succ j => exact ih j _ (by omega)
    have c0 : Cur K U H H3 D es := by
      obtain ⟨n1, n2, n3, n4⟩ := N1
      exact ⟨⟨S3 _ _ n1, fun e he => ⟨(n2 e he).1.extN (ExtN.same S3), (n2 e he).2⟩, n3, n4⟩, nde, by omega, fun e he => (Ldd e he).1, fun e he => (Ldd e he).2.okb (by omega)⟩
    refine ⟨_, rfl, Ul, rfl, ⟨_, SqL.of hUl⟩, ?_⟩
    refine for_list (K := K) (a := Ul) (xs := ys.map V.str) (fun i σ H' => ∃ (y5 y6 y7 y8 y9 : Option V) (gs : List Ent) (us : List V) (ts : List Stp) (led : List Str) (m : Nat), σ = [some (.ref a), some (.ref D), some (.ref L), some (.ref Ld), some (.ref Ul), y5, y6, y7, y8, y9] ∧
        StepsAt K U H H3 H' D L Ld gs us ts led ∧ (elim ys [] (es.map nr)).1 = ts ++ (elim (ys.drop i) led (gs.map nr)).1 ∧ (∀ q ∈ gs.map nr, q.2.In U ∧ RB m q.2) ∧ bd m (ys.length - i) < 1399 ∧ led.length ≤ i ∧ us.length ≤ 61 * i ∧ LamX.Tabs T H' ∧ gs.length ≤ 60)
      ⟨none, none, none, none, none, es, [], [], [], n, rfl, ⟨c0, s3 _ _ hL1, .nil, ⟨[], s3 _ _ hLd0, fun x => by simp [valV], Nat.le_refl _⟩, fun e he z => ?_, DLd.symm, fun b o _ _ _ e => e⟩, rfl, fun q hq => ?_, Nat.lt_of_le_of_lt (bdm _ _ _ (by omega)) hbd, Nat.le_refl _, Nat.zero_le _, T1.ext S3, lle⟩ ?_ ?_ ?_
    · obtain ⟨⟨ks, n5, r1, r2, _⟩, _⟩ := N1.2.1 e he
      have := s0 _ _ r2.1
      rw [z, nLd] at this
      cases this
    · obtain ⟨e, he, rfl⟩ := List.mem_map.mp hq
      exact Ldd e he
    · rintro i σ H' _ ⟨y5, y6, y7, y8, y9, gs, us, ts, led, m, rfl, st, _⟩
      exact SqL.of (st.kf _ _ UlD UlL UlLd hUl)
    · rintro i v σ H' hv ⟨y5, y6, y7, y8, y9, gs, us, ts, led, m, rfl, st, ee, hrq, hbm, hled, hus, tb, lgs⟩
      rw [List.getElem?_map] at hv
      obtain ⟨y, hy, rfl⟩ := Option.map_eq_some_iff.mp hv
      have hi : i < ys.length := (List.getElem?_eq_some_iff.mp hy).1
      have edr : ys.drop i = y :: ys.drop (i + 1) := by
        rw [List.drop_eq_getElem_cons hi]
        congr 1
        exact Option.some.inj (by rw [← List.getElem?_eq_getElem hi]; exact hy)
      rw [edr] at ee
      have hD := st.cur.d.1
      obtain ⟨kl, hLd, hkl, lkl⟩ := st.ld
      refine ⟨D, _, hD, trivial, fun od => ?_⟩
      refine ⟨_, rfl, D, od, rfl, .inl ⟨_, upd_same, fun A nA => ?_⟩⟩
      have kl0 : ∀ b o, b ≠ D → H' b = some o → (upd H' D (.frz od (.dK (gs.map fun e => (.inr e.x, V.ref e.r))))) b = some o := fun b o n e => by
        rw [upd_ne n]
        exact e
      have hDl := upd_same (H := H') (a := D) (o := .frz od (.dK (gs.map fun e => (.inr e.x, V.ref e.r))))
      generalize eHl : upd H' D (.frz od (.dK (gs.map fun e => (.inr e.x, V.ref e.r)))) = Hl at nA kl0 hDl
      refine by_walk walk_keys (fun i H' => H' A = some (.lst (((gs.take i).filter fun e => !decide (e.x ∈ led) && has y (nr e)).map fun e => V.str e.x)) ∧ ∀ b o, Hl b = some o → H' b = some o) ⟨upd_same, fun b o e => by rw [upd_ne (ne_of_none e nA)]; exact e⟩
        (fun i H' _ ⟨_, kp⟩ => kp _ _ hDl) ?_ ?_
      · rintro i x H5 H5' hi ⟨hA, kp⟩ ⟨rfl, k0, v0, hk0, rfl⟩
        refine ⟨rfl, ?_⟩
        rw [List.getElem?_map] at hk0
        obtain ⟨e, hei, hk0⟩ := Option.map_eq_some_iff.mp hk0
        obtain ⟨rfl, rfl⟩ := Prod.mk.inj hk0
        have hem := List.mem_of_getElem? hei
        obtain ⟨⟨ks, n9, te, de, _⟩, _, aD⟩ := st.cur.d.2.1 e hem
        have teH := kp _ _ (kl0 _ _ (ne_of te hD (fun z => by cases z)) te)
        have eaH := kp _ _ (kl0 _ _ aD de.1)
        have tk : gs.take (i + 1) = gs.take i ++ [e] := by
          rw [List.take_add_one, hei]
          rfl
        have skip : (!decide (e.x ∈ led) && has y (nr e)) = false → ((gs.take (i + 1)).filter fun e => !decide (e.x ∈ led) && has y (nr e)) = (gs.take i).filter fun e => !decide (e.x ∈ led) && has y (nr e) := fun c => by
          rw [tk, List.filter_append, List.filter_cons_of_neg (by rw [c]; simp), List.filter_nil, List.append_nil]
        refine ⟨_, rfl, _, rfl, Ld, valV kl (.inr e.x), rfl, DGet.k (k := .inr e.x) (kp _ _ (kl0 _ _ st.ne hLd)), _, rfl, ite2 (fun c1 => ?_) (fun c1 => ?_)⟩
        · have n1 : e.x ∉ led := fun z => by
            rw [hkl e.x, decide_eq_true z] at c1
            cases c1
          refine ⟨_, rfl, _, rfl, _, rfl, D, _, rfl, dgetE st.cur.nd (kp _ _ hDl) hem, e.r, _, 0, _, rfl, rfl, SqT.of teH, atI_nat (j := 0) rfl, e.a, valV ks (.inr y), rfl, DGet.k (k := .inr y) eaH, _, rfl, ite2 (fun c2 => ?_) (fun c2 => ?_)⟩
          · have c3 : has y (nr e) = true := by
              obtain ⟨v2, ev⟩ := Option.isSome_iff_exists.mp c2
              obtain ⟨p, hp, e3, e4⟩ := mem_valV ev
              have := (de.2.2.2.1 p hp).2.2 trivial
              rw [e3] at this
              exact decide_eq_true this
            have cp : (!decide (e.x ∈ led) && has y (nr e)) = true := by
              rw [c3, decide_eq_false n1]
              rfl
            refine ⟨_, rfl, _, hA, small1000 (by
              rw [List.length_map]
              have q1 := List.length_filter_le (fun e => !decide (e.x ∈ led) && has y (nr e)) (gs.take i)
              rw [List.length_take] at q1
              have := st.cur.ln
              omega), ?_, fun b o eb => by rw [upd_ne (ne_of_none eb nA)]; exact kp b o eb⟩
            rw [upd_same, tk, List.filter_append, List.filter_cons_of_pos (p := fun e : Ent => !decide (e.x ∈ led) && has y (nr e)) cp, List.filter_nil, List.map_append]
            rfl
          · refine ⟨?_, kp⟩
            rw [skip ?_]
            · exact hA
            · rw [Bool.and_eq_false_iff]
              right
              refine decide_eq_false fun c3 => c2 ?_
              cases ev : valV ks (.inr y) with
              | none => exact absurd (by rw [show (nr e).2 = e.R from rfl, de.2.2.2.2 _ ev]) c3
              | some v2 => rfl
        · refine iteF ⟨?_, kp⟩
          rw [skip ?_]
          · exact hA
          · have z : e.x ∈ led := Classical.byContradiction fun z => c1 (by rw [hkl e.x, decide_eq_false z]; rfl)
            rw [decide_eq_true z]
            rfl
      · rintro H5 ⟨hA, kp⟩
        rw [List.length_map, List.take_length] at hA
        refine ⟨kp _ _ hDl, ?_⟩
        have AD : A ≠ D := fun z => by rw [z, hDl] at nA; cases nA
        have S6 : Same H' (upd H5 D (.dK (gs.map fun e => (.inr e.x, V.ref e.r)))) := fun b o e => by
          by_cases z : b = D
          · subst z
            rw [upd_same, ← hD]
            exact e
          · rw [upd_ne z]
            exact kp _ _ (kl0 b o z e)
        have hA6 : (upd H5 D (.dK (gs.map fun e => (.inr e.x, V.ref e.r)))) A = some (.lst ((gs.filter fun e => !decide (e.x ∈ led) && has y (nr e)).map fun e => V.str e.x)) := by
          rw [upd_ne AD]
          exact hA
        generalize upd H5 D (.dK (gs.map fun e => (.inr e.x, V.ref e.r))) = H6 at S6 hA6
        have st6 := st.same S6
        have tb6 := tb.ext S6
        have nA' : H' A = none := by
          cases c : H' A with
          | none => rfl
          | some o =>
            have := kl0 _ _ AD c
            rw [nA] at this
            cases this
        clear hA kp hDl kl0 eHl nA Hl
        have tb7 := tb6
        have bDLL : ∀ b o, H b = some o → (∀ ps, o ≠ .tbl ps) → b ≠ D ∧ b ≠ L ∧ b ≠ Ld := fun b o e nt =>
          ⟨N1.2.2.2.ne e nt, ne_of_none (e1 _ _ e nt) nL, ne_of_none (s0 _ _ (e1 _ _ e nt)) nLd⟩
        cases eF : gs.filter fun e => !decide (e.x ∈ led) && has y (nr e) with
        | nil =>
          have pk : pick led (gs.map nr) y = none := by rw [filt_find, eF]; rfl
          refine ⟨_, rfl, false, .inl ⟨_, SqL.of hA6, by rw [eF]; rfl⟩, iteF ?_⟩
          rw [elim_none pk] at ee
          refine ⟨_, _, _, _, _, gs, us, ts, led, m, rfl, st6, ee, hrq, Nat.lt_of_le_of_lt (bdm _ _ _ (by omega)) hbm, by omega, by omega, tb6, lgs⟩
        | cons e0 rest =>
          have pk : pick led (gs.map nr) y = some (nr e0) := by rw [filt_find, eF]; rfl
          rw [eF] at hA6
          have pm0 := pick_mem pk
          have me0 : e0 ∈ gs := by
            have z : e0 ∈ gs.filter fun e => !decide (e.x ∈ led) && has y (nr e) := by rw [eF]; exact List.mem_cons_self ..
            exact (List.mem_filter.mp z).1
          refine ⟨_, rfl, true, .inl ⟨_, SqL.of hA6, rfl⟩, iteT ?_⟩
          have hLd6 := S6 _ _ hLd
          have ALd : A ≠ Ld := fun z => by rw [z, hLd] at nA'; cases nA'
          refine ⟨_, rfl, _, rfl, A, _, 0, _, rfl, rfl, SqL.of hA6, atI_nat (j := 0) rfl, Ld, _, rfl, DPut.k (k := .inr e0.x) hLd6 (small1000 (by omega)), ?_⟩
          rw [elim_some pk] at ee
          have hu0 : ((look (gs.map nr) e0.x).f (.inr y)).1 ≠ 0 := by rw [nr_look st.cur.nd me0]; exact pm0.2.2
          have ndg : ((gs.map nr).map (·.1)).Nodup := by
            rw [List.map_map]
            exact st.cur.nd
          have mx0 : e0.x ∈ (gs.map nr).map (·.1) := List.mem_map.mpr ⟨nr e0, List.mem_map.mpr ⟨e0, me0, rfl⟩, rfl⟩
          have hm1 : ys.length - i = (ys.length - (i + 1)) + 1 := by omega
          have hb2 : bd (2 * m + 1) (ys.length - (i + 1)) < 1399 := by
            rw [hm1] at hbm
            exact hbm
          have m2 : 2 * m + 1 < 1399 := Nat.lt_of_le_of_lt (bd_le _ _) hb2
          have st7 := st6.lead1 (x := e0.x) hLd6
          have hA7 : (upd H6 Ld (.dK (putK kl (.inr e0.x) (.bl true)))) A = some (.lst ((e0 :: rest).map fun e => V.str e.x)) := by
            rw [upd_ne ALd]
            exact hA6
          have tb7 := tabs_dk (o := .dK (putK kl (.inr e0.x) (.bl true))) tb6 hLd6
          generalize upd H6 Ld (.dK (putK kl (.inr e0.x) (.bl true))) = H7 at st7 hA7 tb7
          refine ⟨_, rfl, _, rfl, A, _, 0, _, rfl, rfl, SqL.of hA7, atI_nat (j := 0) rfl, _, rfl, D, gs, e0.x, y, U.length, rfl, st7.cur.d.1, st7.cur.nd, st7.cur.ln, fun e he => ⟨(st7.cur.d.2.1 e he).1, (st7.cur.d.2.1 e he).2.2, st7.cur.ok e he⟩, ⟨e0, me0, rfl, pm0.2.2⟩, fun H8 l us2 s8 hl8 nl8 pd8 => ?_⟩
          have st8 := st7.same s8
          have tb8 := tb7.ext s8
          have l2 : us2.length ≤ 1 + gs.length := by
            have q1 := Paired.length pd8
            have q2 := clrs_len (gs.map nr) e0.x y
            rw [List.length_map] at q2
            omega
          have lD : l ≠ D := fun z => by rw [z, st7.cur.d.1] at nl8; cases nl8
          have lL : l ≠ L := fun z => by rw [z, st7.told] at nl8; cases nl8
          have lLd : l ≠ Ld := fun z => by
            obtain ⟨kk, e9, _⟩ := st7.ld
            rw [z, e9] at nl8
            cases nl8
          refine ⟨_, rfl, l, rfl, ⟨_, SqL.of hl8⟩, ?_⟩
          refine for_list (K := K) (a := l) (xs := us2) (fun j σ H9 => ∃ (y7 y9 : Option V) (gs' : List Ent), σ = [some (.ref a), some (.ref D), some (.ref L), some (.ref Ld), some (.ref Ul), some (.str y), some (.ref A), y7, some (.ref l), y9] ∧
              StepsAt K U H H8 H9 D L Ld gs' (us ++ us2.take j) (ts ++ (clrs (gs.map nr) e0.x y).take j) (e0.x :: led) ∧ gs'.map nr = ((clrs (gs.map nr) e0.x y).take j).foldl stepM (gs.map nr) ∧ LamX.Tabs T H9)
            ⟨_, _, gs, rfl, ?_, rfl, tb8⟩ ?_ ?_ ?_
          · obtain ⟨a1, a2, a3, a4, a5, a6, a7⟩ := st8
            rw [List.take_zero, List.take_zero, List.append_nil, List.append_nil]
            exact ⟨a1, a2, a3, a4, a5, a6, fun b o _ _ _ e => e⟩
          · rintro j σ H9 _ ⟨y7, y9, gs', rfl, st9, _, _⟩
            exact SqL.of (st9.kf _ _ lD lL lLd hl8)
          · rintro j v σ H9 hv ⟨y7, y9, gs', rfl, st9, eg, tb9⟩
            have x09 : ExtN H H9 := fun b o e nt => by
              obtain ⟨d1, d2, d3⟩ := bDLL b o e nt
              exact st9.kf b o d1 d2 d3 (st8.kf b o d1 d2 d3 (x03 b o e nt))
            obtain ⟨t, hti, hst'⟩ := (paired_get pd8).2 j v hv
            have kt : KpT H8 H9 := fun b o c e => by
              obtain ⟨kk, ek, _⟩ := st8.ld
              refine st9.kf b o (fun z => ?_) (fun z => ?_) (fun z => ?_) e
              · rw [z, st8.cur.d.1] at e
                obtain ⟨ys', c | ⟨u', c⟩⟩ := c
                · rw [c] at e; cases e
                · rw [c] at e; cases e
              · rw [z, st8.told] at e
                obtain ⟨ys', c | ⟨u', c⟩⟩ := c
                · rw [c] at e; cases e
                · rw [c] at e; cases e
              · rw [z, ek] at e
                obtain ⟨ys', c | ⟨u', c⟩⟩ := c
                · rw [c] at e; cases e
                · rw [c] at e; cases e
            have st' := hst'.kpT kt
            have okt := clr_ok ndg (fun q hq => (hrq q hq).2) (by omega) mx0 hu0 t (List.mem_of_getElem? hti)
            have nm' : gs'.map (·.x) = (gs.map nr).map (·.1) := by
              have z := fold_nm ((clrs (gs.map nr) e0.x y).take j) (gs.map nr)
              rw [← eg, List.map_map] at z
              exact z
            rw [← nm'] at okt
            obtain ⟨n1, n2, n3⟩ := okt.nm
            obtain ⟨e, he, hx⟩ := List.mem_map.mp n1
            obtain ⟨g, hgm, hx2⟩ := List.mem_map.mp n2
            have v1 := val_ent st9.cur.nd he
            rw [hx] at v1
            have v2 := val_ent st9.cur.nd hgm
            rw [hx2] at v2
            have tk : ((clrs (gs.map nr) e0.x y).take (j + 1)).foldl stepM (gs.map nr) = stepM (gs'.map nr) t := by
              rw [List.take_add_one, hti, eg, List.foldl_append]
              rfl
            have l2' : look (gs'.map nr) t.nm2 = g.R := by
              rw [← hx2]
              exact nr_look st9.cur.nd hgm
            have okS : (e.R.step g.R t).In U ∧ (e.R.step g.R t).Okb 1400 := by
              obtain ⟨S, eS⟩ := clr_take (u := y) ndg mx0 (j + 1)
              have z := piv_ok ndg hrq mx0 hu0 S (e.x, e.R.step g.R t) (by
                rw [← eS, tk]
                refine List.mem_map.mpr ⟨nr e, List.mem_map.mpr ⟨e, he, rfl⟩, ?_⟩
                show (if e.x = t.nm then (e.x, e.R.step (look (gs'.map nr) t.nm2) t) else nr e) = _
                rw [if_pos hx, l2'])
              exact ⟨z.1, z.2.okb (by omega)⟩
            obtain ⟨r1, _⟩ := st9.cur.d.2.1 e he
            obtain ⟨r2, _⟩ := st9.cur.d.2.1 g hgm
            refine ⟨_, rfl, _, rfl, D, _, v, t, e.r, e.a, g.r, g.a, e.R, g.R, U.length, rfl, st9.cur.d.1, st', v1, v2, r1, r2, hU, st9.cur.ok e he, st9.cur.ok g hgm, n3, okS.2, fun H10 r' a' s10 nr' na' row => ?_⟩
            obtain ⟨ss, xs, ev, hxs, hat⟩ := (st'.extN (ExtN.same s10)).one
            obtain ⟨st11, eq11⟩ := st9.step he hgm hx hx2 s10 nr' na' x09 row okS.2 okS.1
            have hD10 := s10 _ _ st9.cur.d.1
            have k10 : KpT H9 (upd H10 D (.dK (putK (gs'.map fun e => (.inr e.x, V.ref e.r)) (.inr t.nm) (.ref r')))) := fun b o c e =>
              (KpT.but hD10 (fun ys => ⟨by simp, by simp⟩) fun b o n e => by rw [upd_ne n]; exact e : KpT H10 (upd H10 D (.dK (putK (gs'.map fun e => (.inr e.x, V.ref e.r)) (.inr t.nm) (.ref r'))))) b o c (s10 _ _ e)
            have tb11 := tabs_dk (o := .dK (putK (gs'.map fun e => (.inr e.x, V.ref e.r)) (.inr t.nm) (.ref r'))) (tb9.ext s10) hD10
            have gl' : gs'.length = gs.length := by
              have z := congrArg List.length nm'
              rw [List.length_map, List.length_map, List.length_map] at z
              exact z
            refine ⟨_, rfl, _, rfl, ss, xs, 1, _, ev, rfl, hxs, hat, D, _, rfl, DPut.k (k := .inr t.nm) hD10 (small1000 (by rw [List.length_map]; omega)), ?_⟩
            generalize upd H10 D (.dK (putK (gs'.map fun e => (.inr e.x, V.ref e.r)) (.inr t.nm) (.ref r'))) = H11 at st11 k10 tb11
            have st12 := st11.told1 (st'.kpT k10)
            refine ⟨.ref L, rfl, .inl ⟨rfl, _, SqL.of st11.told⟩, _, rfl, L, _, _, rfl, rfl, st11.told, ?_, y7, some v, repl gs' t.nm (e.R.step g.R t) r' a', rfl, ?_, ?_, tabs_nol tb11 fun b o n e => ?_⟩
            · have q1 : (us ++ us2.take j).length ≤ 61 * i + 61 := by
                rw [List.length_append, List.length_take]
                omega
              have q2 : 61 * i + 61 + 1 < sizeLine := Nat.lt_of_le_of_lt (show 61 * i + 61 + 1 ≤ 2000 by omega) (by decide)
              omega
            · rw [List.take_add_one, hv, List.take_add_one, hti, ← List.append_assoc, ← List.append_assoc]
              exact st12
            · rw [tk]
              exact eq11
            · rw [upd_ne fun z => ?_]
              · exact e
              · rw [z, st11.told] at e
                exact n _ (Option.some.inj e).symm
          · rintro σ H9 ⟨y7, y9, gs', rfl, st9, eg, tb9⟩
            have ll := Paired.length pd8
            rw [List.take_length, ll, List.take_length] at st9
            rw [ll, List.take_length, clr_all ndg mx0] at eg
            refine ⟨_, _, _, _, _, gs', us ++ us2, ts ++ clrs (gs.map nr) e0.x y, e0.x :: led, 2 * m + 1, rfl, ⟨st9.cur, st9.told, st9.pd, st9.ld, st9.na, st9.ne, fun b o n1 n2 n3 e => st9.kf b o n1 n2 n3 (st8.kf b o n1 n2 n3 e)⟩, ?_, ?_, hb2, ?_, ?_, tb9, ?_⟩
            · rw [ee, eg, List.append_assoc]
              rfl
            · rw [eg]
              exact piv_ok2 ndg hrq mx0 hu0
            · rw [List.length_cons]
              omega
            · rw [List.length_append]
              omega
            · have z := congrArg List.length eg
              unfold piv at z
              rw [List.length_map, List.length_map, List.length_map] at z
              omega
    · rintro σ H' ⟨y5, y6, y7, y8, y9, gs, us, ts, led, m, rfl, st, ee, hrq, hbm, hled, hus, tb, lgs⟩
      rw [List.length_map, List.drop_length] at ee
      have ee' : (elim ys [] (es.map nr)).1 = ts := by
        rw [ee]
        show ts ++ [] = ts
        rw [List.append_nil]
      have hD := st.cur.d.1
      refine ⟨_, rfl, q H' L us (es.map nr) ys (fun b o e nt => ?_) tb ?_ ?_ ndy srty (fun y => ?_) st.told (by rw [ee']; exact st.pd) (Fr0.back e1 (Fr0.of nL))⟩
      · exact st.kf b o (N1.2.2.2.ne e nt) (ne_of_none (e1 _ _ e nt) nL) (ne_of_none (s0 _ _ (e1 _ _ e nt)) nLd) (x03 b o e nt)
      · have z : (zs.filter isR).map nr = (zs.map nr).filter isN := by
          rw [List.filter_map]
          rfl
        rw [← z]
        exact pm
      · rw [List.map_map]
        exact srt
      · rw [memy y]
        constructor
        · rintro ⟨e, he, c⟩
          exact ⟨nr e, List.mem_map.mpr ⟨e, he, rfl⟩, c⟩
        · rintro ⟨q', hq, c⟩
          obtain ⟨e, he, rfl⟩ := List.mem_map.mp hq
          exact ⟨e, he, c⟩
end
end SS
namespace SS
open PySem PySem.Spec PyProof.Rows L2 NumText LamX KyS
section
variable {P : Program} {w : World} {K : PySem.W.Frag} {mg : Str → Option Value} {base : Heap}
noncomputable def offF (f : Key → Int × Int) (x : Key) : Key → Int × Int := fun k => open Classical in if k = x then (0, 1) else f k
/-! ### line_of -/
def spLineOf (K : PySem.W.Frag) : Sp := fun vs H Q _ => ∃ (a nb : Addr) (kvs : List (Key × V)) (R : Rw) (m : Nat), vs = [.ref a, .ref nb] ∧ DM True m H a kvs R.f ∧ kvs ≠ [] ∧ R.Okb 1400 ∧ m ≤ 50 ∧
  ∀ H' t c ks x, Same H H' → H' t = some (.tup [.str x, .ref c, .ref nb]) → H t = none → H c = none → DM True m H' c ks (lw R x).g → (R.f (.inr x)).1 ≠ 0 → (∀ y : Str, (R.f (.inr y)).1 ≠ 0 → leS x y) → NmOk x → Q (.ref t) H'
theorem scLineOf : FnScope ["one", "bound", "lead", "rest", "unknown"] ["one", "bound"] (defScope sLineOf) := ⟨rfl, rfl, rfl, by decide +kernel, rfl, by decide +kernel, by decide +kernel⟩
theorem ok_lineof {f' aM : Addr} {fd : FuncData} (F : Fun K "line_of" "line_of" sLineOf f' fd) (mm : mg "min" = none) (gM : mg "MINUS_ONE" = some (.ref aM)) (hM : ∀ H, FrT K H aM (-1) 1) (st : Cl P w K mg base CX0 4 "sum_times" (spSumTimes K) []) : FnOk P w K mg base CX0 5 f' fd ["one", "bound"] (spLineOf K) := by
  refine F.ok scLineOf (fun vs H Q E h => ?_) (fun cdv A outer s H vs Q E hr h => ?_)
  · obtain ⟨_, _, _, _, _, rfl, _⟩ := h
    rfl
  · obtain ⟨a, nb, kvs, R, m, rfl, da, kne, okR, hm, q⟩ := h
    have hu := hu_of hr
    refine ⟨_, pss_cons (ps_set (i := 2) scLineOf.nd rfl (.inr rfl) (pe_callB (cr_minT rfl) (by rfl) mm boot_min (pa_cons (pv 0) pa_nil)))
      (pss_cons (ps_lock (ps_setDc (i := 3) (own := [("unknown", 4)]) (g := gName 4) rfl scLineOf.nd rfl rfl (swD_true rfl rfl rfl (by rfl)) (pi_keys (pv 0)) (blkOk_by (by rfl))
        (fun _ _ _ _ _ => pg_name (i := 4) scLineOf.nd rfl (Or.inl rfl))
        (fun _ _ _ _ _ => pts_one (pt_cmpR op_ne (pv 4) (pv 2) (nomark _)))
        (fun _ _ _ _ _ => pv 4) (fun _ _ _ _ _ => pe_dget hu (pv 0) (pv 4) (fun _ _ => rfl))))
      (pss_one (ps_ret (pe_tup (pa_cons (pv 2) (pa_cons (pc0 st hr (by decide) (pa_cons (pv 3) (pa_cons (pe_glob (v := .ref aM) (by rfl) gM rfl) pa_nil)))
        (pa_cons (pv 1) pa_nil))))))), ?_⟩
    refine ⟨_, rfl, a, kvs, kvs.map fun p => nmOf p.1, rfl, da.1, keys_nm da, fun z => kne (List.map_eq_nil_iff.mp z), fun x hx hle => ?_⟩
    obtain ⟨okx, _⟩ := nm_of_mem da hx
    obtain ⟨px, hpx, epx⟩ := List.mem_map.mp hx
    have topx : (R.f (.inr x)).1 ≠ 0 := by
      obtain ⟨⟨x', e1, _⟩, _, nz⟩ := da.2.2.2.1 px hpx
      have := nz trivial
      rw [e1] at this epx
      have ee : x' = x := epx
      rw [ee] at this
      exact this
    have lex : ∀ y : Str, (R.f (.inr y)).1 ≠ 0 → leS x y := fun y c => hle y (by
      have z : (Sum.inr y : Key) ∈ kvs.map (·.1) := Classical.byContradiction fun z => c (by rw [da.out z])
      rw [keys_nm da] at z
      obtain ⟨y', hy', e⟩ := List.mem_map.mp z
      rw [← Sum.inr.inj e]
      exact hy')
    refine ⟨a, .dK kvs, da.1, trivial, fun od => ?_⟩
    refine ⟨_, rfl, a, od, rfl, .inl ⟨kvs, upd_same, fun D nD => ?_⟩⟩
    have nDH : H D = none := by
      cases e : H D with
      | none => rfl
      | some o =>
        by_cases c : D = a
        · rw [c, upd_same] at nD
          cases nD
        · rw [upd_ne c, e] at nD
          cases nD
    have aD : a ≠ D := ne_of_none da.1 nDH
    refine ⟨fun i mm H' => ∃ ks g, i + mm = kvs.length ∧ (∀ x o, x ≠ a → x ≠ D → H x = some o → H' x = some o) ∧ H' a = some (.frz od (.dK kvs)) ∧ DM True i H' D ks g ∧ Upto (kvs.take i) (offF R.f (.inr x)) g,
      ⟨kvs.length, [], fun _ => (0, 1), by omega, fun x o n1 n2 e => by rw [upd_ne n2, upd_ne n1]; exact e, by rw [upd_ne aD]; exact upd_same, dm_new upd_same, fun k => ⟨fun z => absurd z List.not_mem_nil, fun _ => rfl⟩⟩, fun i mm H3 hW => ?_⟩
    obtain ⟨ks, g', em, kp, ha3, dm, up⟩ := hW
    have ml : kvs.length ≤ m := da.2.2.1
    by_cases hi : i < kvs.length
    · refine .inr ⟨⟨ha3, hi⟩, fun H' => ∃ ks g, (∀ x o, x ≠ a → x ≠ D → H x = some o → H' x = some o) ∧ H' a = some (.frz od (.dK kvs)) ∧ DM True (i + 1) H' D ks g ∧ Upto (kvs.take (i + 1)) (offF R.f (.inr x)) g, fun H' hN' => ?_, fun y H' hy => ?_⟩
      · obtain ⟨a1, a2, r1, r2, r3, r4⟩ := hN'
        exact ⟨mm - 1, by omega, a1, a2, by omega, r1, r2, r3, r4⟩
      · obtain ⟨rfl, key, v, hkv, rfl⟩ := hy
        obtain ⟨⟨nx, e1, okx⟩, ⟨rv, e2, e3⟩, nz⟩ := da.2.2.2.1 (key, v) (List.mem_of_getElem? hkv)
        have e2' : v = .ref rv := e2
        have e1' : key = .inr nx := e1
        subst e2' e1'
        have ev : valV kvs (.inr nx) = some (.ref rv) := val_nodup da.2.1 (.inr nx, .ref rv) (List.mem_of_getElem? hkv)
        have rva : rv ≠ a := fun c => by
          rw [c, da.1] at e3
          cases e3
        have hv3 : H' rv = some (.tup [.int (R.f (.inr nx)).1, .int (R.f (.inr nx)).2]) := kp _ _ rva (ne_of_none e3 nDH) e3
        have dg : DGet H' a (kV (.inr nx)) (some (.ref rv)) := .inl ⟨kvs, .inr nx, .inr ⟨od, ha3⟩, rfl, ev.symm⟩
        refine ⟨rfl, _, rfl, _, rfl, rfl, _, rfl, ite2 (fun e => ?_) (fun e => ?_)⟩
        · have nex : nx ≠ x := fun z => by
            rw [z] at e
            have e9 : (!decide (V.str x = V.str x)) = true := e
            rw [decide_eq_true rfl] at e9
            cases e9
          have ef : offF R.f (.inr x) (.inr nx) = R.f (.inr nx) := if_neg fun z => nex (Sum.inr.inj z)
          refine ⟨_, rfl, _, rfl, _, rfl, a, _, rfl, dg, ks, .inr nx, rfl, dm.1, small1000 (by have := dm.2.2.1; omega), ?_⟩
          have dp := dm.put (x := nx) (r := rv) (v := offF R.f (.inr x) (.inr nx)) okx (by rw [ef]; exact hv3) (fun z => by rw [ef]; exact nz z)
          refine ⟨_, _, ?_, ?_, dp, up.snoc hkv⟩
          · intro x o n1 n2 e
            rw [upd_ne n2]
            exact kp x o n1 n2 e
          · rw [upd_ne aD]
            exact ha3
        · have nex : nx = x := by
            by_cases c : nx = x
            · exact c
            · exact absurd (by show (!decide (V.str nx = V.str x)) = true; rw [decide_eq_false fun z => c (V.str.inj z)]; rfl) e
          have z : offF R.f (.inr x) (.inr nx) = (0, 1) := if_pos (by rw [nex])
          exact ⟨ks, g', kp, ha3, dm.mono (Nat.le_succ _), up.snoc0 da.2.1 hkv z⟩
    · have ei : kvs.take i = kvs := List.take_of_length_le (by omega)
      rw [ei] at up
      have fg : ∀ k, offF R.f (.inr x) k = g' k := fun k => by
        by_cases c : k ∈ kvs.map (·.1)
        · exact ((up k).1 c).symm
        · rw [(up k).2 c]
          by_cases c2 : k = .inr x
          · exact if_pos c2
          · exact (if_neg c2).trans (da.out c)
      refine .inl ⟨⟨ha3, by omega⟩, ha3, ?_⟩
      have dmu := (dm.fn fg).unlock (o := .dK kvs) ha3 aD.symm
      have S : Same H (upd H3 a (.dK kvs)) := fun x o e => by
        by_cases c : x = a
        · subst c
          rw [upd_same, ← da.1]
          exact e
        · rw [upd_ne c]
          exact kp x o c (ne_of_none e nDH) e
      have dmr : DM True m (upd H3 a (.dK kvs)) D ks (offF R.f (.inr x)) := dmu.mono (by omega)
      generalize upd H3 a (.dK kvs) = H4 at S dmr ⊢
      have okf : ∀ k, SS.Okb 1400 (offF R.f (.inr x) k) := fun k => by
        by_cases c2 : k = .inr x
        · have z : offF R.f (.inr x) k = (0, 1) := if_pos c2
          rw [z]
          exact ⟨by decide, by decide, by decide, by decide⟩
        · have z : offF R.f (.inr x) k = R.f k := if_neg c2
          rw [z]
          exact okR.1 k
      refine ⟨_, rfl, _, rfl, D, aM, ks, offF R.f (.inr x), (-1, 1), m, 1400, 1, rfl, dmr, hM _, okf, ⟨by decide, by decide, by decide, by decide⟩, by omega, by decide, by decide, fun H5 c5 k5 s5 n5 d5 => ?_⟩
      refine ⟨_, rfl, by show 3 ≤ sizeLine; decide, fun t nt => ?_⟩
      have s6 := same_new (o := .tup [.str x, .ref c5, .ref nb]) nt
      have S6 := (S.trans s5).trans s6
      exact q _ t c5 k5 x S6 upd_same ((S.trans s5).free nt) (S.free n5) (d5.same s6) topx lex okx
end
end SS
namespace SS
open PySem PySem.Spec PyProof.Rows L2 NumText LamX KyS
section
variable {P : Program} {w : World} {K : PySem.W.Frag} {mg : Str → Option Value} {base : Heap}
/-- a line in a heap: the tuple's address, its sum's, its fraction's -/
structure LnE where
  t : Addr
  c : Addr
  b : Addr
  l : Lw
def LnOk (K : PySem.W.Frag) (m : Nat) (H : Hp) (e : LnE) : Prop := H e.t = some (.tup [.str e.l.u, .ref e.c, .ref e.b]) ∧ (∃ ks, DM True m H e.c ks e.l.g) ∧ FrT K H e.b e.l.n.1 e.l.n.2 ∧ NmOk e.l.u
theorem LnOk.kpT {m : Nat} {H H' : Hp} {e : LnE} (h : LnOk K m H e) (k : KpT H H') (kd : ∀ l, H e.c = some (.dK l) → H' e.c = some (.dK l)) : LnOk K m H' e := by
  obtain ⟨h1, ⟨ks, d1, d2, d3, d4, d5⟩, h3, h4⟩ := h
  refine ⟨k _ _ ⟨_, .inl rfl⟩ h1, ⟨ks, kd _ d1, d2, d3, fun p hp => ?_, d5⟩, FrT.kpT h3 k, h4⟩
  obtain ⟨e1, ⟨r', e2, e3⟩, e4⟩ := d4 p hp
  exact ⟨e1, ⟨r', e2, k _ _ ⟨_, .inl rfl⟩ e3⟩, e4⟩
def LnE.it (e : LnE) : KyS.It := (e.t, e.l.u, [V.ref e.c, V.ref e.b])
theorem KpT.ext {H H' : Hp} (x : ExtN H H') : KpT H H' := fun b o c e => x b o e fun ps => by
  obtain ⟨ys, c | ⟨u, c⟩⟩ := c
  · rw [c]; simp
  · rw [c]; simp
theorem LnOk.extN {m : Nat} {H H' : Hp} {e : LnE} (h : LnOk K m H e) (x : ExtN H H') : LnOk K m H' e := h.kpT (KpT.ext x) fun l q => x _ _ q fun ps => by simp
theorem bd_len : ∀ (j k m : Nat), j ≤ k → bd m j ≤ bd m k := fun j k => by
  induction k generalizing j with
  | zero =>
    intro m h
    rw [show j = 0 by omega]
    exact Nat.le_refl _
  | succ k ih =>
    intro m h
    cases j with
    | zero => exact bd_le _ _
    | succ j => exact ih j _ (by omega)
theorem Lines.perm {U : List Str} {ps ps' : List Lw} (h : Lines U ps) (p : ps'.Perm ps) : Lines U ps' := by
  obtain ⟨h1, h2, h3, h4⟩ := h
  have pq := p.map Lw.q
  exact ⟨fun l hl => h1 l (p.mem_iff.mp hl), (pq.map _).nodup_iff.mpr h2, fun l hl => h3 l (pq.mem_iff.mp hl), fun l hl k c => by
    obtain ⟨a, b, d⟩ := h4 l (pq.mem_iff.mp hl) k c
    exact ⟨a, b, fun l' hl' => d l' (pq.mem_iff.mp hl')⟩⟩
theorem sats_perm {U : List Key} {ls ls' : List (Sol.Ln Key)} (p : ls'.Perm ls) (P : Key → Rat) : Sol.sats U ls' P ↔ Sol.sats U ls P := ⟨fun h l hl => h l (p.mem_iff.mpr hl), fun h l hl => h l (p.mem_iff.mp hl)⟩
theorem iteT' {b : Bool} {p q : Prop} (h : b = true) (x : p) : if b = true then p else q := by
  rw [if_pos h]
  exact x
/-! ### solved_of, where some point keeps the rows -/
def satZ (U : List Str) (zs : List Ent) (P : Key → Rat) : Prop := ∀ z ∈ zs, isR z = true → satR U z.R P
def spSolved (K : PySem.W.Frag) (T : List (Addr × Str)) : Sp := fun vs H Q _ => ∃ (a : Addr) (zs : List Ent) (U : List Str) (n : Nat), vs = [.ref a] ∧ SqA K H a (zs.map fun z => V.ref z.t) ∧ (∀ z ∈ zs, EntOk K U.length H z) ∧ (zs.map (·.x)).Nodup ∧ zs.length ≤ 60 ∧ U.length ≤ 20 ∧ U.Nodup ∧ LamX.Tabs T H ∧
  (∀ z ∈ zs, isR z = true → z.R.In U ∧ RB n z.R) ∧ bd n U.length < 1399 ∧ (∃ P, satZ U zs P) ∧
  ∀ (H' : Hp) (t l : Addr) (es : List LnE), ExtN H H' → LamX.Tabs T H' → H' t = some (.tup [.str (Str.ofString "solved"), .ref l]) → H' l = some (.lst (es.map fun e => V.ref e.t)) → (∀ e ∈ es, LnOk K U.length H' e) → Lines U (es.map (·.l)) → ((es.map (·.l)).map (·.u)).Pairwise leS → (∀ P, Sol.sats (kU U) ((es.map (·.l)).map Lw.q) P ↔ satZ U zs P) → Q (.ref t) H'
theorem scSolved : FnScope ["rows", "steps", "lines", "name", "one", "sort", "bound", "shares"] ["rows"] (defScope sSolved) := ⟨rfl, rfl, rfl, by decide +kernel, rfl, by decide +kernel, by decide +kernel⟩
theorem ok_solved {f c Pt aN : Addr} {fd : FuncData} {T : List (Addr × Str)} (F : Fun K "solved_of" "solved_of" sSolved f fd) (hc : fd.code = .ref c) (TB : TabB base mg c Pt) (hT : (Pt, Str.ofString "solved_of" ++ ".<locals>." ++ "<lambda>") ∈ T) (hu0 : ∀ p ∈ T, p.1 = Pt → p.2 = Str.ofString "solved_of" ++ ".<locals>." ++ "<lambda>")
    (ms : mg "sorted" = none) (gN : mg "NOUGHT" = some (.ref aN)) (hN : ∀ H, FrT K H aN 0 1) (so : Cl P w K mg base CX0 7 "steps_of" (spStepsOf K T) []) (sp : Cl P w K mg base CX0 7 "stepped" (spStepped K T) []) (lo : Cl P w K mg base CX0 5 "line_of" (spLineOf K) []) : FnOk P w K mg base CX0 8 f fd ["rows"] (spSolved K T) := by
  refine Fun.okC F hc scSolved (fun vs H Q E h => ?_) (fun cdv A outer s H vs Q E hcd hr h => ?_)
  · obtain ⟨_, _, _, _, rfl, _⟩ := h
    rfl
  · obtain ⟨a, zs, U, n, rfl, hS, hz, nd, hl, hU, ndU, ht, hrb, hbd, ⟨P0, hP0⟩, q⟩ := h
    have hu := hu_of hr
    refine ⟨_, pss_cons (ps_set (i := 1) scSolved.nd rfl (.inl rfl) (pc0 so hr (by decide) (pa_cons (pv 0) pa_nil)))
      (pss_cons (ps_set (i := 2) scSolved.nd rfl (.inl rfl) (pe_lst pa_nil))
      (pss_cons (ps_for PassesOwn.never rfl (pi_list (pc0 sp hr (by decide) (pa_cons (pv 0) (pa_cons (pv 1) pa_nil)))) (pg_tup rfl (pgs_cons (pg_name (i := 3) scSolved.nd rfl (.inl rfl)) (pgs_cons (pg_tup rfl (pgs_cons (pg_name (i := 4) scSolved.nd rfl (.inl rfl)) (pgs_cons (pg_name (i := 5) scSolved.nd rfl (.inl rfl)) (pgs_cons (pg_name (i := 6) scSolved.nd rfl (.inl rfl)) pgs_nil)))) pgs_nil)))
        (pss_one (ps_if (pt_truth (pv 4) (by intro _; rfl))
          (pss_one (ps_expr (pe_bm PySem.F.plainAttrs_list PySem.F.slot_list_append PySem.F.type_list_append mt_append (pv 2) (pa_cons (pc0 lo hr (by decide) (pa_cons (pv 4) (pa_cons (pv 6) pa_nil))) pa_nil))))
          (pss_one (ps_if (pt_cmpR (op_neD hr.units) (pv 6) (pe_glob (v := .ref aN) (by rfl) gN rfl) (nomark _)) (pss_cons ps_never (pss_one ps_never)) pss_nil)))))
      (pss_one (ps_ret (pe_tup (pa_cons pe_str (pa_cons (pe_sortedKey0 (k := 5) (T := T) (by rfl) ms (pv 2) TB hcd hT hu0 hr ⟨rfl, rfl, rfl, rfl⟩ rfl (fun _ _ _ _ _ _ => rfl)) pa_nil))))))), ?_⟩
    refine ⟨_, rfl, a, zs, U, n, rfl, hS, hz, nd, hl, hU, ndU, ht, hrb, hbd, fun H1 L us L0 ys e1 T1 pm srt ndy srty memy hL1 pd1 frL => ?_⟩
    have pmz : ∀ q ∈ L0, ∃ z ∈ zs, isR z = true ∧ q = nr z := fun q hq => by
      have m1 := pm.mem_iff.mp hq
      obtain ⟨m2, m3⟩ := List.mem_filter.mp m1
      obtain ⟨z, hz1, rfl⟩ := List.mem_map.mp m2
      exact ⟨z, hz1, m3, rfl⟩
    have ndL : (L0.map (·.1)).Nodup := by
      have z := pm.map Prod.fst
      refine z.nodup_iff.mpr ?_
      have z2 : ((zs.map nr).map Prod.fst).Nodup := by
        rw [List.map_map]
        exact nd
      exact z2.sublist ((List.filter_sublist).map _)
    have hL0 : ∀ q ∈ L0, q.2.In U ∧ RB n q.2 := fun q hq => by
      obtain ⟨z, hz1, hz2, rfl⟩ := pmz q hq
      exact hrb z hz1 hz2
    have ysU : ∀ y ∈ ys, y ∈ U := fun y hy => by
      obtain ⟨q', hq, c'⟩ := (memy y).mp hy
      obtain ⟨z, hz1, e2⟩ := List.mem_map.mp ((hL0 q' hq).1 _ c')
      obtain rfl := Sum.inr.inj e2
      exact hz1
    have hL0y : ∀ q ∈ L0, q.2.In ys ∧ RB n q.2 := fun q hq => ⟨fun k c' => by
      obtain ⟨z, hz1, e2⟩ := List.mem_map.mp ((hL0 q hq).1 _ c')
      rw [← e2]
      exact List.mem_map.mpr ⟨z, (memy z).mpr ⟨q, hq, by rw [← e2] at c'; exact c'⟩, rfl⟩, (hL0 q hq).2⟩
    have yl : ys.length ≤ U.length := sub_len ndy ysU
    have hby : bd n ys.length < 1399 := Nat.lt_of_le_of_lt (bd_len _ _ _ yl) hbd
    have way : Way U (zs.map nr) (elim ys [] L0).1 := fun L0' p0 s0' => by
      have e : L0' = L0 := leS_uniq (p0.trans pm.symm) ((p0.trans pm.symm).map Prod.fst |>.nodup_iff.mpr ndL) s0' srt
      subst e
      exact ⟨elim_ok ys ndL hL0 hby, fun i q' hq => by
        obtain ⟨a1, a2⟩ := elim_way ys ndL hL0 i q' hq
        exact ⟨a1, a2.okb (by omega)⟩⟩
    have fin : Fin U (elim ys [] L0).2 := by
      obtain ⟨row⟩ := elim_fin (U := ys) ndL hL0y (fun y h => h) (fun y h => h) srty
      exact ⟨fun q' hq => (row q' hq).imp id fun ⟨u, h1, h2⟩ => ⟨u, ysU u h1, h2⟩⟩
    have ok : ∀ q ∈ (elim ys [] L0).2, q.2.In U ∧ RB (bd n ys.length) q.2 := fun q' hq => by
      rw [elim_fold ys ndL, ← List.take_length (l := (elim ys [] L0).1)] at hq
      exact elim_way ys ndL hL0 _ q' hq
    have okl : ∀ q ∈ (elim ys [] L0).2, q.2.In U ∧ LoR q.2 := fun q' hq => ⟨(ok q' hq).1, (ok q' hq).2.lo⟩
    have sat0 : ∀ P, satA U L0 P ↔ satZ U zs P := fun P => by
      constructor
      · intro s1 z hz1 hz2
        exact s1 (nr z) (pm.mem_iff.mpr (List.mem_filter.mpr ⟨List.mem_map.mpr ⟨z, hz1, rfl⟩, hz2⟩))
      · intro s1 q' hq
        obtain ⟨z, hz1, hz2, rfl⟩ := pmz q' hq
        exact s1 z hz1 hz2
    have hz0 : ∀ q ∈ (elim ys [] L0).2, ¬ nz q.2 → q.2.n.1 = 0 := zero_of_sat okl ((elim_sat ys ndL hL0 P0).mpr ((sat0 P0).mpr hP0))
    have ndF : ((elim ys [] L0).2.map (·.1)).Nodup := by
      rw [elim_fold ys ndL, fold_nm]
      exact ndL
    have lins := fin.lines ndF okl
    have lsat : ∀ P, Sol.sats (kU U) ((lnsOf (elim ys [] L0).2).map Lw.q) P ↔ satZ U zs P := fun P => ((fin.sats ndU okl hz0 P).trans (elim_sat ys ndL hL0 P)).trans (sat0 P)
    refine ⟨by show 0 ≤ sizeLine; exact Nat.zero_le _, fun M nM => ?_⟩
    have s0 := same_new (o := .lst []) nM
    have hM0 := upd_same (H := H1) (a := M) (o := .lst [])
    have ML : M ≠ L := fun z => by rw [z, hL1] at nM; cases nM
    generalize upd H1 M (.lst []) = H2 at s0 hM0
    have x02 : ExtN H H2 := fun b o eb nt => s0 _ _ (e1 _ _ eb nt)
    refine ⟨_, rfl, _, rfl, a, L, zs, us, _, U, rfl, hS.extN x02, fun z hz1 => (hz z hz1).extN x02, nd, by omega, hU, T1.ext s0, .inl (SqL.of (s0 _ _ hL1)), paired_mono (fun v t h => StpAt.kpT h (fun b o _ e => s0 _ _ e)) pd1, way, fun H3 l2 es L0' e2 T2 pm2 srt2 eqes hl2 pe nda frl => ?_⟩
    have eL : L0' = L0 := leS_uniq (pm2.trans pm.symm) ((pm2.trans pm.symm).map Prod.fst |>.nodup_iff.mpr ndL) srt2 srt
    subst eL
    rw [← elim_fold ys ndL] at eqes
    rw [← eqes] at okl hz0 lins lsat ok
    have hM3 := e2 _ _ hM0 fun ps => by simp
    have l2M : M ≠ l2 := frl.ne hM0 fun ps => by simp
    have x03 : ExtN H H3 := fun b o eb nt => e2 _ _ (x02 _ _ eb nt) nt
    refine ⟨l2, rfl, ⟨_, SqL.of hl2⟩, ?_⟩
    refine for_list (K := K) (a := l2) (xs := es.map fun e => V.ref e.t) (fun i σ H' => ∃ (y3 y4 y5 y6 y7 : Option V) (ls : List LnE), σ = [some (.ref a), some (.ref L), some (.ref M), y3, y4, y5, y6, y7] ∧ H' M = some (.lst (ls.map fun e => V.ref e.t)) ∧ (∀ e ∈ ls, LnOk K U.length H' e) ∧
        ls.map (·.l) = lnsOf ((es.take i).map nr) ∧ (∀ b o, b ≠ M → H3 b = some o → H' b = some o) ∧ LamX.Tabs T H')
      ⟨none, none, none, none, none, [], rfl, hM3, fun e he => by (cases he), rfl, fun b o _ e => e, T2⟩ ?_ ?_ ?_
    · rintro i σ H' _ ⟨y3, y4, y5, y6, y7, ls, rfl, _, _, _, kf, _⟩
      exact SqL.of (kf _ _ l2M.symm hl2)
    · rintro i v σ H' hv ⟨y3, y4, y5, y6, y7, ls, rfl, hM, hls, els, kf, tb⟩
      rw [List.getElem?_map] at hv
      obtain ⟨e, hei, rfl⟩ := Option.map_eq_some_iff.mp hv
      have hem := List.mem_of_getElem? hei
      obtain ⟨p1, ⟨kvs, nb, p2, p3, p4, p5⟩, p6⟩ := pe e hem
      have ne1 : ∀ b o, (∀ ys, o ≠ .lst ys) → H3 b = some o → H' b = some o := fun b o n e => kf b o (fun z => by
        rw [z, hM3] at e
        exact n _ (Option.some.inj e).symm) e
      have tk : es.take (i + 1) = es.take i ++ [e] := by
        rw [List.take_add_one, hei]
        rfl
      have me : nr e ∈ es.map nr := List.mem_map.mpr ⟨e, hem, rfl⟩
      have da : DM True U.length H' e.a kvs e.R.f := by
        obtain ⟨d1, d2, d3, d4, d5⟩ := p3
        refine ⟨ne1 _ _ (fun ys => by simp) d1, d2, d3, fun p hp => ?_, d5⟩
        obtain ⟨f1, ⟨r', f2, f3⟩, f4⟩ := d4 p hp
        exact ⟨f1, ⟨r', f2, ne1 _ _ (fun ys => by simp) f3⟩, f4⟩
      have lsl : ls.length ≤ 60 := by
        have z := congrArg List.length els
        unfold lnsOf at z
        rw [List.length_map, List.length_map] at z
        have q1 := List.length_filter_le nzB ((es.take i).map nr)
        rw [List.length_map, List.length_take] at q1
        have q2 := congrArg List.length eqes
        rw [elim_fold ys ndL] at q2
        have q3 := congrArg List.length (fold_nm (elim ys [] L0').1 L0')
        rw [List.length_map, List.length_map] at q3
        rw [List.length_map] at q2
        have q4 := pm.length_eq
        have q5 := List.length_filter_le isN (zs.map nr)
        rw [List.length_map] at q5
        omega
      have okR := (ok _ me).2.okb (by omega)
      have fk : ∀ y : Str, (e.R.f (.inr y)).1 ≠ 0 → kvs ≠ [] := fun y c' z => by
        rw [z] at da
        exact c' (by rw [da.2.2.2.2 _ rfl])
      have lst3 : lnsOf ((es.take (i + 1)).map nr) = lnsOf ((es.take i).map nr) ++ lnsOf [nr e] := by
        unfold lnsOf
        rw [tk, List.map_append, List.filter_append, List.map_append]
        rfl
      refine ⟨e.t, _, rfl, SqT.of (ne1 _ _ (fun ys => by simp) p1), rfl, _, _, rfl, _, _, rfl, e.r, _, rfl, SqT.of (ne1 _ _ (fun ys => by simp) p2), rfl, _, _, rfl, _, _, rfl, _, _, rfl, rfl, rfl, ?_⟩
      refine ⟨_, rfl, _, .inr (.inr ⟨kvs, da.1, rfl⟩), ?_⟩
      by_cases ek : kvs = []
      · subst ek
        refine iteF ?_
        have fz : ∀ k, e.R.f k = (0, 1) := fun k => da.2.2.2.2 k rfl
        have nn : ¬ nz (nr e).2 := fun ⟨y, c'⟩ => c' (by rw [show (nr e).2 = e.R from rfl, fz])
        have n0 : e.R.n.1 = 0 := hz0 _ me nn
        have nl : e.R.n = (0, 1) := okb_top0 okR.2 n0
        have p4' : FrT K H' nb 0 1 := by
          rw [nl] at p4
          exact p4.kpT fun b o c' e => ne1 b o (fun ys z => by
            obtain ⟨ys', c' | ⟨u', c'⟩⟩ := c'
            · rw [c'] at z; cases z
            · rw [c'] at z; cases z) e
        refine ⟨_, rfl, .tuple [.int 0, .int 1], .tuple [.int 0, .int 1], .tup p4'.1 (.cons (.int _) (.cons (.int _) .nil)), .tup (hN _).1 (.cons (.int _) (.cons (.int _) .nil)), rfl, rfl, false, by rw [eqv_nought]; rfl, iteF ?_⟩
        refine ⟨_, _, _, _, _, ls, rfl, hM, hls, ?_, kf, tb⟩
        have z : lnsOf [nr e] = [] := by
          unfold lnsOf
          rw [List.filter_cons_of_neg (fun z => nn (nzB_iff.mp z))]
          rfl
        rw [lst3, z, List.append_nil]
        exact els
      · refine iteT' (by cases kvs with | nil => exact absurd rfl ek | cons _ _ => rfl) ?_
        refine ⟨.ref M, rfl, .inl ⟨rfl, _, SqL.of hM⟩, _, rfl, _, rfl, e.a, nb, kvs, e.R, U.length, rfl, da, ek, okR, by omega, fun H5 t' c' ks x s5 ht' nt' nc' dm5 topx lex okx => ?_⟩
        have ex : ldU e.R = x := ldU_eq topx lex
        have nn : nz (nr e).2 := ⟨x, topx⟩
        have z : lnsOf [nr e] = [lw e.R x] := by
          unfold lnsOf
          rw [List.filter_cons_of_pos (nzB_iff.mpr nn)]
          show [lw e.R (ldU e.R)] = _
          rw [ex]
        have hM5 := s5 _ _ hM
        have k5 : KpT H5 (upd H5 M (.lst (ls.map (fun e => V.ref e.t) ++ [.ref t']))) := KpT.but hM5 (fun ys => ⟨by simp, by simp⟩) fun b o n e => by rw [upd_ne n]; exact e
        have kd5 : ∀ b l, H5 b = some (.dK l) → (upd H5 M (.lst (ls.map (fun e => V.ref e.t) ++ [.ref t']))) b = some (.dK l) := fun b l e => by
          rw [upd_ne (ne_of e hM5 (fun z => by cases z))]
          exact e
        refine ⟨M, _, _, rfl, rfl, hM5, small1000 (by rw [List.length_map]; omega), _, _, _, _, _, ls ++ [⟨t', c', nb, lw e.R x⟩], rfl, by rw [upd_same, List.map_append]; rfl, fun g hg => ?_, ?_, fun b o n e => by rw [upd_ne n]; exact s5 _ _ (kf b o n e), tabs_nol (tb.ext s5) fun b o n e => ?_⟩
        · rcases List.mem_append.mp hg with hg | hg
          · exact ((hls g hg).kpT (fun b o _ e => s5 _ _ e) fun l e => s5 _ _ e).kpT k5 fun l e => kd5 _ _ e
          · obtain rfl := List.mem_singleton.mp hg
            have o5 : LnOk K U.length H5 ⟨t', c', nb, lw e.R x⟩ := ⟨ht', ⟨ks, dm5⟩, (p4.kpT fun b o c' e => ne1 b o (fun ys z => by
              obtain ⟨ys', c' | ⟨u', c'⟩⟩ := c'
              · rw [c'] at z; cases z
              · rw [c'] at z; cases z) e).new s5, okx⟩
            exact o5.kpT k5 fun l e => kd5 _ _ e
        · rw [lst3, z, List.map_append, els]
          rfl
        · rw [upd_ne fun z => ?_]
          · exact e
          · rw [z, hM5] at e
            exact n _ (Option.some.inj e).symm
    · rintro σ H' ⟨y3, y4, y5, y6, y7, ls, rfl, hM, hls, els, kf, tb⟩
      rw [List.length_map, List.take_length] at els
      have x04 : ExtN H H' := fun b o eb nt => kf b o (fun z => by
        have := s0
        have e9 := e1 _ _ eb nt
        rw [z, nM] at e9
        cases e9) (x03 b o eb nt)
      have eZ : (ls.map LnE.it).map (fun z => V.ref z.1) = ls.map fun z => V.ref z.t := by
        rw [List.map_map]
        rfl
      refine ⟨_, rfl, M, ls.map LnE.it, rfl, .inl (by rw [eZ]; exact SqL.of hM), fun z hz' => ?_, tb, fun H4 D ys' eN T4 pm4 srt4 frD hD4 => ?_⟩
      · obtain ⟨e, he, rfl⟩ := List.mem_map.mp hz'
        exact SqT.of (hls e he).1
      obtain ⟨es', pe', rfl⟩ := perm_map_inv LnE.it pm4 rfl
      have eE : (es'.map LnE.it).map (fun z => V.ref z.1) = es'.map fun z => V.ref z.t := by
        rw [List.map_map]
        rfl
      have eS : ((es'.map LnE.it).map fun z => z.2.1) = (es'.map (·.l)).map (·.u) := by
        rw [List.map_map, List.map_map]
        rfl
      rw [eE] at hD4
      rw [eS] at srt4
      refine ⟨by show 2 ≤ sizeLine; decide, fun t nt => ?_⟩
      have st := same_new (o := .tup [.str (Str.ofString "solved"), .ref D]) nt
      have pl := pe'.map (·.l)
      rw [els] at pl
      exact q _ t D es' (fun b o eb n => st _ _ (eN _ _ (x04 b o eb n) n)) (T4.ext st) upd_same (st _ _ hD4) (fun e he => ((hls e (pe'.mem_iff.mp he)).extN eN).extN (ExtN.same st)) (lins.perm pl) srt4 fun P => (sats_perm (pl.map Lw.q) P).trans (lsat P)
end
end SS
namespace SS
open PySem PySem.Spec PyProof.Rows L2 NumText LamX KyS
/-! ### the law's own lines, one row more at a time: the plain reckoning -/
def fturn (a : Int × Int) : Int × Int := (0 - a.1, a.2)
theorem fturn_lo {a : Int × Int} (l : Lo a) : Lo (fturn a) := ⟨l.1, by
  show Int.gcd (0 - a.1) a.2 = 1
  rw [Int.zero_sub, Int.neg_gcd]
  exact l.2⟩
theorem fturn_q {a : Int × Int} : toQ (fturn a) = - toQ a := by
  show Rat.divInt (0 - a.1) a.2 = - Rat.divInt a.1 a.2
  rw [Int.zero_sub, Rat.neg_divInt]
theorem finv_eq (a : Int × Int) : finv a = (fr1 a.2 a.1, fr2 a.2 a.1) := by
  unfold finv
  rw [Int.one_mul, Int.one_mul]
theorem off_same (f : Key → Int × Int) (x : Key) : offF f x x = (0, 1) := if_pos rfl
theorem off_ne {f : Key → Int × Int} {x k : Key} (h : k ≠ x) : offF f x k = f k := if_neg h
theorem off_lo {f : Key → Int × Int} (l : ∀ k, Lo (f k)) (x k : Key) : Lo (offF f x k) := by
  by_cases c : k = x
  · rw [c, off_same]
    exact lo_zero
  · rw [off_ne c]
    exact l k
/-- what is left of a row when a line is put -/
noncomputable def putL (R : Rw) (l : Lw) : Rw := if (R.f (.inr l.u)).1 = 0 then R else ⟨fun k => fplus (offF R.f (.inr l.u) k) (ftimes (l.g k) (R.f (.inr l.u))), R.s, fplus R.n (ftimes l.n (fturn (R.f (.inr l.u))))⟩
theorem putL_lo {R : Rw} {l : Lw} (h : LoR R) (g : LoL l) : LoR (putL R l) := by
  unfold putL
  split
  · exact h
  · exact ⟨fun k => lo_plus (off_lo h.1 _ k).1 (lo_times (g.1 k).1 (h.1 _).1).1, lo_plus h.2.1 (lo_times g.2.1 (fturn_lo (h.1 _)).1).1⟩
theorem putL_q {R : Rw} {l : Lw} (h : LoR R) (g : LoL l) (g0 : toQ (l.g (.inr l.u)) = 0) : (putL R l).F (.inr l.u) = 0 ∧ (∀ k, k ≠ .inr l.u → (putL R l).F k = R.F k + toQ (l.g k) * R.F (.inr l.u)) ∧ (putL R l).N = R.N - toQ l.n * R.F (.inr l.u) := by
  unfold putL
  split
  · rename_i e
    have z : R.F (.inr l.u) = 0 := (top_q (h.1 _)).mp e
    rw [z]
    exact ⟨rfl, fun k _ => by grind, by grind⟩
  · refine ⟨?_, fun k c => ?_, ?_⟩
    · show toQ (fplus (offF R.f (.inr l.u) (.inr l.u)) (ftimes (l.g (.inr l.u)) (R.f (.inr l.u)))) = 0
      rw [toQ_plus (off_lo h.1 _ _).1 (lo_times (g.1 _).1 (h.1 _).1).1, toQ_times (g.1 _).1 (h.1 _).1, off_same, toQ_zero, g0]
      grind
    · show toQ (fplus (offF R.f (.inr l.u) k) (ftimes (l.g k) (R.f (.inr l.u)))) = toQ (R.f k) + toQ (l.g k) * toQ (R.f (.inr l.u))
      rw [toQ_plus (off_lo h.1 _ _).1 (lo_times (g.1 _).1 (h.1 _).1).1, toQ_times (g.1 _).1 (h.1 _).1, off_ne c]
    · show toQ (fplus R.n (ftimes l.n (fturn (R.f (.inr l.u))))) = toQ R.n - toQ l.n * toQ (R.f (.inr l.u))
      rw [toQ_plus h.2.1 (lo_times g.2.1 (fturn_lo (h.1 _)).1).1, toQ_times g.2.1 (fturn_lo (h.1 _)).1, fturn_q]
      grind
theorem dot_off {U : List Key} (nd : U.Nodup) {x : Key} (hx : x ∈ U) {F G g P : Key → Rat} {c : Rat} (h0 : G x = 0) (h : ∀ k, k ≠ x → G k = F k + g k * c) (g0 : g x = 0) : Sol.dot U G P = Sol.dot U F P + Sol.dot U g P * c - F x * P x := by
  have e : Sol.dot U G P = Sol.dot U (fun k => F k + (g k * c + (open Classical in if k = x then - F x else 0))) P := Sol.dot_congr fun k _ => by
    by_cases q : k = x
    · rw [if_pos q, q, h0, g0]
      grind
    · rw [if_neg q, h k q]
      grind
  rw [e, Sol.dot_add, Sol.dot_add, Sol.dot_mul, Sol.dot_one (x := x) (g := fun k => open Classical in if k = x then - F x else 0) nd hx fun k _ q => by rw [if_neg q, Rat.zero_mul]]
  rw [if_pos rfl]
  grind
/-- under a line's points the row and what is left of it are kept alike -/
theorem putL_sat {U : List Str} {R : Rw} {l : Lw} (nd : U.Nodup) (hu : l.u ∈ U) (h : LoR R) (g : LoL l) (g0 : toQ (l.g (.inr l.u)) = 0) {P : Key → Rat} (s : l.q.sat (kU U) P) : satR U (putL R l) P ↔ satR U R P := by
  obtain ⟨q1, q2, q3⟩ := putL_q h g g0
  have e := dot_off (P := P) (nd_kU nd) (List.mem_map.mpr ⟨l.u, hu, rfl⟩) q1 q2 g0
  have s' : P (.inr l.u) = toQ l.n + Sol.dot (kU U) (fun k => toQ (l.g k)) P := s
  unfold satR
  rw [e, q3, s']
  constructor
  · intro z
    grind
  · intro z
    grind
/-- the line of a row for its least unknown -/
noncomputable def ledL (R : Rw) (x : Str) : Lw := ⟨x, fun k => ftimes (fturn (offF R.f (.inr x) k)) (finv (R.f (.inr x))), ftimes R.n (finv (R.f (.inr x)))⟩
theorem ledL_lo {R : Rw} {x : Str} (h : LoR R) (hx : (R.f (.inr x)).1 ≠ 0) : LoL (ledL R x) := ⟨fun k => lo_times (fturn_lo (off_lo h.1 _ k)).1 (finv_lo hx).1, lo_times h.2.1 (finv_lo hx).1⟩
theorem ledL_q {R : Rw} {x : Str} (h : LoR R) (hx : (R.f (.inr x)).1 ≠ 0) : toQ ((ledL R x).g (.inr x)) = 0 ∧ (∀ k, k ≠ .inr x → toQ ((ledL R x).g k) * R.F (.inr x) = - R.F k) ∧ toQ (ledL R x).n * R.F (.inr x) = R.N := by
  have i := finv_q (h.1 (.inr x)) hx
  refine ⟨?_, fun k c => ?_, ?_⟩
  · show toQ (ftimes (fturn (offF R.f (.inr x) (.inr x))) _) = 0
    rw [toQ_times (fturn_lo (off_lo h.1 _ _)).1 (finv_lo hx).1, fturn_q, off_same, toQ_zero]
    grind
  · show toQ (ftimes (fturn (offF R.f (.inr x) k)) (finv (R.f (.inr x)))) * toQ (R.f (.inr x)) = - toQ (R.f k)
    rw [toQ_times (fturn_lo (off_lo h.1 _ _)).1 (finv_lo hx).1, fturn_q, off_ne c]
    grind
  · show toQ (ftimes R.n (finv (R.f (.inr x)))) * toQ (R.f (.inr x)) = toQ R.n
    rw [toQ_times h.2.1 (finv_lo hx).1]
    grind
theorem ledL_sat {U : List Str} {R : Rw} {x : Str} (nd : U.Nodup) (hu : x ∈ U) (h : LoR R) (hx : (R.f (.inr x)).1 ≠ 0) (P : Key → Rat) : (ledL R x).q.sat (kU U) P ↔ satR U R P := by
  obtain ⟨q1, q2, q3⟩ := ledL_q h hx
  have nz : R.F (.inr x) ≠ 0 := fun y => hx ((top_q (h.1 _)).mpr y)
  have e : Sol.dot (kU U) (fun k => toQ ((ledL R x).g k)) P * R.F (.inr x) + Sol.dot (kU U) R.F P = R.F (.inr x) * P (.inr x) := by
    rw [← Sol.dot_mul, ← Sol.dot_add, Sol.dot_one (x := .inr x) (nd_kU nd) (List.mem_map.mpr ⟨x, hu, rfl⟩) fun k _ c => ?_]
    · rw [q1]
      grind
    · rw [q2 k c]
      grind
  unfold satR
  show P (.inr x) = toQ (ledL R x).n + Sol.dot (kU U) (fun k => toQ ((ledL R x).g k)) P ↔ _
  constructor
  · intro z
    grind
  · intro z
    grind
/-- a line in which a new one is put -/
noncomputable def lput (l m : Lw) : Lw := if (l.g (.inr m.u)).1 = 0 then l else ⟨l.u, fun k => fplus (offF l.g (.inr m.u) k) (ftimes (m.g k) (l.g (.inr m.u))), fplus l.n (ftimes m.n (l.g (.inr m.u)))⟩
theorem lput_u (l m : Lw) : (lput l m).u = l.u := by
  unfold lput
  split <;> rfl
theorem lput_lo {l m : Lw} (h : LoL l) (g : LoL m) : LoL (lput l m) := by
  unfold lput
  split
  · exact h
  · exact ⟨fun k => lo_plus (off_lo h.1 _ k).1 (lo_times (g.1 k).1 (h.1 _).1).1, lo_plus h.2.1 (lo_times g.2.1 (h.1 _).1).1⟩
theorem lput_q {l m : Lw} (h : LoL l) (g : LoL m) (g0 : toQ (m.g (.inr m.u)) = 0) : toQ ((lput l m).g (.inr m.u)) = 0 ∧ (∀ k, k ≠ .inr m.u → toQ ((lput l m).g k) = toQ (l.g k) + toQ (m.g k) * toQ (l.g (.inr m.u))) ∧ toQ (lput l m).n = toQ l.n + toQ m.n * toQ (l.g (.inr m.u)) := by
  unfold lput
  split
  · rename_i e
    have z : toQ (l.g (.inr m.u)) = 0 := (top_q (h.1 _)).mp e
    rw [z]
    exact ⟨rfl, fun k _ => by grind, by grind⟩
  · refine ⟨?_, fun k c => ?_, ?_⟩
    · show toQ (fplus (offF l.g (.inr m.u) (.inr m.u)) (ftimes (m.g (.inr m.u)) (l.g (.inr m.u)))) = 0
      rw [toQ_plus (off_lo h.1 _ _).1 (lo_times (g.1 _).1 (h.1 _).1).1, toQ_times (g.1 _).1 (h.1 _).1, off_same, toQ_zero, g0]
      grind
    · show toQ (fplus (offF l.g (.inr m.u) k) (ftimes (m.g k) (l.g (.inr m.u)))) = _
      rw [toQ_plus (off_lo h.1 _ _).1 (lo_times (g.1 _).1 (h.1 _).1).1, toQ_times (g.1 _).1 (h.1 _).1, off_ne c]
    · show toQ (fplus l.n (ftimes m.n (l.g (.inr m.u)))) = _
      rw [toQ_plus h.2.1 (lo_times g.2.1 (h.1 _).1).1, toQ_times g.2.1 (h.1 _).1]
theorem lput_sat {U : List Str} {l m : Lw} (nd : U.Nodup) (hu : m.u ∈ U) (h : LoL l) (g : LoL m) (g0 : toQ (m.g (.inr m.u)) = 0) {P : Key → Rat} (s : m.q.sat (kU U) P) : (lput l m).q.sat (kU U) P ↔ l.q.sat (kU U) P := by
  obtain ⟨q1, q2, q3⟩ := lput_q h g g0
  have e := dot_off (F := fun k => toQ (l.g k)) (G := fun k => toQ ((lput l m).g k)) (g := fun k => toQ (m.g k)) (P := P) (nd_kU nd) (List.mem_map.mpr ⟨m.u, hu, rfl⟩) q1 q2 g0
  have s' : P (.inr m.u) = toQ m.n + Sol.dot (kU U) (fun k => toQ (m.g k)) P := s
  show P (.inr (lput l m).u) = toQ (lput l m).n + Sol.dot (kU U) (fun k => toQ ((lput l m).g k)) P ↔ P (.inr l.u) = toQ l.n + Sol.dot (kU U) (fun k => toQ (l.g k)) P
  rw [lput_u, e, q3, s']
  constructor
  · intro z
    grind
  · intro z
    grind
end SS
namespace SS
open PySem PySem.Spec PyProof.Rows L2 NumText LamX KyS
theorem Lines.g0 {U : List Str} {ps : List Lw} (h : Lines U ps) {l l' : Lw} (hl : l ∈ ps) (hl' : l' ∈ ps) : toQ (l.g (.inr l'.u)) = 0 := Classical.byContradiction fun c => by
  exact (h.red.sup l.q (List.mem_map.mpr ⟨l, hl, rfl⟩) (.inr l'.u) c).2.2 l'.q (List.mem_map.mpr ⟨l', hl', rfl⟩) rfl
theorem Lines.mem {U : List Str} {ps : List Lw} (h : Lines U ps) {l : Lw} (hl : l ∈ ps) : l.u ∈ U := by
  obtain ⟨z, hz, e⟩ := List.mem_map.mp (h.red.mem l.q (List.mem_map.mpr ⟨l, hl, rfl⟩))
  have e' : z = l.u := Sum.inr.inj e
  rw [← e']
  exact hz
theorem Lines.sub {U : List Str} {ps : List Lw} (h : Lines U ps) {l : Lw} (hl : l ∈ ps) {k : Key} (c : toQ (l.g k) ≠ 0) : k ∈ kU U ∧ ltK (.inr l.u) k ∧ ∀ l' ∈ ps, k ≠ .inr l'.u := by
  obtain ⟨a, b, d⟩ := h.red.sup l.q (List.mem_map.mpr ⟨l, hl, rfl⟩) k c
  exact ⟨a, b, fun l' hl' e => d l'.q (List.mem_map.mpr ⟨l', hl', rfl⟩) e.symm⟩
/-! ### all lines put -/
noncomputable def putAll (ps : List Lw) (R : Rw) : Rw := ps.foldl putL R
theorem putL_in {U : List Str} {ps : List Lw} (h : Lines U ps) {l : Lw} (hl : l ∈ ps) {R : Rw} (lo : LoR R) (i : R.In U) : (putL R l).In U := by
  obtain ⟨q1, q2, _⟩ := putL_q lo (h.lo l hl) (h.g0 hl hl)
  refine (in_q (putL_lo lo (h.lo l hl))).mpr fun k c => ?_
  have kn : k ≠ .inr l.u := fun z => c (by rw [z]; exact q1)
  rw [q2 k kn] at c
  by_cases z : R.F k = 0
  · have z2 : toQ (l.g k) ≠ 0 := fun y => c (by rw [z, y]; grind)
    exact (h.sub hl z2).1
  · exact (in_q lo).mp i k z
theorem putL_lead {U : List Str} {ps : List Lw} (h : Lines U ps) {l l' : Lw} (hl : l ∈ ps) (hl' : l' ∈ ps) {R : Rw} (lo : LoR R) (z : R.F (.inr l'.u) = 0) : (putL R l).F (.inr l'.u) = 0 := by
  obtain ⟨q1, q2, _⟩ := putL_q lo (h.lo l hl) (h.g0 hl hl)
  by_cases c : (Sum.inr l'.u : Key) = .inr l.u
  · rw [c]
    exact q1
  · rw [q2 _ c, z, h.g0 hl hl']
    grind
theorem putAll_ok {U : List Str} {ps : List Lw} (nd : U.Nodup) (h : Lines U ps) : ∀ {qs : List Lw} {R : Rw}, (∀ l ∈ qs, l ∈ ps) → LoR R → R.In U →
    LoR (putAll qs R) ∧ (putAll qs R).In U ∧ (∀ l ∈ ps, (R.F (.inr l.u) = 0 ∨ l ∈ qs) → (putAll qs R).F (.inr l.u) = 0) ∧ ∀ P, Sol.sats (kU U) (ps.map Lw.q) P → (satR U (putAll qs R) P ↔ satR U R P)
  | [], R, _, lo, i => ⟨lo, i, fun l _ c => c.elim id (fun c => (by cases c)), fun P _ => Iff.rfl⟩
  | q :: qs, R, hq, lo, i => by
    have m := hq q (List.mem_cons_self ..)
    obtain ⟨a, b, c, d⟩ := putAll_ok nd h (qs := qs) (R := putL R q) (fun l hl => hq l (List.mem_cons_of_mem _ hl)) (putL_lo lo (h.lo q m)) (putL_in h m lo i)
    refine ⟨a, b, fun l hl e => ?_, fun P s => (d P s).trans (putL_sat nd (h.mem m) lo (h.lo q m) (h.g0 m m) (s q.q (List.mem_map.mpr ⟨q, m, rfl⟩)))⟩
    rcases e with e | e
    · exact c l hl (.inl (putL_lead h m hl lo e))
    · rcases List.mem_cons.mp e with rfl | e
      · exact c l hl (.inl (putL_q lo (h.lo l m) (h.g0 m m)).1)
      · exact c l hl (.inr e)
/-! ### a row more -/
noncomputable def addRow (ps : List Lw) (R : Rw) : List Lw := open Classical in if nz (putAll ps R) then ps.map (fun l => lput l (ledL (putAll ps R) (ldU (putAll ps R)))) ++ [ledL (putAll ps R) (ldU (putAll ps R))] else ps
theorem ex_least {R : Rw} {U : List Str} (i : R.In U) (h : nz R) : ∃ x, (R.f (.inr x)).1 ≠ 0 ∧ ∀ y : Str, (R.f (.inr y)).1 ≠ 0 → leS x y := by
  have key : ∀ V : List Str, (∃ y ∈ V, (R.f (.inr y)).1 ≠ 0) → ∃ x, (R.f (.inr x)).1 ≠ 0 ∧ ∀ y ∈ V, (R.f (.inr y)).1 ≠ 0 → leS x y := fun V => by
    induction V with
    | nil => rintro ⟨y, hy, _⟩; cases hy
    | cons v V ih =>
      rintro ⟨y, hy, c⟩
      by_cases e : ∃ y ∈ V, (R.f (.inr y)).1 ≠ 0
      · obtain ⟨x, a, b⟩ := ih e
        by_cases d : (R.f (.inr v)).1 ≠ 0 ∧ leS v x
        · refine ⟨v, d.1, fun z hz cz => ?_⟩
          rcases List.mem_cons.mp hz with rfl | hz
          · exact leS_refl _
          · exact leS_trans d.2 (b z hz cz)
        · refine ⟨x, a, fun z hz cz => ?_⟩
          rcases List.mem_cons.mp hz with rfl | hz
          · rcases leS_total x z with t | t
            · exact t
            · exact absurd ⟨cz, t⟩ d
          · exact b z hz cz
      · rcases List.mem_cons.mp hy with rfl | hy
        · refine ⟨y, c, fun z hz cz => ?_⟩
          rcases List.mem_cons.mp hz with rfl | hz
          · exact leS_refl _
          · exact absurd ⟨z, hz, cz⟩ e
        · exact absurd ⟨y, hy, c⟩ e
  obtain ⟨y, c⟩ := h
  obtain ⟨y', hy', e⟩ := List.mem_map.mp (i _ c)
  obtain rfl := Sum.inr.inj e
  obtain ⟨x, a, b⟩ := key U ⟨y', hy', c⟩
  refine ⟨x, a, fun z cz => ?_⟩
  obtain ⟨z', hz', e⟩ := List.mem_map.mp (i _ cz)
  obtain rfl := Sum.inr.inj e
  exact b z' hz' cz
theorem addRow_ok {U : List Str} {ps : List Lw} (nd : U.Nodup) (h : Lines U ps) {R : Rw} (lo : LoR R) (i : R.In U) :
    (nz (putAll ps R) → Lines U (addRow ps R) ∧ ∀ P, Sol.sats (kU U) ((addRow ps R).map Lw.q) P ↔ (Sol.sats (kU U) (ps.map Lw.q) P ∧ satR U R P)) ∧
    (¬ nz (putAll ps R) → addRow ps R = ps ∧ ((putAll ps R).n.1 = 0 → ∀ P, Sol.sats (kU U) (ps.map Lw.q) P → satR U R P) ∧ ((putAll ps R).n.1 ≠ 0 → ∀ P, Sol.sats (kU U) (ps.map Lw.q) P → ¬ satR U R P)) := by
  obtain ⟨a, b, c, d⟩ := putAll_ok nd h (qs := ps) (fun l hl => hl) lo i
  unfold addRow
  generalize putAll ps R = R' at a b c d
  constructor
  · intro hn
    rw [if_pos hn]
    obtain ⟨x, x1, x2⟩ := ex_least b hn
    rw [ldU_eq x1 x2]
    have xU : x ∈ U := by
      obtain ⟨z, hz, e⟩ := List.mem_map.mp (b _ x1)
      obtain rfl := Sum.inr.inj e
      exact hz
    have ml := ledL_lo a x1
    obtain ⟨m0, mk, mn⟩ := ledL_q a x1
    have ms := ledL_sat nd xU a x1
    have nzx : R'.F (.inr x) ≠ 0 := fun y => x1 ((top_q (a.1 _)).mpr y)
    have mu : (ledL R' x).u = x := rfl
    have xl : ∀ l ∈ ps, l.u ≠ x := fun l hl z => nzx (by rw [← z]; exact c l hl (.inr hl))
    -- what stands in the new line
    have msub : ∀ k, toQ ((ledL R' x).g k) ≠ 0 → k ≠ .inr x ∧ R'.F k ≠ 0 := fun k q => by
      have k1 : k ≠ .inr x := fun z => q (by rw [z]; exact m0)
      refine ⟨k1, fun z => q ?_⟩
      have := mk k k1
      rw [z] at this
      grind
    have mfull : ∀ k, toQ ((ledL R' x).g k) ≠ 0 → k ∈ kU U ∧ ltK (.inr x) k ∧ k ≠ .inr x ∧ ∀ l ∈ ps, k ≠ .inr l.u := fun k q => by
      obtain ⟨k1, k2⟩ := msub k q
      have kin := (in_q a).mp b k k2
      obtain ⟨y, hy, ey⟩ := List.mem_map.mp kin
      refine ⟨kin, ⟨x, y, rfl, ey.symm, x2 y fun z => k2 ?_, fun z => k1 (by rw [z, ey])⟩, k1, fun l hl z => k2 (by rw [z]; exact c l hl (.inr hl))⟩
      rw [← ey]
      exact (top_q (a.1 _)).mp z
    generalize ledL R' x = m at ml m0 mk mn ms mu msub mfull
    subst mu
    have memN : ∀ l ∈ (ps.map (fun l => lput l m) ++ [m]).map Lw.q, (∃ l0 ∈ ps, l = (lput l0 m).q) ∨ l = m.q := fun l hl => by
      rw [List.map_append, List.map_map] at hl
      rcases List.mem_append.mp hl with hl | hl
      · obtain ⟨l0, h0, e⟩ := List.mem_map.mp hl
        exact .inl ⟨l0, h0, e.symm⟩
      · exact .inr (List.mem_singleton.mp hl)
    refine ⟨⟨fun l hl => ?_, ⟨?_, fun l hl => ?_, fun l hl k q => ?_⟩⟩, fun P => ?_⟩
    · rcases List.mem_append.mp hl with hl | hl
      · obtain ⟨l0, h0, rfl⟩ := List.mem_map.mp hl
        exact lput_lo (h.lo l0 h0) ml
      · rw [List.mem_singleton.mp hl]
        exact ml
    · have e : ((ps.map (fun l => lput l m) ++ [m]).map Lw.q).map (·.u) = (ps.map Lw.q).map (·.u) ++ [(Sum.inr m.u : Key)] := by
        have e0 : ((ps.map fun l => lput l m).map Lw.q).map (·.u) = (ps.map Lw.q).map (·.u) := by
          rw [List.map_map, List.map_map, List.map_map]
          refine List.map_congr_left fun l _ => ?_
          show (Sum.inr (lput l m).u : Key) = .inr l.u
          rw [lput_u]
        rw [List.map_append, List.map_append, e0]
        rfl
      rw [e]
      refine List.nodup_append.mpr ⟨h.red.nd, by simp, fun p hp p' hp' z => ?_⟩
      rw [List.mem_singleton.mp hp'] at z
      obtain ⟨l', hl', e2⟩ := List.mem_map.mp hp
      obtain ⟨l0, h0, e3⟩ := List.mem_map.mp hl'
      rw [← e3] at e2
      exact xl l0 h0 (Sum.inr.inj (e2.trans z))
    · rcases memN l hl with ⟨l0, h0, rfl⟩ | rfl
      · show (Sum.inr (lput l0 m).u : Key) ∈ kU U
        rw [lput_u]
        exact List.mem_map.mpr ⟨l0.u, h.mem h0, rfl⟩
      · exact List.mem_map.mpr ⟨m.u, xU, rfl⟩
    · have key : k ∈ kU U ∧ ltK l.u k ∧ k ≠ .inr m.u ∧ ∀ l ∈ ps, k ≠ .inr l.u := by
        rcases memN l hl with ⟨l0, h0, rfl⟩ | rfl
        · obtain ⟨q1, q2, _⟩ := lput_q (h.lo l0 h0) ml m0
          have k1 : k ≠ .inr m.u := fun z => q (by rw [z]; exact q1)
          have q' : toQ ((lput l0 m).g k) ≠ 0 := q
          rw [q2 k k1] at q'
          show _ ∧ ltK (.inr (lput l0 m).u) k ∧ _
          rw [lput_u]
          by_cases z : toQ (l0.g k) = 0
          · have z1 : toQ (m.g k) ≠ 0 := fun y => q' (by rw [z, y]; grind)
            have z2 : toQ (l0.g (.inr m.u)) ≠ 0 := fun y => q' (by rw [z, y]; grind)
            obtain ⟨f1, f2, f3, f4⟩ := mfull k z1
            exact ⟨f1, ltK_tr (h.sub h0 z2).2.1 f2, f3, f4⟩
          · obtain ⟨f1, f2, f3⟩ := h.sub h0 z
            exact ⟨f1, f2, k1, f3⟩
        · exact mfull k q
      refine ⟨key.1, key.2.1, fun l' hl' z => ?_⟩
      rcases memN l' hl' with ⟨l0, h0, rfl⟩ | rfl
      · have z' : (Sum.inr (lput l0 m).u : Key) = k := z
        rw [lput_u] at z'
        exact key.2.2.2 l0 h0 z'.symm
      · exact key.2.2.1 z.symm
    · constructor
      · intro s
        have sm : m.q.sat (kU U) P := s m.q (by rw [List.map_append]; exact List.mem_append_right _ (List.mem_singleton_self _))
        have sp : Sol.sats (kU U) (ps.map Lw.q) P := fun l hl => by
          obtain ⟨l0, h0, rfl⟩ := List.mem_map.mp hl
          exact (lput_sat nd xU (h.lo l0 h0) ml m0 sm).mp (s (lput l0 m).q (by
            rw [List.map_append, List.map_map]
            exact List.mem_append_left _ (List.mem_map.mpr ⟨l0, h0, rfl⟩)))
        exact ⟨sp, (d P sp).mp ((ms P).mp sm)⟩
      · rintro ⟨sp, sr⟩
        have sm := (ms P).mpr ((d P sp).mpr sr)
        intro l hl
        rcases memN l hl with ⟨l0, h0, rfl⟩ | rfl
        · exact (lput_sat nd xU (h.lo l0 h0) ml m0 sm).mpr (sp l0.q (List.mem_map.mpr ⟨l0, h0, rfl⟩))
        · exact sm
  · intro hn
    rw [if_neg hn]
    have fz : ∀ P, Sol.dot (kU U) R'.F P = 0 := fun P => Sol.dot_zero fun k _ => by rw [nz_no a b hn k, Rat.zero_mul]
    refine ⟨rfl, fun z P s => (d P s).mp ?_, fun z P s w => z ?_⟩
    · unfold satR
      rw [fz]
      exact ((top_q a.2).mp z).symm
    · have := (d P s).mpr w
      unfold satR at this
      rw [fz] at this
      exact (top_q a.2).mpr this.symm
theorem Lines.nil (U : List Str) : Lines U [] := ⟨fun l h => (by cases h), ⟨List.nodup_nil, fun l h => (by cases h), fun l h => (by cases h)⟩⟩
end SS
namespace SS
open PySem PySem.Spec PyProof.Rows L2 NumText LamX KyS
/-! ### how far the fractions of the law's lines grow -/
theorem sorted_ex (U : List Str) : ∃ ys : List Str, ys.Perm U ∧ ys.Pairwise leS := by
  refine ⟨U.mergeSort (fun a b => !ltCps b.cps.toList a.cps.toList), List.mergeSort_perm _ _, ?_⟩
  refine (List.pairwise_mergeSort (le := fun a b : Str => !ltCps b.cps.toList a.cps.toList) (fun a b c h1 h2 => ?_) (fun a b => ?_) U).imp fun {a b} h => ?_
  · rw [Bool.not_eq_true'] at h1 h2 ⊢
    exact leS_trans (a := a) (b := b) (c := c) h1 h2
  · rcases leS_total a b with h | h
    · have h' : ltCps b.cps.toList a.cps.toList = false := h
      simp [h']
    · have h' : ltCps a.cps.toList b.cps.toList = false := h
      simp [h']
  · rw [Bool.not_eq_true'] at h
    exact h
theorem ov_q {D M : Nat} {x y : Int × Int} (h : Ov D M x) (e : toQ y = toQ x) : Ov D M y := by
  obtain ⟨z, e1, hz⟩ := h
  exact ⟨z, by rw [e]; exact e1, hz⟩
theorem ov_neg {D M : Nat} {x y : Int × Int} (h : Ov D M x) (e : toQ y = - toQ x) : Ov D M y := by
  obtain ⟨z, e1, hz⟩ := h
  refine ⟨-z, ?_, by rw [Int.natAbs_neg]; exact hz⟩
  have : ((-z : Int) : Rat) = -(z : Rat) := by exact_mod_cast rfl
  rw [e, this, ← e1]
  grind
theorem ov_zero {D M : Nat} {y : Int × Int} (e : toQ y = 0) : Ov D M y := ⟨0, by rw [e, Rat.zero_mul]; rfl, Nat.zero_le _⟩
def LBd (b : Nat) (l : Lw) : Prop := ∃ D, 0 < D ∧ D ≤ 2 ^ b ∧ (∀ k, Lo (l.g k) ∧ Ov D (2 ^ b) (l.g k)) ∧ Lo l.n ∧ Ov D (2 ^ b) l.n
theorem RB.line {n : Nat} {R : Rw} {u : Str} (h : RB n R) : LBd n (lw R u) := by
  have lo := lw_lo (u := u) h.lo
  have q := lw_q (u := u) h.lo
  obtain ⟨D, d0, d1, o⟩ := h
  refine ⟨D, d0, d1, fun k => ⟨lo.1 k, ?_⟩, lo.2, o.2.2⟩
  have e : toQ ((lw R u).g k) = (lnOf R u).g k := congrFun (congrArg Sol.Ln.g q) k
  by_cases c : k = .inr u
  · refine ov_zero ?_
    rw [e]
    show (if k = .inr u then 0 else - R.F k) = (0 : Rat)
    rw [if_pos c]
  · refine ov_neg (o.1 k).2 ?_
    rw [e]
    show (if k = .inr u then 0 else - R.F k) = _
    rw [if_neg c]
    rfl
theorem LBd.okb {b : Nat} {l : Lw} (h : LBd b l) (hb : b < 1400) : (∀ k, Okb 1400 (l.g k)) ∧ Okb 1400 l.n := by
  obtain ⟨D, d0, d1, h1, h2, h3⟩ := h
  have p : 2 ^ b < 2 ^ 1400 := Nat.pow_lt_pow_right (by decide) hb
  exact ⟨fun k => ov_ok (h1 k).1 (h1 k).2 d0 (Nat.lt_of_le_of_lt d1 p) p, ov_ok h2 h3 d0 (Nat.lt_of_le_of_lt d1 p) p⟩
/-- lines with the points of some rows are as short as what the steps lead to -/
theorem lines_bits {U : List Str} {ps : List Lw} {L : List Nm} {n : Nat} (nd : U.Nodup) (h : Lines U ps) (ndL : (L.map (·.1)).Nodup) (hL : ∀ q ∈ L, q.2.In U ∧ RB n q.2) (e : ∀ P, Sol.sats (kU U) (ps.map Lw.q) P ↔ satA U L P) : ∀ l ∈ ps, LBd (bd n U.length) l := fun l hl => by
  obtain ⟨ys, py, sy⟩ := sorted_ex U
  have fin := elim_fin (U := U) ndL hL (ys := ys) (fun y hy => py.mem_iff.mpr hy) (fun y hy => py.mem_iff.mp hy) sy
  have ok : ∀ q ∈ (elim ys [] L).2, q.2.In U ∧ RB (bd n ys.length) q.2 := fun q' hq => by
    rw [elim_fold ys ndL, ← List.take_length (l := (elim ys [] L).1)] at hq
    exact elim_way ys ndL hL _ q' hq
  have okl : ∀ q ∈ (elim ys [] L).2, q.2.In U ∧ LoR q.2 := fun q' hq => ⟨(ok q' hq).1, (ok q' hq).2.lo⟩
  have ndF : ((elim ys [] L).2.map (·.1)).Nodup := by
    rw [elim_fold ys ndL, fold_nm]
    exact ndL
  have p0 := (e _).mp (Sol.pt_sat h.red fun _ => 0)
  have hz0 := zero_of_sat okl ((elim_sat ys ndL hL _).mpr p0)
  have m := lines_mem nd h (fin.lines ndF okl) (fun P => (e P).trans (((fin.sats nd okl hz0 P).trans (elim_sat ys ndL hL P)).symm)) hl
  obtain ⟨q, hq, e2⟩ := List.mem_map.mp m
  rw [← e2, ← py.length_eq]
  exact (ok q (List.mem_filter.mp hq).1).2.line
/-- a row's fraction at a lead stays, or is nought -/
theorem putAll_coef {U : List Str} {ps : List Lw} (h : Lines U ps) {l' : Lw} (hl' : l' ∈ ps) : ∀ {qs : List Lw} {R : Rw}, (∀ l ∈ qs, l ∈ ps) → LoR R → (putAll qs R).F (.inr l'.u) = R.F (.inr l'.u) ∨ (putAll qs R).F (.inr l'.u) = 0
  | [], R, _, _ => .inl rfl
  | q :: qs, R, hq, lo => by
    have m := hq q (List.mem_cons_self ..)
    obtain ⟨q1, q2, _⟩ := putL_q lo (h.lo q m) (h.g0 m m)
    have ih := putAll_coef h hl' (qs := qs) (R := putL R q) (fun l hl => hq l (List.mem_cons_of_mem _ hl)) (putL_lo lo (h.lo q m))
    have st : (putL R q).F (.inr l'.u) = R.F (.inr l'.u) ∨ (putL R q).F (.inr l'.u) = 0 := by
      by_cases c : (Sum.inr l'.u : Key) = .inr q.u
      · rw [c]
        exact .inr q1
      · refine .inl ?_
        rw [q2 _ c, h.g0 m hl']
        grind
    show (putAll qs (putL R q)).F _ = _ ∨ (putAll qs (putL R q)).F _ = 0
    rcases ih with e | e
    · rw [e]
      exact st
    · exact .inr e
theorem ov_put {D0 E Dl M Lm Z N : Nat} {x g c y : Int × Int} (hx : Ov (D0 * E) M x) (hg : Ov Dl Lm g) (hc : Ov D0 Z c) (hy : toQ y = toQ x + toQ g * toQ c) (hN : M * Dl + Lm * Z * E ≤ N) : Ov (D0 * (E * Dl)) N y := by
  obtain ⟨w, e, hw⟩ := hx
  obtain ⟨v, e2, hv⟩ := hg
  obtain ⟨z, e3, hz⟩ := hc
  refine ⟨w * (Dl : Int) + v * z * (E : Int), ?_, ?_⟩
  · have h1 : (((D0 * (E * Dl) : Nat) : Int) : Rat) = ((D0 : Int) : Rat) * (((E : Int) : Rat) * ((Dl : Int) : Rat)) := by
      rw [Int.natCast_mul, Int.natCast_mul, Rat.intCast_mul, Rat.intCast_mul]
    have h0 : (((D0 * E : Nat) : Int) : Rat) = ((D0 : Int) : Rat) * ((E : Int) : Rat) := by
      rw [Int.natCast_mul, Rat.intCast_mul]
    have h2 : ((w * (Dl : Int) + v * z * (E : Int) : Int) : Rat) = (w : Rat) * ((Dl : Int) : Rat) + (v : Rat) * (z : Rat) * ((E : Int) : Rat) := by
      rw [Rat.intCast_add, Rat.intCast_mul, Rat.intCast_mul, Rat.intCast_mul]
    rw [h0] at e
    rw [h1, h2, hy, ← e, ← e2, ← e3]
    grind
  · refine Nat.le_trans ?_ hN
    have a1 : (w * (Dl : Int) + v * z * (E : Int)).natAbs ≤ (w * (Dl : Int)).natAbs + (v * z * (E : Int)).natAbs := by omega
    refine Nat.le_trans a1 ?_
    rw [Int.natAbs_mul, Int.natAbs_mul, Int.natAbs_mul]
    exact Nat.add_le_add (Nat.mul_le_mul hw (by omega)) (Nat.mul_le_mul (Nat.mul_le_mul hv hz) (by omega))
theorem putAll_bits {U : List Str} {ps : List Lw} {R : Rw} {D0 z b : Nat} (nd : U.Nodup) (h : Lines U ps) (hb : ∀ l ∈ ps, LBd b l) (iu : R.In U) (hR : OvR D0 (2 ^ z) R) : ∀ j, j ≤ ps.length → ∃ E, 0 < E ∧ E ≤ 2 ^ (b * j) ∧ OvR (D0 * E) (2 ^ (z + (b + 1) * j)) (putAll (ps.take j) R) := by
  have lo : LoR R := ⟨fun k => (hR.1 k).1, hR.2.1⟩
  intro j
  induction j with
  | zero =>
    intro _
    refine ⟨1, Nat.one_pos, Nat.one_le_two_pow, ?_⟩
    rw [Nat.mul_one]
    exact hR
  | succ j ih =>
    intro hj
    obtain ⟨E, e0, e1, o⟩ := ih (by omega)
    obtain ⟨l, hl⟩ : ∃ l, ps[j]? = some l := ⟨ps[j], List.getElem?_eq_getElem (by omega)⟩
    have hm := List.mem_of_getElem? hl
    have tk : putAll (ps.take (j + 1)) R = putL (putAll (ps.take j) R) l := by
      unfold putAll
      rw [List.take_add_one, hl, List.foldl_append]
      rfl
    have coef := putAll_coef h hm (qs := ps.take j) (R := R) (fun l hl => List.mem_of_mem_take hl) lo
    obtain ⟨lo1, _⟩ := putAll_ok nd h (qs := ps.take j) (R := R) (fun l hl => List.mem_of_mem_take hl) lo iu
    obtain ⟨Dl, d0, d1, g1, g2, g3⟩ := hb l hm
    rw [tk]
    generalize putAll (ps.take j) R = R1 at o coef lo1 ⊢
    have hc : Ov D0 (2 ^ z) (R1.f (.inr l.u)) := by
      rcases coef with e | e
      · exact ov_q (hR.1 _).2 e
      · exact ov_zero e
    have ll := h.lo l hm
    obtain ⟨q1, q2, q3⟩ := putL_q lo1 ll (h.g0 hm hm)
    have pl := putL_lo lo1 ll
    have hN : 2 ^ (z + (b + 1) * j) * Dl + 2 ^ b * 2 ^ z * E ≤ 2 ^ (z + (b + 1) * (j + 1)) := by
      have a1 : 2 ^ (z + (b + 1) * j) * Dl ≤ 2 ^ (z + (b + 1) * j) * 2 ^ b := Nat.mul_le_mul_left _ d1
      have a2 : 2 ^ b * 2 ^ z * E ≤ 2 ^ b * 2 ^ z * 2 ^ (b * j) := Nat.mul_le_mul_left _ e1
      have a3 : 2 ^ b * 2 ^ z * 2 ^ (b * j) ≤ 2 ^ (z + (b + 1) * j) * 2 ^ b := by
        rw [← Nat.pow_add, ← Nat.pow_add, ← Nat.pow_add]
        refine Nat.pow_le_pow_right (by decide) ?_
        have : (b + 1) * j = b * j + j := by rw [Nat.add_mul, Nat.one_mul]
        omega
      have a4 : 2 ^ (z + (b + 1) * (j + 1)) = 2 ^ (z + (b + 1) * j) * 2 ^ b + 2 ^ (z + (b + 1) * j) * 2 ^ b := by
        have : z + (b + 1) * (j + 1) = z + (b + 1) * j + b + 1 := by
          rw [Nat.mul_add, Nat.mul_one]
          omega
        rw [this, Nat.pow_succ, Nat.pow_add]
        omega
      omega
    refine ⟨E * Dl, Nat.mul_pos e0 d0, ?_, fun k => ⟨pl.1 k, ?_⟩, pl.2, ?_⟩
    · rw [Nat.mul_add, Nat.mul_one, Nat.pow_add]
      exact Nat.mul_le_mul e1 d1
    · by_cases c : k = .inr l.u
      · rw [c]
        exact ov_zero q1
      · exact ov_put (o.1 k).2 (g1 k).2 hc (q2 k c) hN
    · have g3' : Ov Dl (2 ^ b) (fturn l.n) := ov_neg g3 fturn_q
      refine ov_put o.2.2 g3' hc ?_ hN
      rw [fturn_q]
      show (putL R1 l).N = R1.N + - toQ l.n * R1.F (.inr l.u)
      rw [q3]
      grind
end SS
namespace SS
open PySem PySem.Spec PyProof.Rows L2 NumText LamX KyS
theorem DM.drop {m : Nat} {H : Hp} {a : Addr} {kvs : List (Key × V)} {f : Key → Int × Int} {x : Key} (h : DM True m H a kvs f) :
    DM True m (L2.upd H a (.dK (dropK kvs x))) a (dropK kvs x) (offF f x) := by
  obtain ⟨h1, h2, h3, h4, h5⟩ := h
  have keep : ∀ r' xs, H r' = some (.tup xs) → (L2.upd H a (.dK (dropK kvs x))) r' = some (.tup xs) := fun r' xs e => by
    rw [upd_ne fun c => ?_]
    · exact e
    · rw [c, h1] at e
      cases e
  have sub : ∀ p ∈ dropK kvs x, p ∈ kvs ∧ p.1 ≠ x := fun p hp => ⟨(List.mem_filter.mp hp).1, of_decide_eq_true (List.mem_filter.mp hp).2⟩
  refine ⟨upd_same, nd_dropK h2, ?_, fun p hp => ?_, fun k e => ?_⟩
  · exact Nat.le_trans (dropK_le ..) h3
  · obtain ⟨q1, q2⟩ := sub p hp
    have ef : offF f x p.1 = f p.1 := if_neg q2
    rw [ef]
    obtain ⟨g1, ⟨r', g2, g3⟩, g4⟩ := h4 p q1
    exact ⟨g1, ⟨r', g2, keep _ _ g3⟩, g4⟩
  · by_cases c : k = x
    · exact if_pos c
    · refine (if_neg c).trans (h5 k ?_)
      cases e2 : valV kvs k with
      | none => rfl
      | some v =>
        obtain ⟨p, hp, e3, e4⟩ := mem_valV e2
        have hd : p ∈ dropK kvs x := List.mem_filter.mpr ⟨hp, decide_eq_true (by rw [e3]; exact c)⟩
        exact absurd (List.mem_map.mpr ⟨p, hd, e3⟩) (valV_not e)
theorem DM.tight {m : Nat} {H : Hp} {a : Addr} {kvs : List (Key × V)} {f : Key → Int × Int} {U : List Str} (h2 : DM True m H a kvs f) (u : ∀ k, (f k).1 ≠ 0 → k ∈ U.map fun x => (Sum.inr x : Key)) : DM True U.length H a kvs f := by
  refine ⟨h2.1, h2.2.1, ?_, h2.2.2.2⟩
  have s : (kvs.map (·.1)) ⊆ U.map fun x => (Sum.inr x : Key) := fun k hk => by
    obtain ⟨p, hp, rfl⟩ := List.mem_map.mp hk
    exact u _ ((h2.2.2.2.1 p hp).2.2 trivial)
  have := List.Nodup.length_le_of_subset h2.2.1 s
  rw [List.length_map, List.length_map] at this
  exact this
section
variable {P : Program} {w : World} {K : PySem.W.Frag} {mg : Str → Option Value} {base : Heap}
/-! ### _law_put_lines -/
def spPutLines (K : PySem.W.Frag) : Sp := fun vs H Q _ => ∃ (ll a nb : Addr) (ls : List LnE) (kvs : List (Key × V)) (R : Rw) (U : List Str), vs = [.ref ll, .ref a, .ref nb] ∧ SqL K H ll (ls.map fun e => V.ref e.t) ∧ (∀ e ∈ ls, LnOk K U.length H e) ∧ DM True U.length H a kvs R.f ∧ FrT K H nb R.n.1 R.n.2 ∧
  Lines U (ls.map (·.l)) ∧ U.length ≤ 20 ∧ U.Nodup ∧ R.In U ∧ (∀ i, (∀ k, SS.Okb 2950 ((putAll ((ls.map (·.l)).take i) R).f k)) ∧ SS.Okb 2950 (putAll ((ls.map (·.l)).take i) R).n) ∧ (∀ e ∈ ls, (∀ k, SS.Okb 1400 (e.l.g k)) ∧ SS.Okb 1400 e.l.n) ∧ (∀ i, ∀ e ∈ ls, SS.Okb 1400 ((putAll ((ls.map (·.l)).take i) R).f (.inr e.l.u))) ∧
  ∀ H' t c nb' ks, Same H H' → H' t = some (.tup [.ref c, .ref nb']) → H t = none → H c = none → DM True U.length H' c ks (putAll (ls.map (·.l)) R).f → FrT K H' nb' (putAll (ls.map (·.l)) R).n.1 (putAll (ls.map (·.l)) R).n.2 → Q (.ref t) H'
theorem scPutLines : FnScope ["_law_lines_here", "_law_one", "_law_number_here", "_law_left", "_law_unknown", "_law_other", "_law_more", "_law_many"] ["_law_lines_here", "_law_one", "_law_number_here"] (defScope sPutLines) := ⟨rfl, rfl, rfl, by decide +kernel, rfl, by decide +kernel, by decide +kernel⟩
theorem ok_putlines {f' : Addr} {fd : FuncData} (F : Fun K "_law_put_lines" "_law_put_lines" sPutLines f' fd) (md : mg "dict" = none) (ad : Cl P w K mg base CX0 4 "_law_add" (spAdd K) []) (pl : Cl P w K mg base CX0 3 "_law_plus" (spPlus K) []) (tm : Cl P w K mg base CX0 3 "_law_times" (spTimes K) []) (tu : Cl P w K mg base CX0 1 "_law_turned" spTurned []) :
    FnOk P w K mg base CX0 5 f' fd ["_law_lines_here", "_law_one", "_law_number_here"] (spPutLines K) := by
  refine F.ok scPutLines (fun vs H Q E h => ?_) (fun cdv A outer s H vs Q E hr h => ?_)
  · obtain ⟨_, _, _, _, _, _, _, rfl, _⟩ := h
    rfl
  · obtain ⟨ll, a, nb, ls, kvs, R, U, rfl, hS, hls, da, fnb, lin, hU, ndU, iu, okR, okl, okm, q⟩ := h
    have hu := hu_of hr
    refine ⟨_, pss_cons (ps_set (i := 3) scPutLines.nd rfl (.inl rfl) (pe_callTy call_dictD (by rfl) md (by decide +kernel) (pa_cons (pv 1) pa_nil)))
      (pss_cons (ps_for PassesOwn.never rfl (pi_list (pv 0)) (pg_tup rfl (pgs_cons (pg_name (i := 4) scPutLines.nd rfl (.inl rfl)) (pgs_cons (pg_name (i := 5) scPutLines.nd rfl (.inl rfl)) (pgs_cons (pg_name (i := 6) scPutLines.nd rfl (.inl rfl)) pgs_nil))))
        (pss_one (ps_if (pt_cmp (pc_din hu (pv 4) (pv 3)))
          (pss_cons (ps_set (i := 7) scPutLines.nd rfl (.inl rfl) (pe_dpop1 (pv 3) (pv 4) ⟨rfl, rfl, rfl, rfl⟩))
          (pss_cons (ps_set (i := 3) scPutLines.nd rfl (.inl rfl) (pc0 ad hr (by decide) (pa_cons (pv 3) (pa_cons (pv 5) (pa_cons (pv 7) pa_nil)))))
          (pss_one (ps_set (i := 2) scPutLines.nd rfl (.inl rfl) (pc0 pl hr (by decide) (pa_cons (pv 2) (pa_cons (pc0 tm hr (by decide) (pa_cons (pv 6) (pa_cons (pc0 tu hr (by decide) (pa_cons (pv 7) pa_nil)) pa_nil))) pa_nil)))))))
          pss_nil)))
      (pss_one (ps_ret (pe_tup (pa_cons (pv 3) (pa_cons (pv 2) pa_nil)))))), ?_⟩
    have loR : LoR R := ⟨fun k => ((okR 0).1 k).lo, (okR 0).2.lo⟩
    have pok : ∀ i, LoR (putAll ((ls.map (·.l)).take i) R) ∧ (putAll ((ls.map (·.l)).take i) R).In U := fun i => by
      obtain ⟨z1, z2, _⟩ := putAll_ok ndU lin (qs := (ls.map (·.l)).take i) (R := R) (fun l hl => List.mem_of_mem_take hl) loR iu
      exact ⟨z1, z2⟩
    refine ⟨_, rfl, a, kvs, rfl, .inl da.1, fun c nc => ?_⟩
    have s1 := same_new (o := .dK kvs) nc
    refine ⟨_, rfl, ll, rfl, ⟨_, KyS.SqL.extN hS (ExtN.same s1)⟩, ?_⟩
    refine for_list (K := K) (a := ll) (xs := ls.map fun e => V.ref e.t) (fun i σ H' => ∃ (y4 y5 y6 y7 : Option V) (c nb : Addr) (ks : List (Key × V)), σ = [some (.ref ll), some (.ref a), some (.ref nb), some (.ref c), y4, y5, y6, y7] ∧ Same H H' ∧ H c = none ∧
        DM True U.length H' c ks (putAll ((ls.map (·.l)).take i) R).f ∧ FrT K H' nb (putAll ((ls.map (·.l)).take i) R).n.1 (putAll ((ls.map (·.l)).take i) R).n.2)
      ⟨none, none, none, none, c, nb, kvs, rfl, s1, nc, da.copy nc, fnb.new s1⟩ (fun i σ H' _ ⟨_, _, _, _, _, _, _, _, s, _⟩ => KyS.SqL.extN hS (ExtN.same s)) ?_ ?_
    · rintro i v σ H' hv ⟨y4, y5, y6, y7, c, nb, ks, rfl, S, nc, dm, fnb⟩
      rw [List.getElem?_map] at hv
      obtain ⟨e, hei, rfl⟩ := Option.map_eq_some_iff.mp hv
      have hem := List.mem_of_getElem? hei
      have he := (hls e hem).extN (ExtN.same S)
      obtain ⟨h1, ⟨kl, dl⟩, h3, h4⟩ := id he
      have tk : putAll ((ls.map (·.l)).take (i + 1)) R = putL (putAll ((ls.map (·.l)).take i) R) e.l := by
        have z : (ls.map (·.l))[i]? = some e.l := by rw [List.getElem?_map, hei]; rfl
        unfold putAll
        rw [List.take_add_one, z, List.foldl_append]
        rfl
      have iu' := (pok (i + 1)).2
      have ok1 := okR i
      have om := okm i e hem
      rw [tk] at iu' ⊢
      generalize putAll ((ls.map (·.l)).take i) R = R1 at dm fnb iu' ok1 om ⊢
      refine ⟨e.t, _, rfl, SqT.of h1, rfl, _, _, rfl, _, _, rfl, _, _, rfl, rfl, ?_⟩
      refine ⟨_, rfl, _, rfl, c, valV ks (.inr e.l.u), rfl, DGet.k (k := .inr e.l.u) dm.1, _, rfl, ite2 (fun c1 => ?_) (fun c1 => ?_)⟩
      · obtain ⟨v2, ev⟩ := Option.isSome_iff_exists.mp c1
        obtain ⟨r, rfl, hr1⟩ := dm.get ev
        have c3 : (R1.f (.inr e.l.u)).1 ≠ 0 := by
          obtain ⟨p, hp, e3, e4⟩ := mem_valV ev
          have := (dm.2.2.2.1 p hp).2.2 trivial
          rw [e3] at this
          exact this
        have ep : putL R1 e.l = ⟨fun k => fplus (offF R1.f (.inr e.l.u) k) (ftimes (e.l.g k) (R1.f (.inr e.l.u))), R1.s, fplus R1.n (ftimes e.l.n (fturn (R1.f (.inr e.l.u))))⟩ := by
          unfold putL
          rw [if_neg c3]
        rw [ep] at iu' ⊢
        refine ⟨_, rfl, c, rfl, .inl ⟨_, .inl dm.1⟩, _, rfl, _, .inr e.l.u, .ref r, dm.1, rfl, ev, ?_⟩
        have dd := DM.drop (x := .inr e.l.u) dm
        have kd : ∀ b o, b ≠ c → H' b = some o → (L2.upd H' c (.dK (dropK ks (.inr e.l.u)))) b = some o := fun b o n h => by
          rw [upd_ne n]
          exact h
        have kt : KpT H' (L2.upd H' c (.dK (dropK ks (.inr e.l.u)))) := KpT.but dm.1 (fun ys => ⟨by simp, by simp⟩) kd
        have S2 : Same H (L2.upd H' c (.dK (dropK ks (.inr e.l.u)))) := fun b o h => kd b o (ne_of_none h nc) (S _ _ h)
        have ec : e.c ≠ c := by
          obtain ⟨_, ⟨kk, dk⟩, _⟩ := hls e hem
          exact ne_of_none dk.1 nc
        have he2 := he.kpT kt fun l h => kd _ _ ec h
        have hr2 := kt r _ ⟨_, .inl rfl⟩ hr1
        have fnb2 := fnb.kpT kt
        generalize L2.upd H' c (.dK (dropK ks (.inr e.l.u))) = H2 at dd S2 he2 hr2 fnb2
        obtain ⟨g1, ⟨kl2, dl2⟩, g3, _⟩ := he2
        have okf : ∀ k, SS.Okb 2950 (offF R1.f (.inr e.l.u) k) := fun k => by
          by_cases c2 : k = .inr e.l.u
          · rw [c2, off_same]
            exact ⟨by decide, by decide, by decide, by decide⟩
          · rw [off_ne c2]
            exact ok1.1 k
        refine ⟨_, rfl, _, rfl, _, rfl, c, e.c, r, _, kl2, offF R1.f (.inr e.l.u), e.l.g, R1.f (.inr e.l.u), U.length, U.length, rfl, dd, dl2.toF, FrT.of hr2, okf, (okl e hem).1, om, by omega, by omega, fun H3 c3 ks3 s3 nc3 d3 => ?_⟩
        refine ⟨_, rfl, _, rfl, _, rfl, r, _, _, rfl, s3 _ _ hr2, fun p np => ?_⟩
        have s4 := same_new (o := .tup [.int (0 - (R1.f (.inr e.l.u)).1), .int (R1.f (.inr e.l.u)).2]) np
        have ot : SS.Okb 1400 (fturn (R1.f (.inr e.l.u))) := ⟨om.1, by show (0 - (R1.f (.inr e.l.u)).1).natAbs < _; rw [Int.zero_sub, Int.natAbs_neg]; exact om.2.1, om.2.2.1, (fturn_lo om.lo).2⟩
        refine ⟨e.l.n.1, e.l.n.2, (fturn (R1.f (.inr e.l.u))).1, (fturn (R1.f (.inr e.l.u))).2, two_of (A := e.l.n) (B := fturn (R1.f (.inr e.l.u))) (g3.new (s3.trans s4)) (FrT.of upd_same) (okl e hem).2 ot (by decide) (by decide), fun p2 np2 => ?_⟩
        have s5 := same_new (o := .tup [.int (ftimes e.l.n (fturn (R1.f (.inr e.l.u)))).1, .int (ftimes e.l.n (fturn (R1.f (.inr e.l.u)))).2]) np2
        have ott := okb_times (okl e hem).2 ot
        refine ⟨R1.n.1, R1.n.2, (ftimes e.l.n (fturn (R1.f (.inr e.l.u)))).1, (ftimes e.l.n (fturn (R1.f (.inr e.l.u)))).2, two_of (A := R1.n) (B := ftimes e.l.n (fturn (R1.f (.inr e.l.u)))) (fnb2.new ((s3.trans s4).trans s5)) (FrT.of upd_same) ok1.2 ott (by decide) (by decide), fun p3 np3 => ?_⟩
        have s6 := same_new (o := .tup [.int (fplus R1.n (ftimes e.l.n (fturn (R1.f (.inr e.l.u))))).1, .int (fplus R1.n (ftimes e.l.n (fturn (R1.f (.inr e.l.u))))).2]) np3
        have S6 := (s4.trans s5).trans s6
        exact ⟨_, _, _, _, c3, p3, ks3, rfl, (S2.trans s3).trans S6, S2.free nc3, (DM.tight d3 iu').same S6, FrT.of upd_same⟩
      · have c3 : (R1.f (.inr e.l.u)).1 = 0 := by
          cases ev : valV ks (.inr e.l.u) with
          | none => rw [dm.2.2.2.2 _ ev]
          | some v2 =>
            rw [ev] at c1
            exact absurd rfl c1
        have ep : putL R1 e.l = R1 := by
          unfold putL
          rw [if_pos c3]
        rw [ep]
        exact ⟨_, _, _, _, c, nb, ks, rfl, S, nc, dm, fnb⟩
    · rintro σ H' ⟨y4, y5, y6, y7, c, nb, ks, rfl, S, nc, dm, fnb⟩
      rw [List.length_map, List.take_of_length_le (by rw [List.length_map]; exact Nat.le_refl _)] at dm fnb
      refine ⟨_, rfl, _, rfl, small2, fun t nt => ?_⟩
      have st := same_new (o := .tup [.ref c, .ref nb]) nt
      exact q _ t c nb ks (S.trans st) upd_same (S.free nt) nc (dm.same st) (fnb.new st)
end
end SS
namespace SS
open PySem PySem.Spec PyProof.Rows L2 NumText LamX KyS
section
variable {P : Program} {w : World} {K : PySem.W.Frag} {mg : Str → Option Value} {base : Heap}
/-! ### _law_led -/
def spLed (K : PySem.W.Frag) : Sp := fun vs H Q _ => ∃ (a nb : Addr) (kvs : List (Key × V)) (R : Rw) (U : List Str), vs = [.ref a, .ref nb] ∧ DM True U.length H a kvs R.f ∧ FrT K H nb R.n.1 R.n.2 ∧ kvs ≠ [] ∧ (∀ k, SS.Okb 2950 (R.f k)) ∧ SS.Okb 2950 R.n ∧ U.length ≤ 20 ∧
  ∀ H' t c b ks x, Same H H' → H' t = some (.tup [.str x, .ref c, .ref b]) → H t = none → H c = none → DM True U.length H' c ks (ledL R x).g → FrT K H' b (ledL R x).n.1 (ledL R x).n.2 → (R.f (.inr x)).1 ≠ 0 → (∀ y : Str, (R.f (.inr y)).1 ≠ 0 → leS x y) → NmOk x → Q (.ref t) H'
theorem scLed : FnScope ["_law_one", "_law_number_here", "_law_lead", "_law_by", "_law_other", "_law_key"] ["_law_one", "_law_number_here"] (defScope sLed) := ⟨rfl, rfl, rfl, by decide +kernel, rfl, by decide +kernel, by decide +kernel⟩
theorem ok_led {f' : Addr} {fd : FuncData} (F : Fun K "_law_led" "_law_led" sLed f' fd) (mm : mg "min" = none) (md : mg "dict" = none) (fr : Cl P w K mg base CX0 2 "_law_frac" spFrac []) (tm : Cl P w K mg base CX0 3 "_law_times" (spTimes K) []) (tu : Cl P w K mg base CX0 1 "_law_turned" spTurned []) :
    FnOk P w K mg base CX0 4 f' fd ["_law_one", "_law_number_here"] (spLed K) := by
  refine F.ok scLed (fun vs H Q E h => ?_) (fun cdv A outer s H vs Q E hr h => ?_)
  · obtain ⟨_, _, _, _, _, rfl, _⟩ := h
    rfl
  · obtain ⟨a, nb, kvs, R, U, rfl, da, fnb, kne, okf, okn, hU, q⟩ := h
    have hu := hu_of hr
    refine ⟨_, pss_cons (ps_set (i := 2) scLed.nd rfl (.inr rfl) (pe_callB (cr_minT rfl) (by rfl) mm boot_min (pa_cons (pv 0) pa_nil)))
      (pss_cons (ps_set (i := 3) scLed.nd rfl (.inr rfl) (pc0 fr hr (by decide) (pa_cons (pe_ix (ix_tupK (K := K) rfl) (pe_dget hu (pv 0) (pv 2) (fun _ _ => rfl)) pe_int (fun _ _ => rfl)) (pa_cons (pe_ix (ix_tupK (K := K) rfl) (pe_dget hu (pv 0) (pv 2) (fun _ _ => rfl)) pe_int (fun _ _ => rfl)) pa_nil))))
      (pss_cons (ps_set (i := 4) scLed.nd rfl (.inl rfl) (pe_callTy (call_dictP rfl) (by rfl) md (by decide +kernel) (pa_cons (pe_lock (pe_lc (own := [("_law_key", 5)]) (g := gName 5) rfl scLed.nd (pi_keys (pv 0)) (blkOk_by (by rfl))
        (fun _ _ _ _ _ => pg_name (i := 5) scLed.nd rfl (Or.inl rfl)) (fun _ _ _ _ _ => pts_one (pt_cmpR op_ne (pv 5) (pv 2) (nomark _)))
        (fun _ _ _ _ _ => pe_tup (pa_cons (pv 5) (pa_cons (pc0 tm hr (by decide) (pa_cons (pc0 tu hr (by decide) (pa_cons (pe_dget hu (pv 0) (pv 5) (fun _ _ => rfl)) pa_nil)) (pa_cons (pv 3) pa_nil))) pa_nil))))) pa_nil)))
      (pss_one (ps_ret (pe_tup (pa_cons (pv 2) (pa_cons (pv 4) (pa_cons (pc0 tm hr (by decide) (pa_cons (pv 1) (pa_cons (pv 3) pa_nil))) pa_nil)))))))), ?_⟩
    refine ⟨_, rfl, a, kvs, kvs.map fun p => nmOf p.1, rfl, da.1, keys_nm da, fun z => kne (List.map_eq_nil_iff.mp z), fun x hx hle => ?_⟩
    obtain ⟨okx, rx, vx, hrx⟩ := nm_of_mem da hx
    obtain ⟨px, hpx, epx⟩ := List.mem_map.mp hx
    have topx : (R.f (.inr x)).1 ≠ 0 := by
      obtain ⟨⟨x', e1, _⟩, _, nz⟩ := da.2.2.2.1 px hpx
      have := nz trivial
      rw [e1] at this epx
      have ee : x' = x := epx
      rw [ee] at this
      exact this
    have lex : ∀ y : Str, (R.f (.inr y)).1 ≠ 0 → leS x y := fun y c => hle y (by
      have z : (Sum.inr y : Key) ∈ kvs.map (·.1) := Classical.byContradiction fun z => c (by rw [da.out z])
      rw [keys_nm da] at z
      obtain ⟨y', hy', e⟩ := List.mem_map.mp z
      rw [← Sum.inr.inj e]
      exact hy')
    have ox := okf (.inr x)
    have dgx : DGet H a (.str x) (some (.ref rx)) := .inl ⟨kvs, .inr x, .inl da.1, rfl, vx.symm⟩
    refine ⟨_, rfl, _, rfl, a, _, rfl, dgx, rx, _, 1, _, rfl, rfl, SqT.of hrx, atI_nat (j := 1) rfl, _, rfl, _, rfl, a, _, rfl, dgx, rx, _, 0, _, rfl, rfl, SqT.of hrx, atI_nat (j := 0) rfl, (R.f (.inr x)).2, (R.f (.inr x)).1, rfl, topx, sm_mono ox.2.1 (by decide), fun b nb0 => ?_⟩
    have s0 := same_new (o := .tup [.int (fr1 (R.f (.inr x)).2 (R.f (.inr x)).1), .int (fr2 (R.f (.inr x)).2 (R.f (.inr x)).1)]) nb0
    have hb : (upd H b (.tup [.int (fr1 (R.f (.inr x)).2 (R.f (.inr x)).1), .int (fr2 (R.f (.inr x)).2 (R.f (.inr x)).1)])) b = some (.tup [.int (finv (R.f (.inr x))).1, .int (finv (R.f (.inr x))).2]) := by
      rw [finv_eq]
      exact upd_same
    generalize upd H b (.tup [.int (fr1 (R.f (.inr x)).2 (R.f (.inr x)).1), .int (fr2 (R.f (.inr x)).2 (R.f (.inr x)).1)]) = H1 at s0 hb
    have oby := finv_okb ox topx
    have da1 := da.same s0
    refine ⟨a, .dK kvs, da1.1, trivial, fun od => ⟨_, rfl, a, od, rfl, .inl ⟨kvs, upd_same, fun D nD => ?_⟩⟩⟩
    have nDH : H1 D = none := by
      cases e : H1 D with
      | none => rfl
      | some o =>
        by_cases c : D = a
        · rw [c, upd_same] at nD
          cases nD
        · rw [upd_ne c, e] at nD
          cases nD
    have aD : a ≠ D := ne_of_none da1.1 nDH
    have ml : kvs.length ≤ U.length := da.2.2.1
    refine lc_it walk_keys (fun i H' => ∃ (ts : List Addr) (ks : List (Key × V)), H' D = some (.lst (ts.map V.ref)) ∧ H' a = some (.frz od (.dK kvs)) ∧ (∀ x o, x ≠ a → x ≠ D → H1 x = some o → H' x = some o) ∧ ks.map (·.1) = ((kvs.take i).filter fun p => decide (p.1 ≠ .inr x)).map (·.1) ∧
        Paired (fun (t : Addr) (q : Key × V) => H' t = some (.tup [kV q.1, q.2])) ts ks ∧ ∀ p ∈ ks, ∃ r, p.2 = .ref r ∧ H' r = some (.tup [.int (ftimes (fturn (R.f p.1)) (finv (R.f (.inr x)))).1, .int (ftimes (fturn (R.f p.1)) (finv (R.f (.inr x)))).2]))
      ⟨[], [], upd_same, by rw [upd_ne aD]; exact upd_same, fun x o n1 n2 e => by rw [upd_ne n2, upd_ne n1]; exact e, rfl, .nil, fun p hp => absurd hp List.not_mem_nil⟩ (fun _ _ _ ⟨_, _, _, w2, _⟩ => w2) ?_ ?_
    · rintro i y H2 H' hi ⟨ts, ks, w1, w2, w3, w4, w5, w6⟩ ⟨rfl, key, v, hkv, rfl⟩
      obtain ⟨⟨nx, e1, okx⟩, ⟨rv, e2, e3⟩, _⟩ := da1.2.2.2.1 (key, v) (List.mem_of_getElem? hkv)
      have e2' : v = .ref rv := e2
      have e1' : key = .inr nx := e1
      subst e2' e1'
      have ev : valV kvs (.inr nx) = some (.ref rv) := val_nodup da1.2.1 (.inr nx, .ref rv) (List.mem_of_getElem? hkv)
      have rva : rv ≠ a := fun c => by
        rw [c, da1.1] at e3
        cases e3
      have dg : DGet H' a (kV (.inr nx)) (some (.ref rv)) := .inl ⟨kvs, .inr nx, .inr ⟨od, w2⟩, rfl, ev.symm⟩
      have tl : ts.length ≤ 20 := by
        have z := (paired_at w5).1
        have z2 : ks.length = ((kvs.take i).filter fun p => decide (p.1 ≠ .inr x)).length := by
          have z3 := congrArg List.length w4
          rw [List.length_map, List.length_map] at z3
          exact z3
        have z4 := List.length_filter_le (fun p : Key × V => decide (p.1 ≠ .inr x)) (kvs.take i)
        rw [List.length_take] at z4
        omega
      refine ⟨rfl, _, rfl, _, rfl, rfl, _, rfl, ite2 (fun e => ?_) (fun e => ?_)⟩
      · have nex : nx ≠ x := fun z => by
          rw [z] at e
          have e9 : (!decide (V.str x = V.str x)) = true := e
          rw [decide_eq_true rfl] at e9
          cases e9
        have kne2 : decide ((Sum.inr nx : Key) ≠ .inr x) = true := decide_eq_true fun z => nex (Sum.inr.inj z)
        have on := okf (.inr nx)
        have ot : SS.Okb 2950 (fturn (R.f (.inr nx))) := ⟨on.1, by show (0 - (R.f (.inr nx)).1).natAbs < _; rw [Int.zero_sub, Int.natAbs_neg]; exact on.2.1, on.2.2.1, (fturn_lo on.lo).2⟩
        refine ⟨_, rfl, _, rfl, _, rfl, a, _, rfl, dg, rv, (R.f (.inr nx)).1, (R.f (.inr nx)).2, rfl, w3 _ _ rva (ne_of_none e3 nDH) e3, fun r nr => ?_⟩
        have s4 := same_new (o := .tup [.int (0 - (R.f (.inr nx)).1), .int (R.f (.inr nx)).2]) nr
        have bD : b ≠ D := ne_of_none hb nDH
        have ba : b ≠ a := fun z => by rw [z, da1.1] at hb; cases hb
        refine ⟨_, rfl, (fturn (R.f (.inr nx))).1, (fturn (R.f (.inr nx))).2, (finv (R.f (.inr x))).1, (finv (R.f (.inr x))).2, two_of (A := fturn (R.f (.inr nx))) (B := finv (R.f (.inr x))) (FrT.of upd_same) (FrT.of (s4 _ _ (w3 _ _ ba bD hb))) ot oby (by decide) (by decide), fun r5 nr5 => ⟨small2, fun T nT => ?_⟩⟩
        have s5 := same_new (o := .tup [.int (ftimes (fturn (R.f (.inr nx))) (finv (R.f (.inr x)))).1, .int (ftimes (fturn (R.f (.inr nx))) (finv (R.f (.inr x)))).2]) nr5
        have s6 := same_new (o := .tup [kV (.inr nx), .ref r5]) nT
        have S5 := (s4.trans s5).trans s6
        have hT := upd_same (H := upd (upd H' r (.tup [.int (0 - (R.f (.inr nx)).1), .int (R.f (.inr nx)).2])) r5 (.tup [.int (ftimes (fturn (R.f (.inr nx))) (finv (R.f (.inr x)))).1, .int (ftimes (fturn (R.f (.inr nx))) (finv (R.f (.inr x)))).2])) (a := T) (o := .tup [kV (.inr nx), .ref r5])
        have hr5 := s6 _ _ (upd_same (H := upd H' r (.tup [.int (0 - (R.f (.inr nx)).1), .int (R.f (.inr nx)).2])) (a := r5) (o := .tup [.int (ftimes (fturn (R.f (.inr nx))) (finv (R.f (.inr x)))).1, .int (ftimes (fturn (R.f (.inr nx))) (finv (R.f (.inr x)))).2]))
        have hD5 := S5 _ _ w1
        have kD := keep_l (o := .lst (ts.map V.ref ++ [.ref T])) hD5
        refine ⟨_, hD5, ?_, ts ++ [T], ks ++ [(.inr nx, .ref r5)], ?_, ?_, ?_, ?_, ?_, ?_⟩
        · rw [List.length_map]
          exact small1000 (by omega)
        · rw [upd_same, List.map_append]
          rfl
        · rw [upd_ne aD]
          exact S5 _ _ w2
        · intro x o n1 n2 e
          rw [upd_ne n2]
          exact S5 _ _ (w3 x o n1 n2 e)
        · rw [take_snoc hkv, List.filter_append, List.filter_cons_of_pos (p := fun p : Key × V => decide (p.1 ≠ .inr x)) kne2, List.filter_nil, List.map_append, List.map_append, w4]
          rfl
        · exact Paired.snocX (Paired.impX w5 fun t q' ht => kD _ _ (S5 _ _ ht)) (kD _ _ hT)
        · intro p hp
          rcases List.mem_append.mp hp with z | z
          · obtain ⟨r', g1, g2⟩ := w6 p z
            exact ⟨r', g1, kD _ _ (S5 _ _ g2)⟩
          · rw [List.mem_singleton.mp z]
            exact ⟨r5, rfl, kD _ _ hr5⟩
      · have nex : nx = x := by
          by_cases c : nx = x
          · exact c
          · exact absurd (by show (!decide (V.str nx = V.str x)) = true; rw [decide_eq_false fun z => c (V.str.inj z)]; rfl) e
        refine ⟨ts, ks, w1, w2, w3, ?_, w5, w6⟩
        rw [take_snoc hkv, List.filter_append, List.filter_cons_of_neg (by simp [nex]), List.filter_nil, List.append_nil]
        exact w4
    · rintro H' ⟨ts, ks, w1, w2, w3, w4, w5, w6⟩
      rw [List.take_length] at w4
      have kA : ∀ x ys, H' x = some (.tup ys) → (upd H' a (.dK kvs)) x = some (.tup ys) := fun x ys e => by
        rw [upd_ne fun c => ?_]
        · exact e
        · rw [c, w2] at e
          cases e
      have S : Same H1 (upd H' a (.dK kvs)) := fun x o e => by
        by_cases c : x = a
        · subst c
          rw [upd_same, ← da1.1]
          exact e
        · rw [upd_ne c]
          exact w3 x o c (ne_of_none e nDH) e
      refine ⟨w2, D, ts, ks, rfl, SqL.of (by rw [upd_ne aD.symm]; exact w1), Paired.impX w5 (fun t q' ht => SqT.of (kA _ _ ht)), fun c nc => ?_⟩
      have nd : (ks.map (·.1)).Nodup := by
        rw [w4]
        exact da1.2.1.sublist ((List.filter_sublist).map _)
      rw [merge_nd ks [] nd]
      have s7 := same_new (o := .dK ([] ++ ks)) nc
      have S7 := S.trans s7
      have dmc : DM True U.length (upd (upd H' a (.dK kvs)) c (.dK ([] ++ ks))) c ks (ledL R x).g := by
        refine ⟨upd_same, nd, ?_, fun p hp => ?_, fun k e => ?_⟩
        · have z3 := congrArg List.length w4
          rw [List.length_map, List.length_map] at z3
          have z4 := List.length_filter_le (fun p : Key × V => decide (p.1 ≠ .inr x)) kvs
          omega
        · obtain ⟨r, g1, g2⟩ := w6 p hp
          have hk : p.1 ∈ (kvs.filter fun p => decide (p.1 ≠ .inr x)).map (·.1) := by
            rw [← w4]
            exact List.mem_map.mpr ⟨p, hp, rfl⟩
          obtain ⟨p', hp', ep⟩ := List.mem_map.mp hk
          obtain ⟨hp1, hp2⟩ := List.mem_filter.mp hp'
          obtain ⟨⟨x', ex, ox'⟩, _, nz⟩ := da1.2.2.2.1 p' hp1
          have z := nz trivial
          have ep' : p'.1 = p.1 := ep
          have pne : p.1 ≠ .inr x := by rw [← ep']; exact of_decide_eq_true hp2
          have eg : (ledL R x).g p.1 = ftimes (fturn (R.f p.1)) (finv (R.f (.inr x))) := by
            show ftimes (fturn (offF R.f (.inr x) p.1)) _ = _
            rw [off_ne pne]
          rw [eg]
          refine ⟨⟨x', by rw [← ep']; exact ex, ox'⟩, ⟨r, g1, s7 _ _ (kA _ _ g2)⟩, fun _ z0 => ?_⟩
          rw [ep'] at z
          have lp := (okf p.1).lo
          have q1 := (top_q (lo_times (fturn_lo lp).1 (finv_lo topx).1)).mp z0
          rw [toQ_times (fturn_lo lp).1 (finv_lo topx).1, fturn_q] at q1
          have n1 : toQ (R.f p.1) ≠ 0 := fun y => z ((top_q lp).mpr y)
          have n2 := finv_q (okf (.inr x)).lo topx
          grind
        · show ftimes (fturn (offF R.f (.inr x) k)) (finv (R.f (.inr x))) = (0, 1)
          have zo : offF R.f (.inr x) k = (0, 1) := by
            by_cases c2 : k = .inr x
            · rw [c2, off_same]
            · rw [off_ne c2]
              refine da1.out fun z => valV_not e ?_
              rw [w4]
              obtain ⟨p, hp, ep⟩ := List.mem_map.mp z
              exact List.mem_map.mpr ⟨p, List.mem_filter.mpr ⟨hp, decide_eq_true (by rw [show p.1 = k from ep]; exact c2)⟩, ep⟩
          rw [zo, show fturn (0, 1) = (0, 1) from rfl, zero_ftimes oby]
      have nc1 : H1 c = none := S.free nc
      have hb7 := S7 _ _ hb
      have fn7 := fnb.new (s0.trans S7)
      generalize upd (upd H' a (.dK kvs)) c (.dK ([] ++ ks)) = H7 at S7 dmc hb7 fn7 ⊢
      refine ⟨_, rfl, _, rfl, _, rfl, _, rfl, R.n.1, R.n.2, (finv (R.f (.inr x))).1, (finv (R.f (.inr x))).2, two_of (A := R.n) (B := finv (R.f (.inr x))) fn7 (FrT.of hb7) okn oby (by decide) (by decide), fun b8 nb8 => ?_⟩
      have s8 := same_new (o := .tup [.int (ftimes R.n (finv (R.f (.inr x)))).1, .int (ftimes R.n (finv (R.f (.inr x)))).2]) nb8
      refine ⟨by show 3 ≤ sizeLine; decide, fun t nt => ?_⟩
      have s9 := same_new (o := .tup [.str x, .ref c, .ref b8]) nt
      have S9 := (s0.trans S7).trans (s8.trans s9)
      exact q _ t c b8 ks x S9 upd_same (((s0.trans S7).trans s8).free nt) (s0.free nc1) ((dmc.same s8).same s9) ((FrT.of upd_same).new s9) topx lex okx
end
end SS
namespace SS
open PySem PySem.Spec PyProof.Rows L2 NumText LamX KyS
section
variable {P : Program} {w : World} {K : PySem.W.Frag} {mg : Str → Option Value} {base : Heap}
/-! ### _law_line_put -/
def spLinePut (K : PySem.W.Frag) : Sp := fun vs H Q _ => ∃ (e m : LnE) (U : List Str), vs = [.ref e.t, .ref m.t] ∧ LnOk K U.length H e ∧ LnOk K U.length H m ∧ (∀ k, SS.Okb 1400 (e.l.g k)) ∧ SS.Okb 1400 e.l.n ∧ (∀ k, SS.Okb 1400 (m.l.g k)) ∧ SS.Okb 1400 m.l.n ∧ U.length ≤ 20 ∧ (∀ k, ((lput e.l m.l).g k).1 ≠ 0 → k ∈ U.map fun x => (Sum.inr x : Key)) ∧
  ∀ H' e', Same H H' → LnOk K U.length H' e' → e'.l = lput e.l m.l → Q (.ref e'.t) H'
theorem scLinePut : FnScope ["_law_line", "_law_new", "_law_unknown", "_law_one", "_law_number_here", "_law_many", "_law_left", "_law_key"] ["_law_line", "_law_new"] (defScope sLinePut) := ⟨rfl, rfl, rfl, by decide +kernel, rfl, by decide +kernel, by decide +kernel⟩
theorem ok_lineput {f' : Addr} {fd : FuncData} (F : Fun K "_law_line_put" "_law_line_put" sLinePut f' fd) (md : mg "dict" = none) (ad : Cl P w K mg base CX0 4 "_law_add" (spAdd K) []) (pl : Cl P w K mg base CX0 3 "_law_plus" (spPlus K) []) (tm : Cl P w K mg base CX0 3 "_law_times" (spTimes K) []) :
    FnOk P w K mg base CX0 5 f' fd ["_law_line", "_law_new"] (spLinePut K) := by
  refine F.ok scLinePut (fun vs H Q E h => ?_) (fun cdv A outer s H vs Q E hr h => ?_)
  · obtain ⟨_, _, _, rfl, _⟩ := h
    rfl
  · obtain ⟨e, m, U, rfl, he, hm, oeg, oen, omg, omn, hU, hin, q⟩ := h
    have hu := hu_of hr
    obtain ⟨h1, ⟨kvs, da⟩, h3, h4⟩ := id he
    obtain ⟨m1, ⟨kms, dm⟩, m3, m4⟩ := id hm
    refine ⟨_, pss_cons (ps_asg (pv 0) (pg_tup rfl (pgs_cons (pg_name (i := 2) scLinePut.nd rfl (.inl rfl)) (pgs_cons (pg_name (i := 3) scLinePut.nd rfl (.inr rfl)) (pgs_cons (pg_name (i := 4) scLinePut.nd rfl (.inl rfl)) pgs_nil)))))
      (pss_cons (ps_if (pt_cmp (pc_dnotin hu (pe_ix (ix_tupK (K := K) rfl) (pv 1) pe_int (fun _ _ => rfl)) (pv 3))) (pss_one (ps_ret (pv 0))) pss_nil)
      (pss_cons (ps_set (i := 5) scLinePut.nd rfl (.inl rfl) (pe_dget hu (pv 3) (pe_ix (ix_tupK (K := K) rfl) (pv 1) pe_int (fun _ _ => rfl)) (fun _ _ => rfl)))
      (pss_cons (ps_set (i := 6) scLinePut.nd rfl (.inl rfl) (pe_callTy (call_dictP rfl) (by rfl) md (by decide +kernel) (pa_cons (pe_lock (pe_lc (own := [("_law_key", 7)]) (g := gName 7) rfl scLinePut.nd (pi_keys (pv 3)) (blkOk_by (by rfl))
        (fun _ _ _ _ _ => pg_name (i := 7) scLinePut.nd rfl (Or.inl rfl)) (fun _ _ _ _ _ => pts_one (pt_cmpR op_ne (pv 7) (pe_ix (ix_tupK (K := K) rfl) (pv 1) pe_int (fun _ _ => rfl)) (nomark _)))
        (fun _ _ _ _ _ => pe_tup (pa_cons (pv 7) (pa_cons (pe_dget hu (pv 3) (pv 7) (fun _ _ => rfl)) pa_nil))))) pa_nil)))
      (pss_one (ps_ret (pe_tup (pa_cons (pv 2) (pa_cons (pc0 ad hr (by decide) (pa_cons (pv 6) (pa_cons (pe_ix (ix_tupK (K := K) rfl) (pv 1) pe_int (fun _ _ => rfl)) (pa_cons (pv 5) pa_nil))))
        (pa_cons (pc0 pl hr (by decide) (pa_cons (pv 4) (pa_cons (pc0 tm hr (by decide) (pa_cons (pe_ix (ix_tupK (K := K) rfl) (pv 1) pe_int (fun _ _ => rfl)) (pa_cons (pv 5) pa_nil))) pa_nil))) pa_nil))))))))), ?_⟩
    refine ⟨_, rfl, e.t, _, rfl, SqT.of h1, rfl, _, _, rfl, _, _, rfl, _, _, rfl, rfl, ?_⟩
    refine ⟨_, rfl, m.t, _, 0, _, rfl, rfl, SqT.of m1, atI_nat (j := 0) rfl, _, rfl, e.c, valV kvs (.inr m.l.u), rfl, DGet.k (k := .inr m.l.u) da.1, ?_⟩
    refine ⟨_, rfl, ite2 (fun c1 => ?_) (fun c1 => ?_)⟩
    · have c3 : (e.l.g (.inr m.l.u)).1 = 0 := by
        cases ev : valV kvs (.inr m.l.u) with
        | none => rw [da.2.2.2.2 _ ev]
        | some v2 =>
          rw [ev] at c1
          cases c1
      refine ⟨_, rfl, q H e (fun _ _ h => h) he ?_⟩
      unfold lput
      rw [if_pos c3]
    have c1' : (valV kvs (.inr m.l.u)).isSome = true := by
      cases hc : (valV kvs (.inr m.l.u)).isSome with
      | true => rfl
      | false => exact absurd (by rw [hc]; rfl) c1
    obtain ⟨v2, ev⟩ := Option.isSome_iff_exists.mp c1'
    obtain ⟨rx, rfl, hrx⟩ := da.get ev
    have c3 : (e.l.g (.inr m.l.u)).1 ≠ 0 := by
      obtain ⟨p, hp, e3, e4⟩ := mem_valV ev
      have := (da.2.2.2.1 p hp).2.2 trivial
      rw [e3] at this
      exact this
    refine ⟨_, rfl, _, rfl, m.t, _, 0, _, rfl, rfl, SqT.of m1, atI_nat (j := 0) rfl, e.c, _, rfl, .inl ⟨kvs, .inr m.l.u, .inl da.1, rfl, ev.symm⟩, ?_⟩
    refine ⟨e.c, .dK kvs, da.1, trivial, fun od => ⟨_, rfl, e.c, od, rfl, .inl ⟨kvs, upd_same, fun D nD => ?_⟩⟩⟩
    have nDH : H D = none := by
      cases e' : H D with
      | none => rfl
      | some o =>
        by_cases c : D = e.c
        · rw [c, upd_same] at nD
          cases nD
        · rw [upd_ne c, e'] at nD
          cases nD
    have aD : e.c ≠ D := ne_of_none da.1 nDH
    have ml : kvs.length ≤ U.length := da.2.2.1
    have mta : m.t ≠ e.c := ne_of m1 da.1 (fun z => by cases z)
    refine lc_it walk_keys (fun i H' => ∃ (ts : List Addr) (ks : List (Key × V)), H' D = some (.lst (ts.map V.ref)) ∧ H' e.c = some (.frz od (.dK kvs)) ∧ (∀ x o, x ≠ e.c → x ≠ D → H x = some o → H' x = some o) ∧ ks.map (·.1) = ((kvs.take i).filter fun p => decide (p.1 ≠ .inr m.l.u)).map (·.1) ∧
        Paired (fun (t : Addr) (q : Key × V) => H' t = some (.tup [kV q.1, q.2])) ts ks ∧ ∀ p ∈ ks, ∃ r, p.2 = .ref r ∧ H r = some (.tup [.int (e.l.g p.1).1, .int (e.l.g p.1).2]))
      ⟨[], [], upd_same, by rw [upd_ne aD]; exact upd_same, fun x o n1 n2 e => by rw [upd_ne n2, upd_ne n1]; exact e, rfl, .nil, fun p hp => absurd hp List.not_mem_nil⟩ (fun _ _ _ ⟨_, _, _, w2, _⟩ => w2) ?_ ?_
    · rintro i y H2 H' hi ⟨ts, ks, w1, w2, w3, w4, w5, w6⟩ ⟨rfl, key, v, hkv, rfl⟩
      obtain ⟨⟨nx, e1, okx⟩, ⟨rv, e2, e3⟩, _⟩ := da.2.2.2.1 (key, v) (List.mem_of_getElem? hkv)
      have e2' : v = .ref rv := e2
      have e1' : key = .inr nx := e1
      subst e2' e1'
      have ev2 : valV kvs (.inr nx) = some (.ref rv) := val_nodup da.2.1 (.inr nx, .ref rv) (List.mem_of_getElem? hkv)
      have dg : DGet H' e.c (kV (.inr nx)) (some (.ref rv)) := .inl ⟨kvs, .inr nx, .inr ⟨od, w2⟩, rfl, ev2.symm⟩
      have tl : ts.length ≤ 20 := by
        have z := (paired_at w5).1
        have z2 : ks.length = ((kvs.take i).filter fun p => decide (p.1 ≠ .inr m.l.u)).length := by
          have z3 := congrArg List.length w4
          rw [List.length_map, List.length_map] at z3
          exact z3
        have z4 := List.length_filter_le (fun p : Key × V => decide (p.1 ≠ .inr m.l.u)) (kvs.take i)
        rw [List.length_take] at z4
        omega
      refine ⟨rfl, _, rfl, _, rfl, m.t, _, 0, _, rfl, rfl, SqT.of (w3 _ _ mta (ne_of_none m1 nDH) m1), atI_nat (j := 0) rfl, rfl, _, rfl, ite2 (fun e9 => ?_) (fun e9 => ?_)⟩
      · have nex : nx ≠ m.l.u := fun z => by
          rw [z] at e9
          have e10 : (!decide (V.str m.l.u = V.str m.l.u)) = true := e9
          rw [decide_eq_true rfl] at e10
          cases e10
        have kne2 : decide ((Sum.inr nx : Key) ≠ .inr m.l.u) = true := decide_eq_true fun z => nex (Sum.inr.inj z)
        refine ⟨_, rfl, _, rfl, _, rfl, e.c, _, rfl, dg, small2, fun T nT => ?_⟩
        have S5 := same_new (o := .tup [kV (.inr nx), .ref rv]) nT
        have hT := upd_same (H := H') (a := T) (o := .tup [kV (.inr nx), .ref rv])
        have hD5 := S5 _ _ w1
        have kD := keep_l (o := .lst (ts.map V.ref ++ [.ref T])) hD5
        refine ⟨_, hD5, ?_, ts ++ [T], ks ++ [(.inr nx, .ref rv)], ?_, ?_, ?_, ?_, ?_, ?_⟩
        · rw [List.length_map]
          exact small1000 (by omega)
        · rw [upd_same, List.map_append]
          rfl
        · rw [upd_ne aD]
          exact S5 _ _ w2
        · intro x o n1 n2 e
          rw [upd_ne n2]
          exact S5 _ _ (w3 x o n1 n2 e)
        · rw [take_snoc hkv, List.filter_append, List.filter_cons_of_pos (p := fun p : Key × V => decide (p.1 ≠ .inr m.l.u)) kne2, List.filter_nil, List.map_append, List.map_append, w4]
        · exact Paired.snocX (Paired.impX w5 fun t q' ht => kD _ _ (S5 _ _ ht)) (kD _ _ hT)
        · intro p hp
          rcases List.mem_append.mp hp with z | z
          · exact w6 p z
          · rw [List.mem_singleton.mp z]
            exact ⟨rv, rfl, e3⟩
      · have nex : nx = m.l.u := by
          by_cases c : nx = m.l.u
          · exact c
          · exact absurd (by show (!decide (V.str nx = V.str m.l.u)) = true; rw [decide_eq_false fun z => c (V.str.inj z)]; rfl) e9
        refine ⟨ts, ks, w1, w2, w3, ?_, w5, w6⟩
        rw [take_snoc hkv, List.filter_append, List.filter_cons_of_neg (by simp [nex]), List.filter_nil, List.append_nil]
        exact w4
    · rintro H' ⟨ts, ks, w1, w2, w3, w4, w5, w6⟩
      rw [List.take_length] at w4
      have kA : ∀ x ys, H' x = some (.tup ys) → (upd H' e.c (.dK kvs)) x = some (.tup ys) := fun x ys e' => by
        rw [upd_ne fun c => ?_]
        · exact e'
        · rw [c, w2] at e'
          cases e'
      have S : Same H (upd H' e.c (.dK kvs)) := fun x o e' => by
        by_cases c : x = e.c
        · subst c
          rw [upd_same, ← da.1]
          exact e'
        · rw [upd_ne c]
          exact w3 x o c (ne_of_none e' nDH) e'
      refine ⟨w2, D, ts, ks, rfl, SqL.of (by rw [upd_ne aD.symm]; exact w1), Paired.impX w5 (fun t q' ht => SqT.of (kA _ _ ht)), fun c nc => ?_⟩
      have nd : (ks.map (·.1)).Nodup := by
        rw [w4]
        exact da.2.1.sublist ((List.filter_sublist).map _)
      rw [merge_nd ks [] nd]
      have s7 := same_new (o := .dK ([] ++ ks)) nc
      have S7 := S.trans s7
      have dmc : DM True U.length (upd (upd H' e.c (.dK kvs)) c (.dK ([] ++ ks))) c ks (offF e.l.g (.inr m.l.u)) := by
        refine ⟨upd_same, nd, ?_, fun p hp => ?_, fun k e' => ?_⟩
        · have z3 := congrArg List.length w4
          rw [List.length_map, List.length_map] at z3
          have z4 := List.length_filter_le (fun p : Key × V => decide (p.1 ≠ .inr m.l.u)) kvs
          omega
        · obtain ⟨r, g1, g2⟩ := w6 p hp
          have hk : p.1 ∈ (kvs.filter fun p => decide (p.1 ≠ .inr m.l.u)).map (·.1) := by
            rw [← w4]
            exact List.mem_map.mpr ⟨p, hp, rfl⟩
          obtain ⟨p', hp', ep⟩ := List.mem_map.mp hk
          obtain ⟨hp1, hp2⟩ := List.mem_filter.mp hp'
          obtain ⟨⟨x', ex, ox'⟩, _, nz⟩ := da.2.2.2.1 p' hp1
          have z := nz trivial
          have ep' : p'.1 = p.1 := ep
          have pne : p.1 ≠ .inr m.l.u := by rw [← ep']; exact of_decide_eq_true hp2
          rw [off_ne pne]
          rw [ep'] at z
          exact ⟨⟨x', by rw [← ep']; exact ex, ox'⟩, ⟨r, g1, S7 _ _ g2⟩, fun _ => z⟩
        · by_cases c2 : k = .inr m.l.u
          · rw [c2, off_same]
          · rw [off_ne c2]
            refine da.out fun z => valV_not e' ?_
            rw [w4]
            obtain ⟨p, hp, ep⟩ := List.mem_map.mp z
            exact List.mem_map.mpr ⟨p, List.mem_filter.mpr ⟨hp, decide_eq_true (by rw [show p.1 = k from ep]; exact c2)⟩, ep⟩
      have mt7 := S7 _ _ m1
      have dm7 := dm.same S7
      have rx7 := S7 _ _ hrx
      have f7 := h3.new S7
      have g7 := m3.new S7
      have nc0 : H c = none := S.free nc
      generalize upd (upd H' e.c (.dK kvs)) c (.dK ([] ++ ks)) = H7 at S7 dmc mt7 dm7 rx7 f7 g7 ⊢
      have okf : ∀ k, SS.Okb 2950 (offF e.l.g (.inr m.l.u) k) := fun k => by
        by_cases c2 : k = .inr m.l.u
        · rw [c2, off_same]
          exact ⟨by decide, by decide, by decide, by decide⟩
        · rw [off_ne c2]
          exact (oeg k).mono (by decide)
      have ox := oeg (.inr m.l.u)
      have ep : lput e.l m.l = ⟨e.l.u, fun k => fplus (offF e.l.g (.inr m.l.u) k) (ftimes (m.l.g k) (e.l.g (.inr m.l.u))), fplus e.l.n (ftimes m.l.n (e.l.g (.inr m.l.u)))⟩ := by
        unfold lput
        rw [if_neg c3]
      rw [ep] at hin
      refine ⟨_, rfl, _, rfl, _, rfl, m.t, _, 1, _, rfl, rfl, SqT.of mt7, atI_nat (j := 1) rfl, _, rfl, c, m.c, rx, ks, kms, offF e.l.g (.inr m.l.u), m.l.g, e.l.g (.inr m.l.u), U.length, U.length, rfl, dmc, dm7.toF, FrT.of rx7, okf, omg, ox, by omega, by omega, fun H8 c8 ks8 s8 nc8 d8 => ?_⟩
      refine ⟨_, rfl, _, rfl, m.t, _, 2, _, rfl, rfl, SqT.of (s8 _ _ mt7), atI_nat (j := 2) rfl, _, rfl, m.l.n.1, m.l.n.2, (e.l.g (.inr m.l.u)).1, (e.l.g (.inr m.l.u)).2, two_of (A := m.l.n) (B := e.l.g (.inr m.l.u)) (g7.new s8) (FrT.of (s8 _ _ rx7)) omn ox (by decide) (by decide), fun p9 np9 => ?_⟩
      have s9 := same_new (o := .tup [.int (ftimes m.l.n (e.l.g (.inr m.l.u))).1, .int (ftimes m.l.n (e.l.g (.inr m.l.u))).2]) np9
      refine ⟨e.l.n.1, e.l.n.2, (ftimes m.l.n (e.l.g (.inr m.l.u))).1, (ftimes m.l.n (e.l.g (.inr m.l.u))).2, two_of (A := e.l.n) (B := ftimes m.l.n (e.l.g (.inr m.l.u))) (f7.new (s8.trans s9)) (FrT.of upd_same) oen (okb_times omn ox) (by decide) (by decide), fun p10 np10 => ?_⟩
      have s10 := same_new (o := .tup [.int (fplus e.l.n (ftimes m.l.n (e.l.g (.inr m.l.u)))).1, .int (fplus e.l.n (ftimes m.l.n (e.l.g (.inr m.l.u)))).2]) np10
      refine ⟨by show 3 ≤ sizeLine; decide, fun t nt => ?_⟩
      have s11 := same_new (o := .tup [.str e.l.u, .ref c8, .ref p10]) nt
      have S11 := ((s8.trans s9).trans s10).trans s11
      refine q _ ⟨t, c8, p10, lput e.l m.l⟩ (S7.trans S11) ?_ rfl
      rw [ep]
      exact ⟨upd_same, ⟨ks8, (((DM.tight d8 hin).same s9).same s10).same s11⟩, (FrT.of upd_same).new s11, h4⟩
end
end SS
namespace SiI
open PySem PySem.Spec PyProof.Rows L2 L2.DX
/-! ### sorted(xs), xs a list of tuples (text, object, object) with unlike texts -/
abbrev It3 := Addr × Str × Addr × Addr
def pi3 (z : It3) : Addr × Str × Addr := (z.1, z.2.1, z.2.2.1)
def Here3 (h : Heap) (zs : List It3) : Prop := ∀ z ∈ zs, ∃ t, IsTup h z.1 #[.str z.2.1 t, .ref z.2.2.1, .ref z.2.2.2]
section
open PySem.W
variable {prog : Program} {w : World} {A : Around} {E : Value → Shared → Prop} {s : Shared}
theorem firsts_3 {h : Heap} : ∀ zs : List It3, Here3 h zs → ∃ fs : List Value, KatTups h ((zs.map pi3).map vrf) fs ∧ fs.length = zs.length ∧ ∀ f ∈ fs, ∃ (y : Str) (t : Tok), f = Value.str y t
  | [], _ => ⟨[], KatTups.nil, rfl, fun f hf => nomatch hf⟩
  | z :: zs, x => by
    obtain ⟨fs, k, hl, hi⟩ := firsts_3 zs fun u hu => x u (List.mem_cons_of_mem _ hu)
    obtain ⟨t, o, ho, hc, n, hd⟩ := x z (List.mem_cons_self ..)
    refine ⟨.str z.2.1 t :: fs, KatTups.cons ho hc hd rfl k, congrArg (· + 1) hl, fun f hf => ?_⟩
    rcases List.mem_cons.mp hf with e | e
    · exact ⟨_, t, e⟩
    · exact hi f e
theorem cmp_3 {zs : List It3} (H : Here3 s.heap zs) (ndk : (zs.map (·.2.1)).Nodup) {z y : It3} (hz : z ∈ zs) (hy : y ∈ zs) {Q : Bool → Shared → Prop} (h : Q (decide (z.2.1.cps.toList < y.2.1.cps.toList)) s) :
    wpAny (model prog w) A (keyLt' (tuples' true) (.ref z.1) (.ref y.1)) Q E s := by
  obtain ⟨t, o, ho, hc, n, hd⟩ := H z hz
  obtain ⟨t', o', ho', hc', n', hd'⟩ := H y hy
  refine kat_lt ho hd ho' hd' ?_
  show KatLex prog w A true false Q [(Value.str z.2.1 t, Value.str y.2.1 t'), (Value.ref z.2.2.1, Value.ref y.2.2.1), (Value.ref z.2.2.2, Value.ref y.2.2.2)] 0 s
  refine kat_cons (eqBool_str ?_)
  by_cases e : z.2.1 = y.2.1
  · have e' : z = y := by
      have q1 := find_one (fun z : It3 => z.2.1) ndk z hz
      have q2 := find_one (fun z : It3 => z.2.1) ndk y hy
      rw [e] at q1
      exact Option.some.inj (q1.symm.trans q2)
    rw [show (z.2.1 == y.2.1) = true from beq_iff_eq.mpr e]
    rw [e', decide_eq_false (List.lt_irrefl _)] at h
    rw [e']
    exact kat_yes (kat_cons (eqB_same (kat_yes (kat_cons (eqB_same (kat_yes (kat_nil h)))))))
  · rw [show (z.2.1 == y.2.1) = false from beq_eq_false_iff_ne.mpr e]
    refine kat_no ?_
    show wpAny _ _ (oneLt' true _ _) _ _ _
    exact oneLt_str h
theorem sort_raw3 {l : Addr} {zs : List It3} {Q : Value → Shared → Prop} (ho : s.heap.get? l = some (seqObj "list" ((zs.map pi3).map vrf).toArray 0)) (h64 : zs.length < 64) (nd : ((zs.map pi3).map (·.1)).Nodup) (ndk : (zs.map (·.2.1)).Nodup)
    (H : Here3 s.heap zs) (nl : ∀ z ∈ zs, z.1 ≠ l)
    (h : ∀ (ys : List (Addr × Str × Addr)) (out : Array Value), out.toList = ys.map vrf → ys.Perm (zs.map pi3) → (ys.map (·.2.1)).Pairwise SS.leS → Q .none { s with heap := sortedHeap s.heap l ((zs.map pi3).map vrf) out }) :
    wpAny (model prog w) A (call (.builtin "list.sort") [.ref l]) Q E s := by
  have Hm : Here3 (TS.midHeap s.heap l ((zs.map pi3).map vrf)) zs := fun z hz => by
    obtain ⟨t, o, ho, r⟩ := H z hz
    exact ⟨t, o, TS.midHeap_old (nl z hz) ho, r⟩
  have txe : (zs.map pi3).map (·.2.1) = zs.map (·.2.1) := by
    rw [List.map_map]
    rfl
  refine wpAny_call_entry slot_list_sort ⟨_, ho, rfl⟩ entry_list_sort (SK.plain_sort (r := fun v => rkS (zs.map (·.2.1)) (txAt (zs.map pi3) v)) ho (by rw [List.length_map, List.length_map]; exact h64) (fun h2 Qk hQk => ?_) fun ps out o1 o2 o3 => ⟨.none, rfl, ?_⟩) (args_list_sort _)
  · obtain ⟨fs, k, hl, hi⟩ := firsts_3 zs Hm
    rw [List.length_map, List.length_map] at h2
    refine kat_kind (T := Value.type "str") k (by omega) (fun f hf => ?_) rfl (hQk _ fun p q hp hq Q' E' hQ => ?_)
    · obtain ⟨y, t, rfl⟩ := hi f hf
      show PySem.W.Looks (model prog w) _ (pure (Value.type "str")) (Value.type "str")
      exact .now
    · obtain ⟨z, hz, e1⟩ := mem_vrf hp
      obtain ⟨y, hy, e2⟩ := mem_vrf hq
      obtain ⟨z0, hz0, ez⟩ := List.mem_map.mp hz
      obtain ⟨y0, hy0, ey⟩ := List.mem_map.mp hy
      have hQ' : Q' (decide (rkS (zs.map (·.2.1)) (txAt (zs.map pi3) p.1) < rkS (zs.map (·.2.1)) (txAt (zs.map pi3) q.1))) { s with heap := TS.midHeap s.heap l ((zs.map pi3).map vrf) } := hQ
      rw [e1, e2, txAt_of nd hz, txAt_of nd hy, ← rk_dec (by rw [← ez]; exact List.mem_map.mpr ⟨z0, hz0, rfl⟩)] at hQ'
      rw [e1, e2]
      have hb : (Value.type "str" != Value.type "tuple") = true := by first | rfl | decide | simp
      rw [hb]
      rw [← ez, ← ey] at hQ' ⊢
      exact cmp_3 (s := { s with heap := TS.midHeap s.heap l ((zs.map pi3).map vrf) }) Hm ndk hz0 hy0 hQ'
  · have ez : (zs.map pi3).map (fun z => (vrf z, vrf z)) = ((zs.map pi3).map vrf).zip ((zs.map pi3).map vrf) := by rw [List.zip_map', ]
    obtain ⟨ys, pz, ey⟩ := perm_lift (fun z => (vrf z, vrf z)) o2 (zs.map pi3) ez
    refine h ys out ?_ pz ?_
    · rw [o1, ← ey, List.map_map]
      all_goals rfl
    · rw [← ey, List.pairwise_map] at o3
      rw [List.pairwise_map]
      refine List.Pairwise.imp_of_mem (fun {x y} hx hy q => ?_) o3
      have q' : rkS (zs.map (·.2.1)) (txAt (zs.map pi3) (vrf x)) ≤ rkS (zs.map (·.2.1)) (txAt (zs.map pi3) (vrf y)) := q
      rw [txAt_of nd (pz.mem_iff.mp hx), txAt_of nd (pz.mem_iff.mp hy)] at q'
      exact rk_leS (by rw [← txe]; exact List.mem_map.mpr ⟨y, pz.mem_iff.mp hy, rfl⟩) q'
end
section
variable {X : Cx}
def rSorted3 (K : PySem.W.Frag) : List V → Hp → VK → Prop := fun vs H Q => ∃ (a : Addr) (zs : List It3), vs = [.ref a] ∧ SqL K H a (zs.map fun z => V.ref z.1) ∧ (∀ z ∈ zs, H z.1 = some (.tup [.str z.2.1, .ref z.2.2.1, .ref z.2.2.2])) ∧ zs.length < 64 ∧ (zs.map (·.2.1)).Nodup ∧
  ∀ (l : Addr) (ps : List Addr) (ys : List (Addr × Str × Addr)), ps = ys.map (·.1) → ys.Perm (zs.map pi3) → (ys.map (·.2.1)).Pairwise SS.leS → H l = none → Q (.ref l) (upd H l (.lst (ps.map V.ref)))
theorem cr_sorted3 (hc : X.calm = true) : CallR X (.builtin "sorted") (rSorted3 X.K) := by
  intro pins s σ H xs us Q I r h
  obtain ⟨a, zs, rfl, hl, hz, h64, ndk, q⟩ := h
  obtain rfl := Vals.ref1 r
  obtain ⟨its, rv, hl', hlen⟩ := I.list hl
  have e1 := KyS.vals_refs (fun z : It3 => z.1) rv
  subst e1
  obtain ⟨o, n, ho, hcl, hno, hdat⟩ := hl'
  have nd1 : (zs.map (·.1)).Nodup := by
    refine List.nodup_iff_pairwise_ne.mpr (List.pairwise_map.mpr ?_)
    have p := List.pairwise_map.mp (List.nodup_iff_pairwise_ne.mp ndk)
    refine p.imp_of_mem fun {x y} hx hy ne e => ne ?_
    have h1 := hz x hx
    rw [e, hz y hy] at h1
    injection h1 with h1
    injection h1 with h1
    injection h1 with h1 _
    injection h1 with h1
    exact h1.symm
  have nd3 : ((zs.map pi3).map (·.1)).Nodup := by
    rw [List.map_map]
    exact nd1
  have em : (zs.map pi3).map vrf = zs.map fun z => Value.ref z.1 := by
    rw [List.map_map]
    rfl
  refine Calls.call_function_entry kind_sorted plain_sorted entry_sorted (args_sorted1 _) ?_
  unfold Builtin.«sorted»
  refine wpAny_bind (m := checkCount "sorted" 1 1 _) (wpAny_pure ?_)
  refine wpAny_bind (wpAny_collect_seq a (.inl rfl) ho hcl hdat (fun h1 k1 => ?_) (by simpa using hlen))
  rw [List.toList_toArray]
  refine wpAny_bind (wpAny_newList ?_ (by simpa using hlen))
  have I' : Inv X pins σ H { s with heap := h1 } := I.kept (t' := s.toks) k1
  have lt' : ∀ {b : Addr} {o : Obj}, h1.get? b = some o → b ≠ h1.objs.size := fun e => Nat.ne_of_lt (Heap.lt_size e)
  rw [← em]
  have pu : ∀ {b : Addr} {o : Obj}, h1.get? b = some o → (h1.push (seqObj "list" ((zs.map pi3).map vrf).toArray 0)).get? b = some o := fun e => Heap.get?_push_of_some _ e
  have here : Here3 (h1.push (seqObj "list" ((zs.map pi3).map vrf).toArray 0)) zs := fun z hzm => by
    obtain ⟨its, rv, ⟨ot, et, rt⟩, _⟩ := I'.tuple (SqT.of (K := X.K) (hz z hzm))
    cases rv with
    | cons r1 t1 =>
      cases t1 with
      | cons r2 t2 =>
        cases t2 with
        | cons r3 t3 =>
          cases t3
          obtain ⟨tq, rfl⟩ := r1
          cases r2
          cases r3
          exact ⟨tq, ot, pu et, rt⟩
  refine wpAny_bind (wpAny_holding (wpAny_mono (sort_raw3 (s := { s with heap := h1.push (seqObj "list" ((zs.map pi3).map vrf).toArray 0) }) (l := h1.objs.size) (zs := zs) (Q := fun _ s' => EP X pins σ Q (.ref h1.objs.size) s') (Heap.get?_push_size _ rfl) h64 nd3 ndk here (fun z hzm => ?_) (fun ys out ho2 py so => ?_)) (fun _ s' x => ?_) fun _ _ e => e))
  · obtain ⟨t, o, e, r⟩ := here z hzm
    have := hz z hzm
    intro zz
    have nn := I'.hok.fresh (a := h1.objs.size) (Nat.le_refl _)
    rw [← zz, this] at nn
    cases nn
  · have kS : ∀ b o, h1.get? b = some o → (sortedHeap (h1.push (seqObj "list" ((zs.map pi3).map vrf).toArray 0)) h1.objs.size ((zs.map pi3).map vrf) out).get? b = some o := fun b o e => (sortedHeap_old (lt' e) (Heap.lt_size (pu e))).trans (pu e)
    have hob : (h1.push (seqObj "list" ((zs.map pi3).map vrf).toArray 0)).get? h1.objs.size = some (seqObj "list" ((zs.map pi3).map vrf).toArray 0) := Heap.get?_push_size _ rfl
    obtain ⟨eF, heF⟩ := sortedHeap_at (vs := (zs.map pi3).map vrf) (out := out) hob
    have rv : Vals (ys.map fun z => V.ref z.1) out.toList := by
      rw [ho2]
      exact vals_maps (fun z : Addr × Str × Addr => V.ref z.1) vrf ys fun _ _ => rfl
    have ly := py.length_eq
    rw [List.length_map] at ly
    have I2 := I'.laid (h' := sortedHeap (h1.push (seqObj "list" ((zs.map pi3).map vrf).toArray 0)) h1.objs.size ((zs.map pi3).map vrf) out) (t' := s.toks) (o := .lst (ys.map fun z => V.ref z.1)) kS (Nat.le_refl _) ⟨by rw [List.length_map, sizeLine_eq]; omega, out.toList, eF, rv, heF⟩
    have hn0 : H h1.objs.size = none := I'.hok.fresh (Nat.le_refl _)
    have q2 := q h1.objs.size (ys.map (·.1)) ys rfl py so hn0
    rw [List.map_map] at q2
    exact ⟨.ref h1.objs.size, _, I2, rfl, q2⟩
  · exact wpAny_pure ⟨_, rfl, x⟩
end
end SiI
namespace SS
open PySem PySem.Spec PyProof.Rows L2 NumText LamX KyS
section
variable {X : Cx}
/-- d != {} -/
def rNe0 : R2 := fun x y H Q => ∃ (a b : Addr) (ks : List (Key × V)), x = .ref a ∧ y = .ref b ∧ H a = some (.dK ks) ∧ H b = some (.dK []) ∧ Q (.bl (!(ks.length == 0))) H
theorem op_ne0 (hu : X.A.units + 64 < cLine) : OpR X (compareOp .NotEq) rNe0 := by
  intro pins s σ H x y v u Q I rx ry h
  obtain ⟨a, b, ks, rfl, rfl, h1, h2, q⟩ := h
  obtain rfl : v = Value.ref a := rx
  obtain rfl : u = Value.ref b := ry
  obtain ⟨_, ya, va, ra, da⟩ := (show ObjOk X.prog X.w H s.heap a (.dK ks) from I.hok a _ h1)
  obtain ⟨_, yb, vb, rb, db⟩ := (show ObjOk X.prog X.w H s.heap b (.dK []) from I.hok b _ h2)
  have e1 : va.length = ks.length := ra.length.symm
  have e2 : vb.length = 0 := rb.length.symm
  refine PySem.W.keq_ne (knd := mixKind X.prog X.w) (r := true) ya yb da db (by omega) (fun z => ?_) ?_
  · rw [e2] at z
    have ez : va = [] := List.eq_nil_of_length_eq_zero z
    rw [ez]
    exact .nil
  · exact ⟨.bl (!(ks.length == 0)), H, I, (by rw [e1, e2, Bool.and_true]; rfl), q⟩
end
section
variable {P : Program} {w : World} {K : PySem.W.Frag} {mg : Str → Option Value} {base : Heap}
theorem iteF' {b : Bool} {p q : Prop} (h : ¬ b = true) (x : q) : if b = true then p else q := by
  rw [if_neg h]
  exact x
theorem bd44 {n : Nat} (h : n ≤ 4) : bd 44 n ≤ 719 := by
  have z : n = 0 ∨ n = 1 ∨ n = 2 ∨ n = 3 ∨ n = 4 := by omega
  rcases z with rfl | rfl | rfl | rfl | rfl <;> decide
theorem LBd.mono {a b : Nat} {l : Lw} (h : LBd a l) (hb : a ≤ b) : LBd b l := by
  obtain ⟨D, d0, d1, h1, h2, h3⟩ := h
  have p : 2 ^ a ≤ 2 ^ b := Nat.pow_le_pow_right (by decide) hb
  exact ⟨D, d0, Nat.le_trans d1 p, fun k => ⟨(h1 k).1, (h1 k).2.mono p⟩, h2, h3.mono p⟩
/-- how far what is left of a row grows when short lines are put -/
theorem put_short {U : List Str} {ps : List Lw} {R : Rw} (nd : U.Nodup) (hU : U.length ≤ 4) (h : Lines U ps) (hb : ∀ l ∈ ps, LBd 719 l) (iu : R.In U) (hR : RB 44 R) (i : Nat) :
    (∀ k, SS.Okb 2950 ((putAll (ps.take i) R).f k)) ∧ SS.Okb 2950 (putAll (ps.take i) R).n ∧ ∀ l ∈ ps, SS.Okb 1400 ((putAll (ps.take i) R).f (.inr l.u)) := by
  have lo := hR.lo
  have ll : ps.length ≤ 4 := by
    have z := sub_len h.nd (U := U) fun x hx => by
      obtain ⟨l, hl', rfl⟩ := List.mem_map.mp hx
      exact h.mem hl'
    rw [List.length_map] at z
    omega
  have ob := hR.okb (by decide)
  have plo := (putAll_ok nd h (qs := ps.take i) (R := R) (fun l hl => List.mem_of_mem_take hl) lo iu).1
  have co : ∀ l ∈ ps, SS.Okb 1400 ((putAll (ps.take i) R).f (.inr l.u)) := fun l hl => by
    rcases putAll_coef h hl (qs := ps.take i) (R := R) (fun l hl => List.mem_of_mem_take hl) lo with e | e
    · have e2 : (putAll (ps.take i) R).f (.inr l.u) = R.f (.inr l.u) := toQ_inj (plo.1 _) (lo.1 _) e
      rw [e2]
      exact ob.1 _
    · have e2 : (putAll (ps.take i) R).f (.inr l.u) = (0, 1) := toQ_inj (plo.1 _) lo_zero (by rw [toQ_zero]; exact e)
      rw [e2]
      exact okb_zero 1399
  obtain ⟨D, d0, d1, o⟩ := hR
  have tk : ps.take i = ps.take (min i ps.length) := by
    by_cases c : i ≤ ps.length
    · rw [Nat.min_eq_left c]
    · rw [Nat.min_eq_right (by omega), List.take_length, List.take_of_length_le (by omega)]
  obtain ⟨E, e0, e1, oE⟩ := putAll_bits nd h hb iu o (min i ps.length) (Nat.min_le_right _ _)
  rw [tk] at co ⊢
  have j4 : min i ps.length ≤ 4 := by omega
  generalize min i ps.length = j at *
  have hM : 2 ^ (44 + (719 + 1) * j) < 2 ^ 2950 := Nat.pow_lt_pow_right (by decide) (by omega)
  have hD : D * E < 2 ^ 2950 := by
    refine Nat.lt_of_le_of_lt (Nat.mul_le_mul d1 e1) ?_
    rw [← Nat.pow_add]
    exact Nat.pow_lt_pow_right (by decide) (by omega)
  exact ⟨fun k => ov_ok (oE.1 k).1 (oE.1 k).2 (Nat.mul_pos d0 e0) hD hM, ov_ok oE.2.1 oE.2.2 (Nat.mul_pos d0 e0) hD hM, co⟩
theorem lines_short {U : List Str} {ps : List Lw} {zs : List Ent} (ndU : U.Nodup) (hU : U.length ≤ 4) (lin : Lines U ps) (nd : (zs.map (·.x)).Nodup) (hrb : ∀ z ∈ zs, isR z = true → z.R.In U ∧ RB 44 z.R) (sat : ∀ P, Sol.sats (kU U) (ps.map Lw.q) P ↔ satZ U zs P) : ∀ l ∈ ps, LBd 719 l := by
  have ndL : ((((zs.map nr).filter isN)).map (·.1)).Nodup := by
    have z2 : ((zs.map nr).map Prod.fst).Nodup := by
      rw [List.map_map]
      exact nd
    exact z2.sublist ((List.filter_sublist).map _)
  intro l hl
  refine (lines_bits (L := (zs.map nr).filter isN) (n := 44) ndU lin ndL (fun q hq => ?_) (fun P => (sat P).trans ⟨fun h q hq => ?_, fun h z hz hi => ?_⟩) l hl).mono (bd44 hU)
  · obtain ⟨m2, m3⟩ := List.mem_filter.mp hq
    obtain ⟨z, hz1, rfl⟩ := List.mem_map.mp m2
    exact hrb z hz1 m3
  · obtain ⟨m2, m3⟩ := List.mem_filter.mp hq
    obtain ⟨z, hz1, rfl⟩ := List.mem_map.mp m2
    exact h z hz1 m3
  · exact h (nr z) (List.mem_filter.mpr ⟨List.mem_map.mpr ⟨z, hz, rfl⟩, hi⟩)
/-! ### _law_lines -/
def spLinesL (K : PySem.W.Frag) : Sp := fun vs H Q _ => ∃ (a : Addr) (zs : List Ent) (U : List Str), vs = [.ref a] ∧ SqL K H a (zs.map fun z => V.ref z.t) ∧ (∀ z ∈ zs, EntOk K U.length H z) ∧ (zs.map (·.x)).Nodup ∧ zs.length ≤ 60 ∧ U.length ≤ 4 ∧ U.Nodup ∧ (∀ z ∈ zs, isR z = true → z.R.In U ∧ RB 44 z.R) ∧
  ((∀ P, ¬ satZ U zs P) → ∀ H', Same H H' → Q .non H') ∧
  ∀ (H' : Hp) (l : Addr) (es : List LnE), Same H H' → H l = none → H' l = some (.lst (es.map fun e => V.ref e.t)) → (∀ e ∈ es, LnOk K U.length H' e) → Lines U (es.map (·.l)) → ((es.map (·.l)).map (·.u)).Pairwise leS → (∀ P, Sol.sats (kU U) ((es.map (·.l)).map Lw.q) P ↔ satZ U zs P) → Q (.ref l) H'
theorem scLinesL : FnScope ["_law_rows", "_law_lines_here", "_law_name", "_law_row", "_law_one", "_law_number_here", "_law_line", "_law_other"] ["_law_rows"] (defScope sLines) := ⟨rfl, rfl, rfl, by decide +kernel, rfl, by decide +kernel, by decide +kernel⟩
theorem ok_linesL {f' : Addr} {fd : FuncData} (F : Fun K "_law_lines" "_law_lines" sLines f' fd) (ms : mg "sorted" = none) (pu : Cl P w K mg base CX0 5 "_law_put_lines" (spPutLines K) []) (ld : Cl P w K mg base CX0 4 "_law_led" (spLed K) []) (lp : Cl P w K mg base CX0 5 "_law_line_put" (spLinePut K) []) :
    FnOk P w K mg base CX0 6 f' fd ["_law_rows"] (spLinesL K) := by
  refine F.ok scLinesL (fun vs H Q E h => ?_) (fun cdv A outer s H vs Q E hr h => ?_)
  · obtain ⟨_, _, _, rfl, _⟩ := h
    rfl
  · obtain ⟨a, zs, U, rfl, hS, hz, nd, hl, hU, ndU, hrb, qn, q⟩ := h
    have hu := hu_of hr
    refine ⟨_, pss_cons (ps_set (i := 1) scLinesL.nd rfl (.inl rfl) (pe_lst pa_nil))
      (pss_cons (ps_for PassesOwn.never rfl (pi_list (pv 0)) (pg_tup rfl (pgs_cons (pg_name (i := 2) scLinesL.nd rfl (.inl rfl)) (pgs_cons (pg_name (i := 3) scLinesL.nd rfl (.inl rfl)) pgs_nil)))
        (pss_one (ps_if (pt_cmpR op_eq (pe_ix (ix_tupK (K := K) rfl) (pv 3) pe_int (fun _ _ => rfl)) pe_str (nomark _))
          (pss_cons (ps_asg (pc0 pu hr (by decide) (pa_cons (pv 1) (pa_cons (pe_ix (ix_tupK (K := K) rfl) (pv 3) pe_int (fun _ _ => rfl)) (pa_cons (pe_ix (ix_tupK (K := K) rfl) (pv 3) pe_int (fun _ _ => rfl)) pa_nil)))) (pg_tup rfl (pgs_cons (pg_name (i := 4) scLinesL.nd rfl (.inl rfl)) (pgs_cons (pg_name (i := 5) scLinesL.nd rfl (.inl rfl)) pgs_nil))))
          (pss_cons (ps_if (PW.pt (pw_and (pt_cmpR (op_eq0 hr.units) (pv 4) pe_dnewK (nomark _)) (pw_and1 (pt_cmpR op_ne (pe_ix (ix_tupK (K := K) rfl) (pv 5) pe_int (fun _ _ => rfl)) pe_int (nomark _))))) (pss_one (ps_ret pe_non)) pss_nil)
          (pss_one (ps_if (pt_cmpR (op_ne0 hr.units) (pv 4) pe_dnewK (nomark _))
            (pss_cons (ps_set (i := 6) scLinesL.nd rfl (.inr rfl) (pc0 ld hr (by decide) (pa_cons (pv 4) (pa_cons (pv 5) pa_nil))))
            (pss_one (ps_set (i := 1) scLinesL.nd rfl (.inl rfl) (pe_op op_cat (pe_lc (own := [("_law_other", 7)]) (g := gName 7) (tt := tYes) rfl scLinesL.nd (pi_list (pv 1)) (blkOk_by (by rfl))
                (fun _ _ _ _ _ => pg_name (i := 7) scLinesL.nd rfl (Or.inl rfl)) (fun _ _ _ _ _ => pts_nil) (fun _ _ _ _ _ => pc0 lp hr (by decide) (pa_cons (pv 7) (pa_cons (pv 6) pa_nil)))) (pe_lst (pa_cons (pv 6) pa_nil))))))
            pss_nil))))
          pss_nil)))
      (pss_one (ps_ret (pe_callB (SiI.cr_sorted3 rfl) (by rfl) ms (by decide +kernel) (pa_cons (pv 1) pa_nil))))), ?_⟩
    refine ⟨by show 0 ≤ sizeLine; exact Nat.zero_le _, fun L nL => ?_⟩
    have s0 := same_new (o := .lst []) nL
    refine ⟨_, rfl, a, rfl, ⟨_, KyS.SqL.extN hS (ExtN.same s0)⟩, ?_⟩
    refine for_list (K := K) (a := a) (xs := zs.map fun z => V.ref z.t) (fun i σ H' => ∃ (y2 y3 y4 y5 y6 y7 : Option V) (L : Addr) (ls : List LnE), σ = [some (.ref a), some (.ref L), y2, y3, y4, y5, y6, y7] ∧ Same H H' ∧ H L = none ∧ H' L = some (.lst (ls.map fun e => V.ref e.t)) ∧ (∀ e ∈ ls, LnOk K U.length H' e) ∧ Lines U (ls.map (·.l)) ∧
        ∀ P, Sol.sats (kU U) ((ls.map (·.l)).map Lw.q) P ↔ satZ U (zs.take i) P)
      ⟨none, none, none, none, none, none, L, [], rfl, s0, nL, upd_same, fun e he => (by cases he), Lines.nil U, fun P => ⟨fun _ z hz => (by cases hz), fun _ l hl => (by cases hl)⟩⟩ (fun i σ H' _ ⟨_, _, _, _, _, _, _, _, _, s, _⟩ => KyS.SqL.extN hS (ExtN.same s)) ?_ ?_
    · rintro i v σ H' hv ⟨y2, y3, y4, y5, y6, y7, L, ls, rfl, S, nL, hL, hls, lin, sat⟩
      rw [List.getElem?_map] at hv
      obtain ⟨z, hzi, rfl⟩ := Option.map_eq_some_iff.mp hv
      have hzm := List.mem_of_getElem? hzi
      obtain ⟨h1, kvs, nb, h2, h3, h4, h5⟩ := (hz z hzm).extN (ExtN.same S)
      have tk : zs.take (i + 1) = zs.take i ++ [z] := by
        rw [List.take_add_one, hzi]
        rfl
      refine ⟨z.t, _, rfl, SqT.of h1, rfl, _, _, rfl, _, _, rfl, rfl, ?_⟩
      refine ⟨_, rfl, z.r, _, 1, _, rfl, rfl, SqT.of h2, atI_nat (j := 1) rfl, rfl, _, rfl, ite2 (fun c => ?_) (fun c => ?_)⟩
      · have ci : isR z = true := by
          have e : V.str z.R.s = V.str (Str.ofString "is") := of_decide_eq_true c
          exact decide_eq_true (V.str.inj e)
        have hzt : z ∈ zs.take (i + 1) := by rw [tk]; exact List.mem_append_right _ (List.mem_singleton_self _)
        obtain ⟨iu, rbz⟩ := hrb z hzm ci
        have subT : ∀ j, ∀ g ∈ zs.take j, g ∈ zs := fun j g hg => List.mem_of_mem_take hg
        have ndT : ∀ j, ((zs.take j).map (·.x)).Nodup := fun j => nd.sublist ((List.take_sublist j zs).map _)
        have short := lines_short ndU hU lin (ndT i) (fun g hg => hrb g (subT i g hg)) sat
        have ps := fun j => put_short ndU hU lin short iu rbz j
        obtain ⟨addA, addB⟩ := addRow_ok ndU lin (R := z.R) rbz.lo iu
        refine ⟨_, rfl, _, rfl, z.r, _, 0, _, rfl, rfl, SqT.of h2, atI_nat (j := 0) rfl, _, rfl, z.r, _, 2, _, rfl, rfl, SqT.of h2, atI_nat (j := 2) rfl, L, z.a, nb, ls, kvs, z.R, U, rfl, SqL.of hL, hls, h3, h4, lin, by omega, ndU, iu, fun j => ⟨(ps j).1, (ps j).2.1⟩,
          fun e he => (short e.l (List.mem_map.mpr ⟨e, he, rfl⟩)).okb (by decide), fun j e he => (ps j).2.2 e.l (List.mem_map.mpr ⟨e, he, rfl⟩), fun H2 t c nb2 ks s2 ht nt nc dm fn => ?_⟩
        have okAll := ps (ls.map (·.l)).length
        rw [List.take_length] at okAll
        have plo : LoR (putAll (ls.map (·.l)) z.R) := ⟨fun k => (okAll.1 k).lo, okAll.2.1.lo⟩
        have S2 := S.trans s2
        have hL2 := s2 _ _ hL
        have hls2 : ∀ e ∈ ls, LnOk K U.length H2 e := fun e he => (hls e he).extN (ExtN.same s2)
        have ncH : H c = none := S.free nc
        refine ⟨t, _, rfl, SqT.of ht, rfl, _, _, rfl, _, _, rfl, rfl, ?_⟩
        refine ⟨_, rfl, fun D1 nD1 => ?_⟩
        have sD1 := same_new (o := .dK []) nD1
        have hD1 : (upd H2 D1 (.dK [])) D1 = some (.dK []) := upd_same
        generalize upd H2 D1 (.dK []) = H3 at sD1 hD1
        have satT : ∀ (P : Key → Rat), satZ U (zs.take (i + 1)) P ↔ satZ U (zs.take i) P ∧ satR U z.R P := fun P => ⟨fun h => ⟨fun g hg hi => h g (by rw [tk]; exact List.mem_append_left _ hg) hi, h z hzt ci⟩, fun ⟨h, h'⟩ g hg hi => by
          rw [tk] at hg
          rcases List.mem_append.mp hg with hg | hg
          · exact h g hg hi
          · rw [List.mem_singleton.mp hg]
            exact h'⟩
        have nzk : nz (putAll (ls.map (·.l)) z.R) ↔ ks ≠ [] := by
          constructor
          · rintro ⟨y, hy⟩ e
            rw [e] at dm
            exact hy (by rw [dm.2.2.2.2 _ rfl])
          · intro hne
            cases ks with
            | nil => exact absurd rfl hne
            | cons p ks =>
              obtain ⟨⟨x', e1, _⟩, _, nz0⟩ := dm.2.2.2.1 p (List.mem_cons_self ..)
              have := nz0 trivial
              rw [e1] at this
              exact ⟨x', this⟩
        refine ⟨c, D1, ks, rfl, rfl, (dm.same sD1).1, hD1, ?_⟩
        have fn3 := fn.new sD1
        have dm3 := dm.same sD1
        have S3 := S2.trans sD1
        by_cases ek : ks = []
        · have nn : ¬ nz (putAll (ls.map (·.l)) z.R) := fun h => nzk.mp h ek
          obtain ⟨eRow, b1, b2⟩ := addB nn
          subst ek
          refine ⟨_, rfl, iteT' rfl ?_⟩
          refine ⟨_, rfl, nb2, _, 0, _, rfl, rfl, fn3.1, atI_nat (j := 0) rfl, rfl, _, rfl, ite2 (fun e => ?_) (fun e => ?_)⟩
          · have n0 : (putAll (ls.map (·.l)) z.R).n.1 ≠ 0 := fun y => by
              rw [y] at e
              cases e
            exact qn (fun P h => b2 n0 P ((sat P).mpr ((satT P).mp fun g hg => h g (subT _ g hg)).1) ((satT P).mp fun g hg => h g (subT _ g hg)).2) _ S3
          · have n0 : (putAll (ls.map (·.l)) z.R).n.1 = 0 := Classical.byContradiction fun y => e (by
              show (!decide (V.int (putAll (ls.map (·.l)) z.R).n.1 = V.int 0)) = true
              rw [decide_eq_false fun w => y (V.int.inj w)]
              rfl)
            refine ⟨_, rfl, fun D2 nD2 => ?_⟩
            have s4 := same_new (o := .dK []) nD2
            refine ⟨c, D2, [], rfl, rfl, (dm3.same s4).1, upd_same, _, rfl, iteF ?_⟩
            exact ⟨_, _, _, _, _, _, L, ls, rfl, S3.trans s4, nL, s4 _ _ (sD1 _ _ hL2), fun e he => ((hls2 e he).extN (ExtN.same sD1)).extN (ExtN.same s4), lin, fun P => (sat P).trans ⟨fun h => (satT P).mpr ⟨h, b1 n0 P ((sat P).mpr h)⟩, fun h => ((satT P).mp h).1⟩⟩
        · have nn := nzk.mpr ek
          have nk : ks.length ≠ 0 := fun y => ek (List.eq_nil_of_length_eq_zero y)
          obtain ⟨linN, satN⟩ := addA nn
          refine ⟨_, rfl, iteF' (by simpa using nk) (iteF ?_)⟩
          refine ⟨_, rfl, fun D2 nD2 => ?_⟩
          have s4 := same_new (o := .dK []) nD2
          refine ⟨c, D2, ks, rfl, rfl, (dm3.same s4).1, upd_same, _, rfl, iteT' (by simpa using nk) ?_⟩
          have dm4 := dm3.same s4
          have fn4 := fn3.new s4
          have S4 := S3.trans s4
          have hL4 := s4 _ _ (sD1 _ _ hL2)
          have hls4 : ∀ e ∈ ls, LnOk K U.length (upd H3 D2 (.dK [])) e := fun e he => ((hls2 e he).extN (ExtN.same sD1)).extN (ExtN.same s4)
          generalize upd H3 D2 (.dK []) = H4 at dm4 fn4 S4 hL4 hls4 ⊢
          refine ⟨_, rfl, _, rfl, c, nb2, ks, putAll (ls.map (·.l)) z.R, U, rfl, dm4, fn4, ek, okAll.1, okAll.2.1, by omega, fun H5 t5 c5 b5 ks5 x s5 ht5 nt5 nc5 dm5 fn5 topx lex okx => ?_⟩
          have eRow : addRow (ls.map (·.l)) z.R = (ls.map (·.l)).map (fun l => lput l (ledL (putAll (ls.map (·.l)) z.R) x)) ++ [ledL (putAll (ls.map (·.l)) z.R) x] := by
            unfold addRow
            rw [if_pos nn, ldU_eq topx lex]
          have hm : LnOk K U.length H5 ⟨t5, c5, b5, ledL (putAll (ls.map (·.l)) z.R) x⟩ := ⟨ht5, ⟨ks5, dm5⟩, fn5, okx⟩
          rw [eRow] at linN satN
          have shortN := lines_short ndU hU linN (ndT (i + 1)) (fun g hg => hrb g (subT (i + 1) g hg)) fun P => (satN P).trans ((and_congr_left fun _ => sat P).trans (satT P).symm)
          have satN' : ∀ P, Sol.sats (kU U) ((((ls.map (·.l)).map (fun l => lput l (ledL (putAll (ls.map (·.l)) z.R) x))) ++ [ledL (putAll (ls.map (·.l)) z.R) x]).map Lw.q) P ↔ satZ U (zs.take (i + 1)) P := fun P => (satN P).trans ((and_congr_left fun _ => sat P).trans (satT P).symm)
          generalize ledL (putAll (ls.map (·.l)) z.R) x = m at hm linN satN shortN satN'
          have mOk := (shortN m (List.mem_append_right _ (List.mem_singleton_self _))).okb (by decide)
          have hL5 := s5 _ _ hL4
          have S5 := S4.trans s5
          have hls5 : ∀ e ∈ ls, LnOk K U.length H5 e := fun e he => (hls4 e he).extN (ExtN.same s5)
          have ll : ls.length ≤ 4 := by
            have z := sub_len lin.nd (U := U) fun x hx => by
              obtain ⟨l, hl', rfl⟩ := List.mem_map.mp hx
              exact lin.mem hl'
            rw [List.length_map, List.length_map] at z
            omega
          refine ⟨_, rfl, L, rfl, ⟨_, SqL.of hL5⟩, fun D nD => ?_⟩
          refine lc_list (K := K) (a := L) (xs := ls.map fun e => V.ref e.t) (fun j H' => ∃ es : List LnE, H' D = some (.lst (es.map fun e => V.ref e.t)) ∧ (∀ e ∈ es, LnOk K U.length H' e) ∧ es.map (·.l) = ((ls.take j).map (·.l)).map (fun l => lput l m) ∧ ∀ b o, b ≠ D → H5 b = some o → H' b = some o)
            ⟨[], upd_same, fun e he => (by cases he), rfl, fun b o n e => by rw [upd_ne n]; exact e⟩ (fun j H' _ ⟨_, _, _, _, w2⟩ => SqL.of (w2 _ _ (ne_of_none hL5 nD) hL5)) ?_ ?_
          · rintro j v H' hv ⟨es, w1, w2, w3, w4⟩
            rw [List.getElem?_map] at hv
            obtain ⟨e, hej, rfl⟩ := Option.map_eq_some_iff.mp hv
            have hem := List.mem_of_getElem? hej
            have s6 : Same H5 H' := fun b o q => w4 _ _ (ne_of_none q nD) q
            have he := (hls5 e hem).extN (ExtN.same s6)
            have hm6 := hm.extN (ExtN.same s6)
            have eOk := (short e.l (List.mem_map.mpr ⟨e, hem, rfl⟩)).okb (by decide)
            have memP : lput e.l m ∈ (ls.map (·.l)).map (fun l => lput l m) ++ [m] := List.mem_append_left _ (List.mem_map.mpr ⟨e.l, List.mem_map.mpr ⟨e, hem, rfl⟩, rfl⟩)
            have el : es.length ≤ 4 := by
              have z := congrArg List.length w3
              rw [List.length_map, List.length_map, List.length_map, List.length_take] at z
              omega
            refine ⟨rfl, _, rfl, _, rfl, e, ⟨t5, c5, b5, m⟩, U, rfl, he, hm6, eOk.1, eOk.2, mOk.1, mOk.2, by omega, fun k hk => (linN.sub memP fun y => hk ((top_q ((linN.lo _ memP).1 k)).mpr y)).1, fun H7 e' s7 he' ee => ?_⟩
            have w17 := s7 _ _ w1
            have kk := ExtN.same s7
            have kL : KpT H7 (upd H7 D (.lst ((es.map fun e => V.ref e.t) ++ [.ref e'.t]))) := KpT.but w17 (fun ys => ⟨by simp, by simp⟩) fun b o n q => by rw [upd_ne n]; exact q
            have kd : ∀ b l, H7 b = some (.dK l) → (upd H7 D (.lst ((es.map fun e => V.ref e.t) ++ [.ref e'.t]))) b = some (.dK l) := fun b l q => by
              rw [upd_ne (ne_of q w17 (fun z => by cases z))]
              exact q
            refine ⟨_, w17, ?_, es ++ [e'], ?_, ?_, ?_, ?_⟩
            · rw [List.length_map]
              exact small1000 (by omega)
            · rw [upd_same, List.map_append]
              rfl
            · intro g hg
              rcases List.mem_append.mp hg with hg | hg
              · exact ((w2 g hg).extN kk).kpT kL (kd _)
              · rw [List.mem_singleton.mp hg]
                exact he'.kpT kL (kd _)
            · rw [List.take_add_one, hej, List.map_append, List.map_append, List.map_append, w3]
              show _ ++ [e'.l] = _ ++ [lput e.l m]
              rw [ee]
            · intro b o n q
              rw [upd_ne n]
              exact s7 _ _ (w4 b o n q)
          · rintro H6 ⟨es, w1, w2, w3, w4⟩
            rw [List.length_map, List.take_length] at w3
            have s6 : Same H5 H6 := fun b o q => w4 _ _ (ne_of_none q nD) q
            have hm6 := hm.extN (ExtN.same s6)
            have el : es.length ≤ 4 := by
              have z := congrArg List.length w3
              rw [List.length_map, List.length_map, List.length_map] at z
              omega
            refine ⟨_, rfl, (by show 1 ≤ sizeLine; decide), fun p2 np2 => ?_⟩
            have s7 := same_new (o := .lst [V.ref t5]) np2
            refine ⟨D, p2, _, _, rfl, rfl, s7 _ _ w1, upd_same, ?_, fun L2 nL2 => ?_⟩
            · rw [List.length_map]
              exact Nat.le_of_lt (small1000 (by show es.length + 1 ≤ 1000; omega))
            have s8 := same_new (o := .lst ((es.map fun e => V.ref e.t) ++ [V.ref t5])) nL2
            have S8 := S5.trans (s6.trans (s7.trans s8))
            have nL2H : H L2 = none := (S5.trans (s6.trans s7)).free nL2
            refine ⟨_, _, _, _, _, _, L2, es ++ [⟨t5, c5, b5, m⟩], rfl, S8, nL2H, by rw [upd_same, List.map_append]; rfl, fun g hg => ?_, ?_, fun P => ?_⟩
            · rcases List.mem_append.mp hg with hg | hg
              · exact ((w2 g hg).extN (ExtN.same s7)).extN (ExtN.same s8)
              · rw [List.mem_singleton.mp hg]
                exact (hm6.extN (ExtN.same s7)).extN (ExtN.same s8)
            · rw [List.map_append, w3]
              exact linN
            · rw [List.map_append, w3]
              exact satN' P
      · have ci : isR z = false := by
          cases h : isR z with
          | false => rfl
          | true =>
            have e : z.R.s = Str.ofString "is" := of_decide_eq_true h
            exact absurd (by rw [e]; exact decide_eq_true rfl) c
        refine ⟨_, _, _, _, _, _, L, ls, rfl, S, nL, hL, hls, lin, fun P => (sat P).trans ⟨fun h g hg hi => ?_, fun h g hg hi => h g (by rw [tk]; exact List.mem_append_left _ hg) hi⟩⟩
        rw [tk] at hg
        rcases List.mem_append.mp hg with hg | hg
        · exact h g hg hi
        · rw [List.mem_singleton.mp hg, ci] at hi
          cases hi
    · rintro σ H' ⟨y2, y3, y4, y5, y6, y7, L, ls, rfl, S, nL, hL, hls, lin, sat⟩
      rw [List.length_map, List.take_length] at sat
      have ll : ls.length ≤ U.length := by
        have z := sub_len lin.nd (U := U) fun x hx => by
          obtain ⟨l, hl', rfl⟩ := List.mem_map.mp hx
          exact lin.mem hl'
        rw [List.length_map, List.length_map] at z
        exact z
      have eZ : (ls.map fun e : LnE => ((e.t, e.l.u, e.c, e.b) : SiI.It3)).map (fun z => V.ref z.1) = ls.map fun e => V.ref e.t := by
        rw [List.map_map]
        rfl
      refine ⟨_, rfl, L, ls.map fun e => (e.t, e.l.u, e.c, e.b), rfl, SqL.of (by rw [eZ]; exact hL), fun z hz' => ?_, by rw [List.length_map]; omega, ?_, fun l ps ys hps pys srt nl => ?_⟩
      · obtain ⟨e, he, rfl⟩ := List.mem_map.mp hz'
        exact (hls e he).1
      · have z := lin.nd
        rw [List.map_map] at z ⊢
        exact z
      · rw [List.map_map] at pys
        obtain ⟨es, pe, rfl⟩ := perm_map_inv (SiI.pi3 ∘ fun e : LnE => ((e.t, e.l.u, e.c, e.b) : SiI.It3)) pys rfl
        subst hps
        have sl := same_new (o := .lst (es.map fun e => V.ref e.t)) nl
        have pl := pe.map (·.l)
        have eP : List.map V.ref (List.map (·.1) (es.map (SiI.pi3 ∘ fun e : LnE => ((e.t, e.l.u, e.c, e.b) : SiI.It3)))) = es.map fun e => V.ref e.t := by
          rw [List.map_map, List.map_map]
          rfl
        rw [eP]
        refine q _ l es (S.trans sl) (S.free nl) upd_same (fun e he => (hls e (pe.mem_iff.mp he)).extN (ExtN.same sl)) (lin.perm pl) ?_ fun P => (sats_perm (pl.map Lw.q) P).trans (sat P)
        rw [List.map_map] at srt ⊢
        exact srt
end
end SS
namespace SS
open PySem PySem.Spec PyProof.Rows L2 NumText LamX KyS
section
variable {P : Program} {w : World} {K : PySem.W.Frag} {mg : Str → Option Value} {base : Heap}
/-! ### _law_is_lines -/
theorem xv_lines {m m' : Nat} {H : Hp} : ∀ {es fs : List LnE}, (∀ e ∈ es, LnOk K m H e) → (∀ f ∈ fs, LnOk K m' H f) → es.map (·.l) = fs.map (·.l) → Paired (XV K H 12) (es.map fun e => V.ref e.t) (fs.map fun e => V.ref e.t)
  | [], [], _, _, _ => .nil
  | [], _ :: _, _, _, h => by cases h
  | _ :: _, [], _, _, h => by cases h
  | e :: es, f :: fs, h1, h2, h => by
    rw [List.map_cons, List.map_cons] at h
    injection h with h3 h4
    obtain ⟨a1, ⟨kvs, a2⟩, a3, _⟩ := h1 e List.mem_cons_self
    obtain ⟨b1, ⟨ls, b2⟩, b3, _⟩ := h2 f List.mem_cons_self
    rw [← h3] at b1 b2 b3
    exact .cons (.inr (.inr (.inr ⟨_, _, _, _, rfl, rfl, SqT.of a1, SqT.of b1, .cons (xv_str 10 _) (.cons (xv_dm 8 a2 b2) (.cons (xv_fr 9 a3 b3) .nil))⟩)))
      (xv_lines (fun e he => h1 e (List.mem_cons_of_mem _ he)) (fun f hf => h2 f (List.mem_cons_of_mem _ hf)) h4)
def spIsLines (K : PySem.W.Frag) : Sp := fun vs H Q _ => ∃ (t l d : Addr) (es fs : List LnE) (m m' : Nat), vs = [.ref t, .ref d] ∧ H t = some (.tup [.str (Str.ofString "solved"), .ref l]) ∧ H l = some (.lst (es.map fun e => V.ref e.t)) ∧ H d = some (.lst (fs.map fun e => V.ref e.t)) ∧ (∀ e ∈ es, LnOk K m H e) ∧ (∀ f ∈ fs, LnOk K m' H f) ∧ es.map (·.l) = fs.map (·.l) ∧
  (∀ e ∈ es, (∀ k, SS.Okb 1400 (e.l.g k)) ∧ SS.Okb 1400 e.l.n) ∧ es.length ≤ 60 ∧ m ≤ 400 ∧ ∀ H', Same H H' → Q (.bl true) H'
theorem scIsLines : FnScope ["_law_told", "_law_due", "_law_line"] ["_law_told", "_law_due"] (defScope sIsLines) := ⟨rfl, rfl, rfl, by decide +kernel, rfl, by decide +kernel, by decide +kernel⟩
theorem call_isiX {X : Cx} {K : PySem.W.Frag} (hK : K = X.K) : CallR X (.builtin "isinstance") (rIsi K) := by
  subst hK
  exact call_isi
theorem ok_islines {f : Addr} {fd : FuncData} (F : Fun K "_law_is_lines" "_law_is_lines" sIsLines f fd) (mi : mg "isinstance" = none) (mli : mg "list" = none) (mt : mg "tuple" = none) (ml : mg "len" = none)
    (isn : Cl P w K mg base CX0 1 "_law_is_name" spIsName []) (iss : Cl P w K mg base CX0 4 "_law_is_sum" spIsSum []) (isf : Cl P w K mg base CX0 2 "_law_is_fraction" (spIsf K) []) : FnOk P w K mg base CX0 5 f fd ["_law_told", "_law_due"] (spIsLines K) := by
  refine F.ok scIsLines (fun vs H Q E h => ?_) (fun cdv A outer s H vs Q E hr h => ?_)
  · obtain ⟨_, _, _, _, _, _, _, rfl, _⟩ := h
    rfl
  · obtain ⟨t, l, d, es, fs, m, m', rfl, hT, hL, hD, he, hf, hn, hx, el, hm, q⟩ := h
    refine ⟨_, pss_cons (ps_if (PW.pt (pw_or (pt_not (pt_val (pe_callB call_isi (by rfl) mi boot_isinstance (pa_cons (pv 0) (pa_cons (pe_bltn (v := .ty "tuple") (u := .type "tuple") (by rfl) mt (by decide +kernel) rfl) pa_nil)))))
        (pw_or (pt_cmpR op_ne (pe_callB call_len_seq (by rfl) ml PySem.boot_len (pa_cons (pv 0) pa_nil)) pe_int (nomark _))
        (pw_or (pt_cmpR op_ne (pe_ix ix_tup (pv 0) pe_int (fun _ _ => rfl)) pe_str (nomark _))
        (pw_or1 (pt_not (pt_val (pe_callB call_isi (by rfl) mi boot_isinstance (pa_cons (pe_ix ix_tup (pv 0) pe_int (fun _ _ => rfl)) (pa_cons (pe_bltn (v := .ty "list") (u := .type "list") (by rfl) mli (by decide +kernel) rfl) pa_nil)))))))))) (pss_one (ps_ret pe_bl)) pss_nil)
      (pss_cons (ps_for PassesOwn.never rfl (pi_list (pe_ix ix_tup (pv 0) pe_int (fun _ _ => rfl))) (pg_name (i := 2) scIsLines.nd rfl (.inl rfl))
        (pss_cons (ps_if (PW.pt (pw_or (pt_not (pt_val (pe_callB (call_isiX (K := K) rfl) (by rfl) mi boot_isinstance (pa_cons (pv 2) (pa_cons (pe_bltn (v := .ty "tuple") (u := .type "tuple") (by rfl) mt (by decide +kernel) rfl) pa_nil)))))
          (pw_or (pt_cmpR op_ne (pe_callB call_len_seq (by rfl) ml PySem.boot_len (pa_cons (pv 2) pa_nil)) pe_int (nomark _))
          (pw_or1 (pt_not (pt_val (pc0 isn hr (by decide) (pa_cons (pe_ix (ix_tupK (K := K) rfl) (pv 2) pe_int (fun _ _ => rfl)) pa_nil)))))))) (pss_one (ps_ret pe_bl)) pss_nil)
        (pss_one (ps_if (PW.pt (pw_or (pt_not (pt_val (pc0 iss hr (by decide) (pa_cons (pe_ix (ix_tupK (K := K) rfl) (pv 2) pe_int (fun _ _ => rfl)) pa_nil))))
          (pw_or1 (pt_not (pt_val (pc0 isf hr (by decide) (pa_cons (pe_ix (ix_tupK (K := K) rfl) (pv 2) pe_int (fun _ _ => rfl)) pa_nil))))))) (pss_one (ps_ret pe_bl)) pss_nil))))
      (pss_one (ps_ret (pe_cmpR (op_eqXV hr.units) (pe_ix ix_tup (pv 0) pe_int (fun _ _ => rfl)) (pv 1) (nomark _))))), ?_⟩
    refine ⟨_, rfl, .ref t, .ty "tuple", .type "tuple", .type "tuple", true, rfl, .ty _, .base (.tup hT), kit_ty (by decide +kernel), _, rfl, iteF ?_⟩
    refine ⟨_, rfl, t, _, rfl, .inr (SqT.of hT), rfl, _, rfl, iteNS rfl ?_⟩
    refine ⟨_, rfl, t, _, 0, _, rfl, rfl, SqT.of hT, atI_nat (j := 0) rfl, rfl, _, rfl, iteNS rfl ?_⟩
    refine ⟨_, rfl, t, _, 1, _, rfl, rfl, SqT.of hT, atI_nat (j := 1) rfl, .ref l, .ty "list", .type "list", .type "list", true, rfl, .ty _, .base (.lst hL), kit_ty (by decide +kernel), _, rfl, iteF ?_⟩
    refine ⟨_, rfl, t, _, 1, _, rfl, rfl, SqT.of hT, atI_nat (j := 1) rfl, l, rfl, ⟨_, SqL.of hL⟩, ?_⟩
    refine for_list (K := K) (a := l) (xs := es.map fun e => V.ref e.t) (fun i σ H' => ∃ y2 : Option V, σ = [some (.ref t), some (.ref d), y2] ∧ Same H H') ⟨none, rfl, fun _ _ h => h⟩ (fun i σ H' _ ⟨_, _, S⟩ => SqL.of (S _ _ hL)) ?_ ?_
    · rintro i v σ H' hv ⟨y2, rfl, S⟩
      rw [List.getElem?_map] at hv
      obtain ⟨e, hei, rfl⟩ := Option.map_eq_some_iff.mp hv
      have hem := List.mem_of_getElem? hei
      obtain ⟨h1, ⟨kvs, h2⟩, h3, h4⟩ := (he e hem).extN (ExtN.same S)
      obtain ⟨x1, x2⟩ := hx e hem
      refine ⟨_, rfl, .ref e.t, .ty "tuple", .type "tuple", .type "tuple", true, rfl, .ty _, .base (.tup h1), kit_ty (by decide +kernel), _, rfl, iteF ?_⟩
      refine ⟨_, rfl, e.t, _, rfl, .inr (SqT.of h1), rfl, _, rfl, iteNS rfl ?_⟩
      refine ⟨_, rfl, e.t, _, 0, _, rfl, rfl, SqT.of h1, atI_nat (j := 0) rfl, e.l.u, rfl, h4, fun H3 s3 => ⟨_, rfl, iteF ?_⟩⟩
      refine ⟨_, rfl, e.t, _, 1, _, rfl, rfl, SqT.of (s3 _ _ h1), atI_nat (j := 1) rfl, e.c, kvs, e.l.g, m, 1400, rfl, h2.same s3, by omega, x1, fun H4 s4 => ⟨_, rfl, iteF ?_⟩⟩
      refine ⟨_, rfl, e.t, _, 2, _, rfl, rfl, SqT.of (s4 _ _ (s3 _ _ h1)), atI_nat (j := 2) rfl, e.b, e.l.n.1, e.l.n.2, rfl, h3.new (s3.trans s4), x2.1, x2.2.2.2, fun H5 s5 => ⟨_, rfl, iteF ?_⟩⟩
      exact ⟨_, rfl, S.trans (s3.trans (s4.trans s5))⟩
    · rintro σ H' ⟨y2, rfl, S⟩
      refine ⟨_, rfl, t, _, 1, _, rfl, rfl, SqT.of (S _ _ hT), atI_nat (j := 1) rfl, _, rfl, 12, by decide, .inl (.inl ⟨l, d, _, _, rfl, rfl, SqL.of (S _ _ hL), SqL.of (S _ _ hD), xv_lines (fun e h => (he e h).extN (ExtN.same S)) (fun f h => (hf f h).extN (ExtN.same S)) hn⟩), q H' S⟩
end
end SS
namespace SS
open PySem PySem.Spec PyProof.Rows L2 NumText LamX KyS
/-! ### rows put otherwise: the mathematics -/
def SmR (R : Rw) : Prop := (∀ k, smT (R.f k) = true) ∧ smT R.n = true
theorem sm_ov' {x : Int × Int} {D : Nat} (l : Lo x) (h : smT x = true) (d : x.2.natAbs ∣ D) (d0 : 0 < D) : Ov D (999 * D) x := by
  unfold smT at h
  rw [Bool.and_eq_true] at h
  have a1 := of_decide_eq_true h.1
  have a2 := of_decide_eq_true h.2
  have x0 := l.1
  obtain ⟨q, hq⟩ := d
  have e : (D : Int) = x.2 * (q : Int) := by
    rw [hq, Int.natCast_mul, Int.natAbs_of_nonneg (by omega)]
  refine ⟨x.1 * (q : Int), ?_, ?_⟩
  · rw [e]
    have t1 := toQ_mul x0
    have : ((x.2 * (q : Int) : Int) : Rat) = (x.2 : Rat) * ((q : Int) : Rat) := by exact_mod_cast rfl
    rw [this]
    have : ((x.1 * (q : Int) : Int) : Rat) = (x.1 : Rat) * ((q : Int) : Rat) := by exact_mod_cast rfl
    rw [this, ← t1]
    grind
  · rw [Int.natAbs_mul]
    have qd : q ≤ D := by
      rw [hq]
      exact Nat.le_mul_of_pos_left _ (by omega)
    have xl : x.1.natAbs ≤ 999 := by
      split at a1 <;> omega
    exact Nat.mul_le_mul xl qd
theorem sm_bot {x : Int × Int} (l : Lo x) (h : smT x = true) : 0 < x.2.natAbs ∧ x.2.natAbs ≤ 100 := by
  unfold smT at h
  rw [Bool.and_eq_true] at h
  have a2 := of_decide_eq_true h.2
  have x0 := l.1
  omega
def botP (U : List Str) (R : Rw) : Nat := U.foldr (fun x n => (R.f (.inr x)).2.natAbs * n) R.n.2.natAbs
theorem botP_ok {R : Rw} (lo : LoR R) (sm : SmR R) : ∀ U : List Str, 0 < botP U R ∧ botP U R ≤ 100 ^ (U.length + 1) ∧ R.n.2.natAbs ∣ botP U R ∧ ∀ x ∈ U, (R.f (.inr x)).2.natAbs ∣ botP U R
  | [] => by
    obtain ⟨a, b⟩ := sm_bot lo.2 sm.2
    exact ⟨a, b, Nat.dvd_refl _, fun x h => (by cases h)⟩
  | y :: U => by
    obtain ⟨a, b, c, d⟩ := botP_ok lo sm U
    obtain ⟨e, f⟩ := sm_bot (lo.1 (.inr y)) (sm.1 (.inr y))
    have eq : botP (y :: U) R = (R.f (.inr y)).2.natAbs * botP U R := rfl
    rw [eq]
    refine ⟨Nat.mul_pos e a, ?_, Nat.dvd_trans c (Nat.dvd_mul_left _ _), fun x hx => ?_⟩
    · rw [List.length_cons, Nat.pow_succ, Nat.mul_comm]
      exact Nat.mul_le_mul b f
    · rcases List.mem_cons.mp hx with rfl | hx
      · exact Nat.dvd_mul_right _ _
      · exact Nat.dvd_trans (d x hx) (Nat.dvd_mul_left _ _)
theorem sm_rb {U : List Str} {R : Rw} (hU : U.length ≤ 4) (iu : R.In U) (lo : LoR R) (sm : SmR R) : RB 44 R := by
  obtain ⟨a, b, c, d⟩ := botP_ok lo sm U
  have b' : botP U R ≤ 100 ^ 5 := Nat.le_trans b (Nat.pow_le_pow_right (by decide) (by omega))
  have m : 999 * botP U R ≤ 2 ^ 44 := Nat.le_trans (Nat.mul_le_mul_left 999 b') (by decide)
  refine ⟨botP U R, a, Nat.le_trans b' (by decide), fun k => ⟨lo.1 k, ?_⟩, lo.2, (sm_ov' lo.2 sm.2 c a).mono m⟩
  by_cases h : (R.f k).1 = 0
  · exact ov_zero ((top_q (lo.1 k)).mp h)
  · obtain ⟨x, hx, e⟩ := List.mem_map.mp (iu k h)
    subst e
    exact (sm_ov' (lo.1 _) (sm.1 _) (d x hx) a).mono m
theorem Rw.Okb.lo {A : Nat} {R : Rw} (h : R.Okb A) : LoR R := ⟨fun k => (h.1 k).lo, h.2.lo⟩
theorem plus_q {R R2 : Rw} {c : Int × Int} (l : LoR R) (l2 : LoR R2) (hc : Lo c) : LoR (R.plus R2 c) ∧ (∀ k, (R.plus R2 c).F k = R.F k + R2.F k * toQ c) ∧ (R.plus R2 c).N = R.N + R2.N * toQ c := by
  refine ⟨⟨fun k => lo_plus (l.1 k).1 (lo_times (l2.1 k).1 hc.1).1, lo_plus l.2.1 (lo_times l2.2.1 hc.1).1⟩, fun k => ?_, ?_⟩
  · show toQ (fplus (R.f k) (ftimes (R2.f k) c)) = toQ (R.f k) + toQ (R2.f k) * toQ c
    rw [toQ_plus (l.1 k).1 (lo_times (l2.1 k).1 hc.1).1, toQ_times (l2.1 k).1 hc.1]
  · show toQ (fplus R.n (ftimes R2.n c)) = toQ R.n + toQ R2.n * toQ c
    rw [toQ_plus l.2.1 (lo_times l2.2.1 hc.1).1, toQ_times l2.2.1 hc.1]
theorem sat_plus {U : List Str} {R R2 : Rw} {c : Int × Int} (l : LoR R) (l2 : LoR R2) (hc : Lo c) {P : Key → Rat} (h : satR U R2 P) : satR U (R.plus R2 c) P ↔ satR U R P := by
  obtain ⟨_, q, qn⟩ := plus_q l l2 hc
  have e : Sol.dot (kU U) (R.plus R2 c).F P = Sol.dot (kU U) R.F P + Sol.dot (kU U) R2.F P * toQ c := by
    rw [← Sol.dot_mul, ← Sol.dot_add]
    exact Sol.dot_congr fun k _ => by rw [q k]
  unfold satR at h ⊢
  rw [e, qn, h]
  constructor
  · intro z
    grind
  · intro z
    grind
def R00 : Rw := ⟨fun _ => (0, 1), Str.ofString "is", (0, 1)⟩
theorem R00_okb (n : Nat) : R00.Okb (n + 1) := ⟨fun _ => okb_zero n, okb_zero n⟩
theorem sat_tm {U : List Str} {R : Rw} {c : Int × Int} (l : LoR R) (hc : Lo c) (c0 : c.1 ≠ 0) {P : Key → Rat} : satR U (R00.plus R c) P ↔ satR U R P := by
  obtain ⟨_, q, qn⟩ := plus_q (R00_okb 0).lo l hc
  have z0 : toQ c ≠ 0 := fun y => c0 ((top_q hc).mpr y)
  have f0 : ∀ k, R00.F k = 0 := fun k => toQ_zero
  have n0 : R00.N = 0 := toQ_zero
  have e : Sol.dot (kU U) (R00.plus R c).F P = Sol.dot (kU U) R.F P * toQ c := by
    rw [← Sol.dot_mul]
    exact Sol.dot_congr fun k _ => by rw [q k, f0 k]; grind
  unfold satR
  rw [e, qn, n0]
  constructor
  · intro z
    grind
  · intro z
    grind
/-! ### the rows as a list -/
def wNm (j : Nat) : Str := Str.ofString "w" ++ (⟨#[97 + j]⟩ : Str)
def NoW (x : Str) : Prop := cutS x none (some 1) ≠ Str.ofString "w"
theorem wNm_all : ∀ j : _root_.Fin 8, cutS (wNm j.val) none (some 1) = Str.ofString "w" ∧ NmOk (wNm j.val) := by decide +kernel
theorem wNm_inj : ∀ i j : _root_.Fin 8, wNm i.val = wNm j.val → i = j := by decide +kernel
structure Wz (U : List Str) (zs : List Ent) : Prop where
  nd : (zs.map (·.x)).Nodup
  nm : ∀ z ∈ zs, NmOk z.x
  ln : zs.length ≤ 8
  sm : ∀ z ∈ zs, z.R.In U ∧ z.R.Okb 20 ∧ (isR z = true → SmR z.R)
  w : ∀ z ∈ zs, NoW z.x ∨ ∃ j, j < zs.length ∧ z.x = wNm j
theorem Wz.perm {U : List Str} {zs zs' : List Ent} (h : Wz U zs) (p : zs'.Perm zs) : Wz U zs' :=
  ⟨(p.map _).nodup_iff.mpr h.nd, fun z hz => h.nm z (p.mem_iff.mp hz), by rw [p.length_eq]; exact h.ln, fun z hz => h.sm z (p.mem_iff.mp hz), fun z hz => by rw [p.length_eq]; exact h.w z (p.mem_iff.mp hz)⟩
theorem Wz.rb {U : List Str} {zs : List Ent} (h : Wz U zs) (hU : U.length ≤ 4) {z : Ent} (hz : z ∈ zs) (hi : isR z = true) : z.R.In U ∧ RB 44 z.R := by
  obtain ⟨a, b, c⟩ := h.sm z hz
  exact ⟨a, sm_rb hU a b.lo (c hi)⟩
theorem Wz.cons {U : List Str} {zs : List Ent} (h : Wz U zs) (hl : zs.length ≤ 7) {e : Ent} (ex : e.x = wNm zs.length) (he : e.R.In U ∧ e.R.Okb 20 ∧ (isR e = true → SmR e.R)) : Wz U (e :: zs) := by
  have a := wNm_all ⟨zs.length, by omega⟩
  refine ⟨?_, fun z hz => ?_, by rw [List.length_cons]; omega, fun z hz => ?_, fun z hz => ?_⟩
  · rw [List.map_cons]
    refine List.nodup_cons.mpr ⟨fun m => ?_, h.nd⟩
    obtain ⟨z, hz, e2⟩ := List.mem_map.mp m
    rcases h.w z hz with n | ⟨j, hj, e3⟩
    · rw [e2, ex] at n
      exact n a.1
    · have e4 : wNm j = wNm zs.length := by rw [← e3, e2, ex]
      have := wNm_inj ⟨j, by omega⟩ ⟨zs.length, by omega⟩ e4
      have : j = zs.length := congrArg _root_.Fin.val this
      omega
  · rcases List.mem_cons.mp hz with rfl | hz
    · rw [ex]
      exact a.2
    · exact h.nm z hz
  · rcases List.mem_cons.mp hz with rfl | hz
    · exact he
    · exact h.sm z hz
  · rcases List.mem_cons.mp hz with rfl | hz
    · exact .inr ⟨zs.length, by rw [List.length_cons]; omega, ex⟩
    · exact (h.w z hz).imp id fun ⟨j, hj, e⟩ => ⟨j, by rw [List.length_cons]; omega, e⟩
theorem Wz.same {U : List Str} {rest : List Ent} {z e : Ent} (h : Wz U (z :: rest)) (ex : e.x = z.x) (he : e.R.In U ∧ e.R.Okb 20 ∧ (isR e = true → SmR e.R)) : Wz U (e :: rest) := by
  refine ⟨?_, fun g hg => ?_, h.ln, fun g hg => ?_, fun g hg => ?_⟩
  · have := h.nd
    rw [List.map_cons] at this ⊢
    rw [ex]
    exact this
  · rcases List.mem_cons.mp hg with rfl | hg
    · rw [ex]
      exact h.nm z (List.mem_cons_self ..)
    · exact h.nm g (List.mem_cons_of_mem _ hg)
  · rcases List.mem_cons.mp hg with rfl | hg
    · exact he
    · exact h.sm g (List.mem_cons_of_mem _ hg)
  · rcases List.mem_cons.mp hg with rfl | hg
    · rw [ex]
      exact h.w z (List.mem_cons_self ..)
    · exact h.w g (List.mem_cons_of_mem _ hg)
theorem satZ_perm {U : List Str} {zs zs' : List Ent} (p : zs'.Perm zs) (P : Key → Rat) : satZ U zs' P ↔ satZ U zs P := ⟨fun h z hz => h z (p.mem_iff.mpr hz), fun h z hz => h z (p.mem_iff.mp hz)⟩
theorem satZ_cons {U : List Str} {zs : List Ent} {e : Ent} {P : Key → Rat} (h : isR e = true → satZ U zs P → satR U e.R P) : satZ U (e :: zs) P ↔ satZ U zs P := ⟨fun s z hz => s z (List.mem_cons_of_mem _ hz), fun s z hz hi => by
  rcases List.mem_cons.mp hz with rfl | hz
  · exact h hi s
  · exact s z hz hi⟩
theorem satZ_same {U : List Str} {rest : List Ent} {z e : Ent} {P : Key → Rat} (hz : isR z = true) (he : isR e = true) (h : satZ U rest P → (satR U e.R P ↔ satR U z.R P)) : satZ U (e :: rest) P ↔ satZ U (z :: rest) P := by
  constructor
  · intro s
    have s' : satZ U rest P := fun g hg => s g (List.mem_cons_of_mem _ hg)
    intro g hg hi
    rcases List.mem_cons.mp hg with rfl | hg
    · exact (h s').mp (s e (List.mem_cons_self ..) he)
    · exact s' g hg hi
  · intro s
    have s' : satZ U rest P := fun g hg => s g (List.mem_cons_of_mem _ hg)
    intro g hg hi
    rcases List.mem_cons.mp hg with rfl | hg
    · exact (h s').mpr (s z (List.mem_cons_self ..) hz)
    · exact s' g hg hi
theorem ins_perm {α : Type} (zs : List α) (e : α) (i : Nat) : (zs.take i ++ [e] ++ zs.drop i).Perm (e :: zs) := by
  rw [List.append_assoc]
  have p := (List.perm_middle (a := e) (l₁ := zs.take i) (l₂ := zs.drop i))
  rw [List.take_append_drop] at p
  exact p
theorem rep_perm {α : Type} (zs : List α) (e : α) (i : Nat) : (zs.take i ++ [e] ++ zs.drop (i + 1)).Perm (e :: (zs.take i ++ zs.drop (i + 1))) := by
  rw [List.append_assoc]
  exact List.perm_middle
theorem at_perm {α : Type} {zs : List α} {z : α} {i : Nat} (h : zs[i]? = some z) : zs.Perm (z :: (zs.take i ++ zs.drop (i + 1))) := by
  obtain ⟨hi, e⟩ := List.getElem?_eq_some_iff.mp h
  have d : zs.drop i = z :: zs.drop (i + 1) := by
    rw [List.drop_eq_getElem_cons hi, e]
  have p := (List.perm_middle (a := z) (l₁ := zs.take i) (l₂ := zs.drop (i + 1)))
  rw [← d, List.take_append_drop] at p
  exact p
theorem rest_mem {α : Type} {zs : List α} {y : α} {i j : Nat} (h : zs[j]? = some y) (n : j ≠ i) : y ∈ zs.take i ++ zs.drop (i + 1) := by
  by_cases c : j < i
  · exact List.mem_append_left _ (List.mem_of_getElem? (i := j) (by rw [List.getElem?_take, if_pos c]; exact h))
  · refine List.mem_append_right _ (List.mem_of_getElem? (i := j - (i + 1)) ?_)
    rw [List.getElem?_drop, show i + 1 + (j - (i + 1)) = j by omega]
    exact h
end SS
namespace SS
open PySem PySem.Spec PyProof.Rows L2 NumText LamX KyS
section
variable {P : Program} {w : World} {K : PySem.W.Frag} {mg : Str → Option Value} {base : Heap}
/-! ### _law_put_otherwise -/
theorem ix_listK {X : Cx} {K : PySem.W.Frag} (hK : K = X.K) : IxR X (rIxL K) := by
  subst hK
  exact ix_list
theorem cutA_to (xs : List V) (k : Nat) : cutV xs none (some (k : Int)) = xs.take k := by
  unfold cutV
  rw [HT.sIx_none, HT.sIx_nat]
  show List.take (min k xs.length - 0) (xs.drop 0) = xs.take k
  rw [List.drop_zero, Nat.sub_zero]
  by_cases h : k ≤ xs.length
  · rw [Nat.min_eq_left h]
  · rw [Nat.min_eq_right (by omega), List.take_length, List.take_of_length_le (by omega)]
theorem cutA_from (xs : List V) (k : Nat) : cutV xs (some (k : Int)) none = xs.drop k := by
  unfold cutV
  rw [HT.sIx_none, HT.sIx_nat]
  by_cases h : k ≤ xs.length
  · rw [Nat.min_eq_left h, List.take_of_length_le (by rw [List.length_drop]; exact Nat.le_refl _)]
  · rw [Nat.min_eq_right (by omega), List.drop_length, List.drop_of_length_le (by omega), List.take_nil]
theorem let8 : ∀ i : _root_.Fin 8, atI (Str.ofString "abcdefgh").cps.toList (i.val : Int) = some (97 + i.val) := by decide +kernel
structure Po (K : PySem.W.Frag) (st c rl ul : Addr) (U : List Str) (zs : List Ent) (H' : Hp) : Prop where
  s : StA st c H'
  r : H' rl = some (.lst (zs.map fun z => V.ref z.t))
  u : H' ul = some (.lst (U.map V.str))
  z : ∀ z ∈ zs, EntOk K U.length H' z
  nr : rl ≠ st
  nu : ul ≠ st
section
variable {st c rl ul : Addr} {U : List Str} {zs : List Ent} {H1 H2 : Hp}
theorem Po.but (h : Po K st c rl ul U zs H1) (b : But st H1 H2) (s : StA st c H2) : Po K st c rl ul U zs H2 := ⟨s, b _ _ h.nr h.r, b _ _ h.nu h.u, fun z hz => (h.z z hz).kp (b.nol h.s), h.nr, h.nu⟩
theorem Po.same (h : Po K st c rl ul U zs H1) (s : Same H1 H2) : Po K st c rl ul U zs H2 := ⟨h.s.same s, s _ _ h.r, s _ _ h.u, fun z hz => (h.z z hz).kp (NoL.same s), h.nr, h.nu⟩
end
def spPutOther (K : PySem.W.Frag) : Sp := fun vs H Q _ => ∃ (st c rl ul : Addr) (U : List Str) (zs : List Ent), vs = [.ref st, .ref rl, .ref ul] ∧ Po K st c rl ul U zs H ∧ Wz U zs ∧ zs.length ≤ 7 ∧ U.length ≤ 4 ∧ (∀ x ∈ U, NmOk x) ∧
  ∀ H' rl' zs', But st H H' → Po K st c rl' ul U zs' H' → Wz U zs' → (∀ P, satZ U zs' P ↔ satZ U zs P) → Q (.ref rl') H'
theorem scPutOther : FnScope ["_law_state", "_law_rows", "_law_unknowns", "_law_way", "_law_k", "_law_spots", "_law_number_here", "_law_name", "_law_at", "_law_other_row", "_law_j", "_law_row", "_law_new"] ["_law_state", "_law_rows", "_law_unknowns"] (defScope sPutOther) := ⟨rfl, rfl, rfl, by decide +kernel, rfl, by decide +kernel, by decide +kernel⟩
set_option maxHeartbeats 8000000 in
theorem ok_putother {f' : Addr} {fd : FuncData} (F : Fun K "_law_put_otherwise" "_law_put_otherwise" sPutOther f' fd) (mr : mg "range" = none) (ml : mg "len" = none) (tk : Cl P w K mg base CX0 3 "_law_take" spTake []) (ss : Cl P w K mg base CX0 5 "_law_some_sum" spSsum [])
    (rp : Cl P w K mg base CX0 5 "_law_row_plus" (spRowPlus K) []) (wi : Cl P w K mg base CX0 1 "_law_within" (spWithin K) []) : FnOk P w K mg base CX0 6 f' fd ["_law_state", "_law_rows", "_law_unknowns"] (spPutOther K) := by
  refine F.ok scPutOther (fun vs H Q E h => ?_) (fun cdv A outer s0 H vs Q E hr h => ?_)
  · obtain ⟨_, _, _, _, _, _, rfl, _⟩ := h
    rfl
  · obtain ⟨st, c, rl, ul, U, zs, rfl, B0, wz, zl, hU, nmU, q⟩ := h
    have hu := hu_of hr
    have nd := scPutOther.nd
    refine ⟨_, pss_cons (ps_set (i := 3) scPutOther.nd rfl (.inl rfl) (pc0 tk hr (by decide) (pa_cons (pv 0) (pa_cons pe_int pa_nil))))
      (pss_cons (ps_setLc (i := 5) (own := [("_law_k", 4)]) (g := gName 4) rfl scPutOther.nd rfl rfl (sw_true rfl rfl rfl (by rfl)) (pi_range1 rfl mr (pa_cons (pe_callB call_len_seq (by rfl) ml PySem.boot_len (pa_cons (pv 1) pa_nil)) pa_nil)) (blkOk_by (by rfl))
        (fun _ _ _ _ _ => pg_name (i := 4) scPutOther.nd rfl (.inl rfl)) (fun _ _ _ _ _ => pts_one (pt_cmpR op_eq (pe_ix (ix_tupK (K := K) rfl) (pe_ix (ix_tupK (K := K) rfl) (pe_ix (ix_listK (K := K) rfl) (pv 1) (pv 4) (fun _ _ => rfl)) pe_int (fun _ _ => rfl)) pe_int (fun _ _ => rfl)) pe_str (nomark _)))
        (fun _ _ _ _ _ => pv 4))
      (pss_cons (ps_set (i := 6) scPutOther.nd rfl (.inl rfl) (pe_ix ix_tup (pe_tup (pa_cons (pe_tup (pa_cons pe_int (pa_cons pe_int pa_nil))) (pa_cons (pe_tup (pa_cons (pe_un un_neg pe_int) (pa_cons pe_int pa_nil))) (pa_cons (pe_tup (pa_cons (pe_un un_neg pe_int) (pa_cons pe_int pa_nil)))
        (pa_cons (pe_tup (pa_cons pe_int (pa_cons pe_int pa_nil))) (pa_cons (pe_tup (pa_cons (pe_un un_neg pe_int) (pa_cons pe_int pa_nil))) pa_nil)))))) (pc0 tk hr (by decide) (pa_cons (pv 0) (pa_cons pe_int pa_nil))) (fun _ _ => rfl)))
      (pss_cons (ps_set (i := 7) scPutOther.nd rfl (.inl rfl) (pe_op op_add_str pe_str (pe_ix ix_str pe_str (pe_callB call_len_seq (by rfl) ml PySem.boot_len (pa_cons (pv 1) pa_nil)) (fun _ _ => rfl))))
      (pss_cons (ps_set (i := 8) scPutOther.nd rfl (.inl rfl) (pc0 tk hr (by decide) (pa_cons (pv 0) (pa_cons (pe_op op_add (pe_callB call_len_seq (by rfl) ml PySem.boot_len (pa_cons (pv 1) pa_nil)) pe_int) pa_nil))))
      (pss_cons (ps_set (i := 9) scPutOther.nd rfl (.inl rfl) (pe_tup (pa_cons (pc0 ss hr (by decide) (pa_cons (pv 0) (pa_cons (pv 2) pa_nil))) (pa_cons (pe_ix ix_tup (pe_tup (pa_cons pe_str (pa_cons pe_str (pa_cons pe_str (pa_cons pe_str pa_nil))))) (pc0 tk hr (by decide) (pa_cons (pv 0) (pa_cons pe_int pa_nil))) (fun _ _ => rfl))
        (pa_cons (pe_tup (pa_cons pe_int (pa_cons pe_int pa_nil))) pa_nil)))))
      (pss_cons (ps_if (pt_cmpR op_eq (pv 3) pe_int (nomark _)) (pss_one (ps_ret (pe_revL (pv 1)))) pss_nil)
      (pss_cons (ps_if (PW.pt (pw_or (pt_cmpR op_eq (pe_callB call_len_seq (by rfl) ml PySem.boot_len (pa_cons (pv 5) pa_nil)) pe_int (nomark _)) (pw_or1 (pt_cmpR op_eq (pv 3) pe_int (nomark _)))))
        (pss_one (ps_ret (pe_op op_cat (pe_op op_cat (pe_slice sl_list (pv 1) po_none (po_some (pv 8))) (pe_lst (pa_cons (pe_tup (pa_cons (pv 7) (pa_cons (pv 9) pa_nil))) pa_nil))) (pe_slice sl_list (pv 1) (po_some (pv 8)) po_none)))) pss_nil)
      (pss_cons (ps_set (i := 4) scPutOther.nd rfl (.inl rfl) (pe_ix ix_list (pv 5) (pc0 tk hr (by decide) (pa_cons (pv 0) (pa_cons (pe_callB call_len_seq (by rfl) ml PySem.boot_len (pa_cons (pv 5) pa_nil)) pa_nil))) (fun _ _ => rfl)))
      (pss_cons (ps_set (i := 10) scPutOther.nd rfl (.inl rfl) (pe_ix ix_list (pv 5) (pc0 tk hr (by decide) (pa_cons (pv 0) (pa_cons (pe_callB call_len_seq (by rfl) ml PySem.boot_len (pa_cons (pv 5) pa_nil)) pa_nil))) (fun _ _ => rfl)))
      (pss_cons (ps_set (i := 11) scPutOther.nd rfl (.inl rfl) (pe_ix ix_tup (pe_ix ix_list (pv 1) (pv 4) (fun _ _ => rfl)) pe_int (fun _ _ => rfl)))
      (pss_cons (ps_set (i := 12) scPutOther.nd rfl (.inl rfl) (pc0 rp hr (by decide) (pa_cons (pv 11) (pa_cons (pe_ix ix_tup (pe_ix ix_list (pv 1) (pv 10) (fun _ _ => rfl)) pe_int (fun _ _ => rfl)) (pa_cons (pv 6) pa_nil)))))
      (pss_cons (ps_if (pt_cmpR op_eq (pv 3) pe_int (nomark _)) (pss_one (ps_set (i := 12) scPutOther.nd rfl (.inl rfl) (pc0 rp hr (by decide) (pa_cons (pe_tup (pa_cons pe_dnewK (pa_cons pe_str (pa_cons (pe_tup (pa_cons pe_int (pa_cons pe_int pa_nil))) pa_nil)))) (pa_cons (pv 11) (pa_cons (pv 6) pa_nil)))))) pss_nil)
      (pss_cons (ps_if (pt_cmpR op_eq (pv 3) pe_int (nomark _)) (pss_one (ps_set (i := 12) scPutOther.nd rfl (.inl rfl) (pv 11))) pss_nil)
      (pss_cons (ps_if (PW.pt (pw_or (pt_not (pt_val (pc0 wi hr (by decide) (pa_cons (pv 12) pa_nil)))) (pw_or1 (PW.pt (pw_and (pt_cmpR op_eq (pv 3) pe_int (nomark _)) (pw_and1 (pt_cmpR op_eq (pv 4) (pv 10) (nomark _)))))))) (pss_one (ps_ret (pv 1))) pss_nil)
      (pss_cons (ps_if (pt_cmpR op_lt (pv 3) pe_int (nomark _))
        (pss_one (ps_ret (pe_op op_cat (pe_op op_cat (pe_slice sl_list (pv 1) po_none (po_some (pv 4))) (pe_lst (pa_cons (pe_tup (pa_cons (pe_ix ix_tup (pe_ix ix_list (pv 1) (pv 4) (fun _ _ => rfl)) pe_int (fun _ _ => rfl)) (pa_cons (pv 12) pa_nil))) pa_nil))) (pe_slice sl_list (pv 1) (po_some (pe_op op_add (pv 4) pe_int)) po_none)))) pss_nil)
      (pss_one (ps_ret (pe_op op_cat (pe_op op_cat (pe_slice sl_list (pv 1) po_none (po_some (pv 8))) (pe_lst (pa_cons (pe_tup (pa_cons (pv 7) (pa_cons (pv 12) pa_nil))) pa_nil))) (pe_slice sl_list (pv 1) (po_some (pv 8)) po_none))))))))))))))))))), ?_⟩
    have eL : (zs.map fun z => V.ref z.t).length = zs.length := List.length_map _
    have at_rl : ∀ k : Nat, ∀ z, zs[k]? = some z → ∀ d : Int, d = (k : Int) → atI (zs.map fun z => V.ref z.t) d = some (.ref z.t) := fun k z h d e => at_of (j := k) e (by rw [List.getElem?_map, h]; rfl)
    refine ⟨_, rfl, st, c, 6, rfl, by decide, by decide, B0.s, fun H1 way b1 s1 l1 u1 => ?_⟩
    have B1 := B0.but b1 s1
    -- where rows "is" stand
    refine ⟨_, rfl, rl, _, rfl, .inl (SqL.of B1.r), ((zs.map fun z => V.ref z.t).length : Int), rfl, by rw [eL]; omega, by rw [eL]; omega, fun D nD => ?_⟩
    have DS := s1.fresh nD
    refine lc_range (lo := 0) (n := (((zs.map fun z => V.ref z.t).length : Nat) : Int).toNat) (fun i H' => ∃ ks : List Nat, H' D = some (.lst (ks.map fun k : Nat => V.int (0 + (k : Int)))) ∧ ks.length ≤ i ∧ (∀ k ∈ ks, ∃ z, zs[k]? = some z ∧ isR z = true) ∧ ∀ b o, b ≠ D → H1 b = some o → H' b = some o)
      ⟨[], upd_same, Nat.le_refl _, fun k hk => (by cases hk), fun b o n e => by rw [upd_ne n]; exact e⟩ ?_ ?_
    · rintro i H' hi ⟨ks, w1, wl, wk, w2⟩
      have il : i < zs.length := by
        rw [eL, Int.toNat_natCast] at hi
        exact hi
      obtain ⟨z, hz⟩ : ∃ z, zs[i]? = some z := ⟨zs[i], List.getElem?_eq_getElem il⟩
      obtain ⟨h1, kvs, n, h2, h3, h4, h5⟩ := B1.z z (List.mem_of_getElem? hz)
      refine ⟨rfl, _, rfl, _, rfl, rl, _, _, _, rfl, rfl, SqL.of (w2 _ _ (ne_of_none B1.r nD) B1.r), at_rl i z hz _ (by omega), z.t, _, 1, _, rfl, rfl, SqT.of (w2 _ _ (ne_of_none h1 nD) h1), atI_nat (j := 1) rfl, ?_⟩
      refine ⟨z.r, _, 1, _, rfl, rfl, SqT.of (w2 _ _ (ne_of_none h2 nD) h2), atI_nat (j := 1) rfl, rfl, _, rfl, ite2 (fun e => ⟨_, rfl, _, w1, ?_, ks ++ [i], ?_, ?_, ?_, fun b o n e => by rw [upd_ne n]; exact w2 b o n e⟩) (fun e => ⟨ks, w1, Nat.le_succ_of_le wl, wk, w2⟩)⟩
      · rw [List.length_map]
        exact small1000 (by omega)
      · rw [upd_same, List.map_append]
        rfl
      · rw [List.length_append]
        exact Nat.add_le_add_right wl 1
      · intro k hk
        rcases List.mem_append.mp hk with hk | hk
        · exact wk k hk
        · rw [List.mem_singleton.mp hk]
          exact ⟨z, hz, decide_eq_true (V.str.inj (of_decide_eq_true e))⟩
    rintro H2 ⟨ks, hD2, kl, wk, w2⟩
    rw [eL, Int.toNat_natCast] at kl
    have S2 : Same H1 H2 := fun b o e => w2 _ _ (ne_of_none e nD) e
    have B2 := B1.same S2
    have b02 := b1.trans (Same.but S2)
    have ekl : (ks.map fun k : Nat => V.int (0 + (k : Int))).length = ks.length := List.length_map _
    clear w2 S2 nD b1 B1 s1
    -- a number
    refine ⟨small2, fun p1 np1 => ?_⟩
    have e1 := same_new (o := .tup [.int 2, .int 1]) np1
    have a1 := upd_same (H := H2) (a := p1) (o := .tup [.int 2, .int 1])
    generalize upd H2 p1 (.tup [.int 2, .int 1]) = G1 at e1 a1 ⊢
    refine ⟨1, rfl, small2, fun p2 np2 => ?_⟩
    have e2 := same_new (o := .tup [.int (-1), .int 1]) np2
    have a2 := upd_same (H := G1) (a := p2) (o := .tup [.int (-1), .int 1])
    generalize upd G1 p2 (.tup [.int (-1), .int 1]) = G2 at e2 a2 ⊢
    refine ⟨1, rfl, small2, fun p3 np3 => ?_⟩
    have e3 := same_new (o := .tup [.int (-1), .int 3]) np3
    have a3 := upd_same (H := G2) (a := p3) (o := .tup [.int (-1), .int 3])
    generalize upd G2 p3 (.tup [.int (-1), .int 3]) = G3 at e3 a3 ⊢
    refine ⟨small2, fun p4 np4 => ?_⟩
    have e4 := same_new (o := .tup [.int 3, .int 2]) np4
    have a4 := upd_same (H := G3) (a := p4) (o := .tup [.int 3, .int 2])
    generalize upd G3 p4 (.tup [.int 3, .int 2]) = G4 at e4 a4 ⊢
    refine ⟨7, rfl, small2, fun p5 np5 => ?_⟩
    have e5 := same_new (o := .tup [.int (-7), .int 1]) np5
    have a5 := upd_same (H := G4) (a := p5) (o := .tup [.int (-7), .int 1])
    generalize upd G4 p5 (.tup [.int (-7), .int 1]) = G5 at e5 a5 ⊢
    refine ⟨(by show 5 ≤ sizeLine; decide), fun T6 nT6 => ?_⟩
    have e6 := same_new (o := .tup [.ref p1, .ref p2, .ref p3, .ref p4, .ref p5]) nT6
    have a6 := upd_same (H := G5) (a := T6) (o := .tup [.ref p1, .ref p2, .ref p3, .ref p4, .ref p5])
    generalize upd G5 T6 (.tup [.ref p1, .ref p2, .ref p3, .ref p4, .ref p5]) = G6 at e6 a6 ⊢
    have E6 := (((e1.trans e2).trans e3).trans ((e4.trans e5).trans e6))
    have B6 := B2.same E6
    have hD6 := E6 _ _ hD2
    have b06 := b02.trans (Same.but E6)
    refine ⟨_, rfl, st, c, 5, rfl, by decide, by decide, B6.s, fun H3 d3 b3 s3 l3 u3 => ?_⟩
    obtain ⟨pn, cn, hat3, hpn, okc, cn0⟩ : ∃ (pn : Addr) (cn : Int × Int), atI [V.ref p1, .ref p2, .ref p3, .ref p4, .ref p5] d3 = some (.ref pn) ∧ G6 pn = some (.tup [.int cn.1, .int cn.2]) ∧ SS.Okb 20 cn ∧ cn.1 ≠ 0 := by
      have cs : d3 = 0 ∨ d3 = 1 ∨ d3 = 2 ∨ d3 = 3 ∨ d3 = 4 := by omega
      have k5 := e5.trans e6
      have k4 := e4.trans k5
      have k3 := e3.trans k4
      rcases cs with rfl | rfl | rfl | rfl | rfl
      · exact ⟨p1, (2, 1), atI_nat (j := 0) rfl, (e2.trans k3) _ _ a1, ⟨by decide, by decide, by decide, by decide⟩, by decide⟩
      · exact ⟨p2, (-1, 1), atI_nat (j := 1) rfl, k3 _ _ a2, ⟨by decide, by decide, by decide, by decide⟩, by decide⟩
      · exact ⟨p3, (-1, 3), atI_nat (j := 2) rfl, k4 _ _ a3, ⟨by decide, by decide, by decide, by decide⟩, by decide⟩
      · exact ⟨p4, (3, 2), atI_nat (j := 3) rfl, k5 _ _ a4, ⟨by decide, by decide, by decide, by decide⟩, by decide⟩
      · exact ⟨p5, (-7, 1), atI_nat (j := 4) rfl, e6 _ _ a5, ⟨by decide, by decide, by decide, by decide⟩, by decide⟩
    have B3 := B6.but b3 s3
    have hD3 := b3 _ _ DS hD6
    have hpn3 := b3.tup B6.s hpn
    have b03 := b06.trans b3
    refine ⟨T6, _, d3, _, rfl, rfl, SqT.of (b3.tup B6.s a6), hat3, ?_⟩
    clear E6 e1 e2 e3 e4 e5 e6 a1 a2 a3 a4 a5 a6 hat3 np1 np2 np3 np4 np5 nT6 B2 hD2 b02 hD6 B6 hpn b06 b3 s3
    -- a name
    have lt : ((zs.map fun z => V.ref z.t).length : Int) = (zs.length : Int) := congrArg Int.ofNat eL
    refine ⟨_, rfl, rl, _, rfl, .inl (SqL.of B3.r), _, _, 97 + zs.length, rfl, rfl, (by decide), (by rw [lt]; exact let8 ⟨zs.length, by omega⟩), _, _, rfl, rfl, (by show 1 + 1 ≤ sizeLine; decide), ?_⟩
    -- a place
    refine ⟨_, rfl, _, rfl, rl, _, rfl, .inl (SqL.of B3.r), ((zs.map fun z => V.ref z.t).length : Int), 1, rfl, rfl, st, c, ((zs.map fun z => V.ref z.t).length : Int) + 1, rfl, by omega, lt8 (by rw [lt]; omega), B3.s, fun H4 at4 b4 s4 l4 u4 => ?_⟩
    rw [lt] at u4
    obtain ⟨at_, rfl⟩ : ∃ n : Nat, at4 = (n : Int) := ⟨at4.toNat, by omega⟩
    have B4 := B3.but b4 s4
    have hD4 := b4 _ _ DS hD3
    have hpn4 := b4.tup B3.s hpn3
    have b04 := b03.trans b4
    clear b4 s4 B3 hD3 hpn3 b03
    -- another row
    refine ⟨_, rfl, _, rfl, st, c, ul, U, rfl, B4.s, B4.u, by omega, nmU, fun H5 ao ko b5 s5 nao df nz kin => ?_⟩
    have Do : DM True 10 H5 ao ko (pval H5 ko) := (df.dm nz).mono (by omega)
    have oko : ∀ k, SS.Okb 20 (pval H5 ko k) := fun k => df.okp (k := 19) k
    have io : ∀ srt, Rw.In U ⟨pval H5 ko, srt, (3, 1)⟩ := fun srt => In.of Do kin srt (3, 1)
    have B5 := B4.but b5 s5
    have hD5 := b5 _ _ DS hD4
    have hpn5 := b5.tup B4.s hpn4
    have b05 := b04.trans b5
    generalize pval H5 ko = fo at Do oko io
    clear df nz b5 s5 B4 hD4 hpn4 b04 kin nao
    refine ⟨(by show 4 ≤ sizeLine; decide), fun T4 nT4 => ?_⟩
    have e1 := same_new (o := .tup [.str "most", .str "least", .str "below", .str "above"]) nT4
    have a1 := upd_same (H := H5) (a := T4) (o := .tup [.str "most", .str "least", .str "below", .str "above"])
    generalize upd H5 T4 (.tup [.str "most", .str "least", .str "below", .str "above"]) = G1 at e1 a1 ⊢
    have B5' := B5.same e1
    refine ⟨_, rfl, st, c, 4, rfl, by decide, by decide, B5'.s, fun H6 d6 b6 s6 l6 u6 => ?_⟩
    obtain ⟨so, hso, hat6⟩ := at_mapV (f := V.str) (xs := ["most", "least", "below", "above"]) l6 (by exact u6)
    refine ⟨T4, _, d6, _, rfl, rfl, SqT.of (b6.tup B5'.s a1), hat6, small2, fun p7 np7 => ?_⟩
    have e7 := same_new (o := .tup [.int 3, .int 1]) np7
    have a7 := upd_same (H := H6) (a := p7) (o := .tup [.int 3, .int 1])
    generalize upd H6 p7 (.tup [.int 3, .int 1]) = G7 at e7 a7 ⊢
    refine ⟨(by show 3 ≤ sizeLine; decide), fun ro nro => ?_⟩
    have e8 := same_new (o := .tup [.ref ao, .str so, .ref p7]) nro
    have a8 := upd_same (H := G7) (a := ro) (o := .tup [.ref ao, .str so, .ref p7])
    generalize upd G7 ro (.tup [.ref ao, .str so, .ref p7]) = H8 at e8 a8 ⊢
    have soS : so ∈ sorts := by
      simp only [List.mem_cons, List.mem_nil_iff, or_false] at hso
      rcases hso with rfl | rfl | rfl | rfl <;> decide
    have soN : so ≠ Str.ofString "is" := by
      simp only [List.mem_cons, List.mem_nil_iff, or_false] at hso
      rcases hso with rfl | rfl | rfl | rfl <;> decide
    have B8 := (B5'.but b6 s6).same (e7.trans e8)
    have hD8 := e8 _ _ (e7 _ _ (b6 _ _ DS (e1 _ _ hD5)))
    have hpn8 := e8 _ _ (e7 _ _ (b6.tup B5'.s (e1 _ _ hpn5)))
    have b08 := b05.trans ((Same.but e1).trans (b6.trans (Same.but (e7.trans e8))))
    have ro8 : RowE K U.length H8 ro ao ⟨fo, so, (3, 1)⟩ := RowE.tight (m := 10) ⟨ko, p7, a8, (((Do.same e1).kp (b6.nol B5'.s)).same e7).same e8, (FrT.of a7).new e8, soS⟩ (io so)
    clear e1 a1 e7 a7 e8 a8 hat6 nT4 np7 nro B5 B5' hD5 hpn5 b05 b6 s6 Do hso
    -- which way
    refine ⟨_, rfl, rfl, _, rfl, ite2 (fun e => ?_) (fun e => ?_)⟩
    · refine ⟨_, rfl, rl, _, rfl, SqL.of B8.r, fun p np => ?_⟩
      have eN := same_new (o := .lst (zs.map fun z => V.ref z.t).reverse) np
      have Bn := B8.same eN
      refine q _ p zs.reverse (b08.trans (Same.but eN)) ⟨Bn.s, ?_, Bn.u, fun z hz => Bn.z z (List.mem_reverse.mp hz), B8.s.fresh np, Bn.nu⟩ (wz.perm (List.reverse_perm zs)) (satZ_perm (List.reverse_perm zs))
      rw [upd_same, List.map_reverse]
    refine ⟨_, rfl, D, _, rfl, .inl (SqL.of hD8), rfl, _, rfl, ite2 (fun e1 => iteT ?t1) (fun e1 => ⟨_, rfl, rfl, _, rfl, ite2 (fun e2 => ?t2) (fun e2 => ?t3)⟩)⟩
    case t1 | t2 =>
      refine ⟨_, rfl, _, rfl, (at_ : Int), rfl, rl, _, rfl, SqL.of B8.r, fun q1 nq1 => ?_⟩
      rw [cutA_to, ← List.map_take]
      have f1 := same_new (o := .lst ((zs.take at_).map fun z => V.ref z.t)) nq1
      have c1 := upd_same (H := H8) (a := q1) (o := .lst ((zs.take at_).map fun z => V.ref z.t))
      generalize upd H8 q1 (.lst ((zs.take at_).map fun z => V.ref z.t)) = F1 at f1 c1 ⊢
      refine ⟨_, rfl, _, rfl, small2, fun T nT => ?_⟩
      have f2 := same_new (o := .tup [.str (Str.ofString "w" ++ (⟨#[97 + zs.length]⟩ : Str)), .ref ro]) nT
      have c2 := upd_same (H := F1) (a := T) (o := .tup [.str (Str.ofString "w" ++ (⟨#[97 + zs.length]⟩ : Str)), .ref ro])
      generalize upd F1 T (.tup [.str (Str.ofString "w" ++ (⟨#[97 + zs.length]⟩ : Str)), .ref ro]) = F2 at f2 c2 ⊢
      refine ⟨(by show 1 ≤ sizeLine; decide), fun q2 nq2 => ?_⟩
      have f3 := same_new (o := .lst [V.ref T]) nq2
      have c3 := upd_same (H := F2) (a := q2) (o := .lst [V.ref T])
      generalize upd F2 q2 (.lst [V.ref T]) = F3 at f3 c3 ⊢
      have tl := List.length_take_le at_ zs
      refine ⟨q1, q2, _, _, rfl, rfl, f3 _ _ (f2 _ _ c1), c3, Nat.le_of_lt (small1000 (by rw [List.length_map]; show (zs.take at_).length + 1 ≤ 1000; omega)), fun q3 nq3 => ?_⟩
      have f4 := same_new (o := .lst (((zs.take at_).map fun z => V.ref z.t) ++ [V.ref T])) nq3
      have c4 := upd_same (H := F3) (a := q3) (o := .lst (((zs.take at_).map fun z => V.ref z.t) ++ [V.ref T]))
      generalize upd F3 q3 (.lst (((zs.take at_).map fun z => V.ref z.t) ++ [V.ref T])) = F4 at f4 c4 ⊢
      have E4 := (f1.trans f2).trans (f3.trans f4)
      refine ⟨_, rfl, _, rfl, (at_ : Int), rfl, rl, _, rfl, SqL.of (E4 _ _ B8.r), fun q4 nq4 => ?_⟩
      rw [cutA_from, ← List.map_drop]
      have f5 := same_new (o := .lst ((zs.drop (at_)).map fun z => V.ref z.t)) nq4
      have c5 := upd_same (H := F4) (a := q4) (o := .lst ((zs.drop (at_)).map fun z => V.ref z.t))
      generalize upd F4 q4 (.lst ((zs.drop (at_)).map fun z => V.ref z.t)) = F5 at f5 c5 ⊢
      refine ⟨q3, q4, _, _, rfl, rfl, f5 _ _ c4, c5, Nat.le_of_lt (small1000 (by rw [List.length_append, List.length_map, List.length_map, List.length_drop]; show (zs.take at_).length + 1 + (zs.length - (at_)) ≤ 1000; omega)), fun rl' nrl => ?_⟩
      have f6 := same_new (o := .lst (((zs.take at_).map fun z => V.ref z.t) ++ [V.ref T] ++ ((zs.drop (at_)).map fun z => V.ref z.t))) nrl
      have E6 := E4.trans (f5.trans f6)
      have Bn := B8.same E6
      have nrS := (B8.same (E4.trans f5)).s.fresh nrl
      have hT := f6 _ _ (f5 _ _ (f4 _ _ (f3 _ _ c2)))
      have hp := ins_perm zs (⟨T, wNm zs.length, ⟨fo, so, (3, 1)⟩, ro, ao⟩ : Ent) at_
      have eU : (upd F5 rl' (.lst (((zs.take at_).map fun z => V.ref z.t) ++ [V.ref T] ++ ((zs.drop at_).map fun z => V.ref z.t)))) rl' = some (.lst ((zs.take at_ ++ [(⟨T, wNm zs.length, ⟨fo, so, (3, 1)⟩, ro, ao⟩ : Ent)] ++ zs.drop at_).map fun z => V.ref z.t)) := by
        rw [upd_same, List.map_append, List.map_append]
        rfl
      have hz' : ∀ z ∈ (zs.take at_ ++ [(⟨T, wNm zs.length, ⟨fo, so, (3, 1)⟩, ro, ao⟩ : Ent)] ++ zs.drop at_), EntOk K U.length (upd F5 rl' (.lst (((zs.take at_).map fun z => V.ref z.t) ++ [V.ref T] ++ ((zs.drop at_).map fun z => V.ref z.t)))) z := fun z hz => by
        rcases List.mem_cons.mp (hp.mem_iff.mp hz) with rfl | hz
        · exact ⟨hT, (ro8).kp (NoL.same E6)⟩
        · exact Bn.z z hz
      have hW : Wz U (zs.take at_ ++ [(⟨T, wNm zs.length, ⟨fo, so, (3, 1)⟩, ro, ao⟩ : Ent)] ++ zs.drop at_) := (Wz.cons (e := (⟨T, wNm zs.length, ⟨fo, so, (3, 1)⟩, ro, ao⟩ : Ent)) wz zl rfl ⟨io so, ⟨fun k => oko k, (show SS.Okb 20 ((3 : Int), (1 : Int)) from ⟨by decide, by decide, by decide, by decide⟩)⟩, fun y => absurd (of_decide_eq_true y) soN⟩).perm hp
      have hs : ∀ P, satZ U (zs.take at_ ++ [(⟨T, wNm zs.length, ⟨fo, so, (3, 1)⟩, ro, ao⟩ : Ent)] ++ zs.drop at_) P ↔ satZ U zs P := fun P => by
        refine (satZ_perm hp P).trans ?_
        refine satZ_cons (e := (⟨T, wNm zs.length, ⟨fo, so, (3, 1)⟩, ro, ao⟩ : Ent)) fun y h => ?_
        exact absurd (of_decide_eq_true y) soN
      exact q _ rl' _ (b08.trans (Same.but E6)) ⟨Bn.s, eU, Bn.u, hz', nrS, Bn.nu⟩ hW hs
    case t3 =>
      clear ro8 io oko soS soN
      have kpos : 0 < ks.length := by
        rcases Nat.eq_zero_or_pos ks.length with h | h
        · exact absurd (by rw [ekl, h]; rfl) e1
        · exact h
      have lk : ((ks.map fun k : Nat => V.int (0 + (k : Int))).length : Int) = (ks.length : Int) := congrArg Int.ofNat ekl
      have pick : ∀ d : Int, 0 ≤ d → d < ks.length → ∃ (k : Nat) (z : Ent), atI (ks.map fun k : Nat => V.int (0 + (k : Int))) d = some (.int (k : Int)) ∧ zs[k]? = some z ∧ isR z = true := fun d h0 h1 => by
        obtain ⟨k, hk, e⟩ := at_mapV (f := fun k : Nat => V.int (0 + (k : Int))) (xs := ks) h0 h1
        obtain ⟨z, hz, hi⟩ := wk k hk
        exact ⟨k, z, by rw [e, Int.zero_add], hz, hi⟩
      refine ⟨_, rfl, _, rfl, _, rfl, D, _, rfl, .inl (SqL.of hD8), st, c, ((ks.map fun k : Nat => V.int (0 + (k : Int))).length : Int), rfl, by rw [lk]; omega, lt8 (by rw [lk]; omega), B8.s, fun H9 d9 b9 s9 l9 u9 => ?_⟩
      rw [lk] at u9
      obtain ⟨k, zk, hatk, hzk, ik⟩ := pick d9 l9 u9
      have B9 := B8.but b9 s9
      have hD9 := b9 _ _ DS hD8
      have hpn9 := b9.tup B8.s hpn8
      have b09 := b08.trans b9
      refine ⟨D, _, d9, _, rfl, rfl, SqL.of hD9, hatk, ?_⟩
      refine ⟨_, rfl, _, rfl, _, rfl, D, _, rfl, .inl (SqL.of hD9), st, c, ((ks.map fun k : Nat => V.int (0 + (k : Int))).length : Int), rfl, by rw [lk]; omega, lt8 (by rw [lk]; omega), B9.s, fun H10 d10 b10 s10 l10 u10 => ?_⟩
      rw [lk] at u10
      obtain ⟨j, zj, hatj, hzj, ij⟩ := pick d10 l10 u10
      have B10 := B9.but b10 s10
      have hpn10 := b10.tup B9.s hpn9
      have b010 := b09.trans b10
      refine ⟨D, _, d10, _, rfl, rfl, SqL.of (b10 _ _ DS hD9), hatj, ?_⟩
      clear B8 hD8 hpn8 b08 b9 s9 B9 hD9 hpn9 b09 b10 s10 hatk hatj
      have mk := List.mem_of_getElem? hzk
      have mj := List.mem_of_getElem? hzj
      obtain ⟨iuk, okk, smk⟩ := wz.sm zk mk
      obtain ⟨iuj, okj, _⟩ := wz.sm zj mj
      have kle : k < zs.length := (List.getElem?_eq_some_iff.mp hzk).1
      refine ⟨_, rfl, _, rfl, rl, _, _, _, rfl, rfl, SqL.of B10.r, at_rl k zk hzk _ (by omega), zk.t, _, 1, _, rfl, rfl, SqT.of (B10.z zk mk).1, atI_nat (j := 1) rfl, ?_⟩
      refine ⟨_, rfl, _, rfl, _, rfl, rl, _, _, _, rfl, rfl, SqL.of B10.r, at_rl j zj hzj _ (by omega), zj.t, _, 1, _, rfl, rfl, SqT.of (B10.z zj mj).1, atI_nat (j := 1) rfl, ?_⟩
      refine ⟨_, rfl, zk.r, zk.a, zj.r, zj.a, pn, zk.R, zj.R, cn, U.length, rfl, (B10.z zk mk).2, (B10.z zj mj).2, FrT.of hpn10, by omega, okk.mono (by decide), okj.mono (by decide), okc.mono (by decide), fun H11 rN aN s11 nr11 na11 row11 => ?_⟩
      have ip := plus_in iuk iuj okk.1 okj.1 okc
      have okp : (zk.R.plus zj.R cn).Okb 1400 := ⟨fun k => (okb_plus (okk.1 k) (okb_times (okj.1 k) okc)).mono (by decide), (okb_plus okk.2 (okb_times okj.2 okc)).mono (by decide)⟩
      have B11 := B10.same s11
      have hpn11 := s11 _ _ hpn10
      have b011 := b010.trans (Same.but s11)
      refine' mid (C := _) (Inv := fun σ H' => ∃ (rN aN : Addr) (RN : Rw), σ = [some (.ref st), some (.ref rl), some (.ref ul), some (.int way), some (.int (k : Int)), some (.ref D), some (.ref pn), some (.str (wNm zs.length)), some (.int (at_ : Int)), some (.ref ro), some (.int (j : Int)), some (.ref zk.r), some (.ref rN)] ∧ Po K st c rl ul U zs H' ∧ But st H H' ∧
        RowE K U.length H' rN aN RN ∧ RN.In U ∧ RN.Okb 1400 ∧ RN.s = zk.R.s ∧ (way = 0 → ∀ P, satR U RN P ↔ satR U zk.R P) ∧ (∀ P, satR U zk.R P → satR U zj.R P → satR U RN P) ∧ (way = 1 → ∀ P, satR U zj.R P → (satR U RN P ↔ satR U zk.R P))) (fun key => ?mA) ?rA
      case mA =>
        refine ⟨_, rfl, rfl, _, rfl, ite2 (fun e3 => ?_) (fun e3 => ?_)⟩
        · refine fun D0 nD0 => ?_
          have f1 := same_new (o := .dK []) nD0
          have c1 := upd_same (H := H11) (a := D0) (o := .dK [])
          generalize upd H11 D0 (.dK []) = G1 at f1 c1 ⊢
          refine ⟨small2, fun p0 np0 => ?_⟩
          have f2 := same_new (o := .tup [.int 0, .int 1]) np0
          have c2 := upd_same (H := G1) (a := p0) (o := .tup [.int 0, .int 1])
          generalize upd G1 p0 (.tup [.int 0, .int 1]) = G2 at f2 c2 ⊢
          refine ⟨(by show 3 ≤ sizeLine; decide), fun T0 nT0 => ?_⟩
          have f3 := same_new (o := .tup [.ref D0, .str (Str.ofString "is"), .ref p0]) nT0
          have c3 := upd_same (H := G2) (a := T0) (o := .tup [.ref D0, .str (Str.ofString "is"), .ref p0])
          generalize upd G2 T0 (.tup [.ref D0, .str (Str.ofString "is"), .ref p0]) = G3 at f3 c3 ⊢
          have E3 := (f1.trans f2).trans f3
          have B12 := B11.same E3
          have r00 : RowE K U.length G3 T0 D0 R00 := ⟨[], p0, c3, ⟨f3 _ _ (f2 _ _ c1), List.nodup_nil, Nat.zero_le _, fun p hp => (by cases hp), fun _ _ => rfl⟩, FrT.of (f3 _ _ c2), by decide⟩
          refine ⟨_, rfl, _, rfl, T0, D0, zk.r, zk.a, pn, R00, zk.R, cn, U.length, rfl, r00, (B12.z zk mk).2, FrT.of (E3 _ _ hpn11), by omega, R00_okb 1399, okk.mono (by decide), okc.mono (by decide), fun H13 rM aM s13 nr13 na13 row13 => ?_⟩
          have iz : R00.In U := fun k hk => absurd rfl hk
          have ip' := plus_in iz iuk (R00_okb 19).1 okk.1 okc
          have okp' : (R00.plus zk.R cn).Okb 1400 := ⟨fun k => (okb_plus ((R00_okb 19).1 k) (okb_times (okk.1 k) okc)).mono (by decide), (okb_plus (R00_okb 19).2 (okb_times okk.2 okc)).mono (by decide)⟩
          dsimp only [gName]
          refine key _ _ ?_
          refine ⟨rM, aM, R00.plus zk.R cn, rfl, B12.same s13, b011.trans (Same.but (E3.trans s13)), row13.tight ip', ip', okp', (of_decide_eq_true ik).symm, fun _ P => sat_tm okk.lo okc.lo cn0, fun P h _ => (sat_tm okk.lo okc.lo cn0).mpr h, fun h1 P _ => sat_tm okk.lo okc.lo cn0⟩
        · dsimp only
          refine key _ _ ?_
          refine ⟨rN, aN, zk.R.plus zj.R cn, rfl, B11, b011, row11.tight ip, ip, okp, rfl, fun h0 => absurd (by rw [h0]; rfl) e3, fun P h h' => (sat_plus okk.lo okj.lo okc.lo h').mpr h, fun _ P h => sat_plus okk.lo okj.lo okc.lo h⟩
      case rA =>
        clear nr11 na11 B11 hpn11 b011 row11 ip okp s11 B10 hpn10 b010
        clear rN aN
        rintro σ H12 ⟨rN, aN, RN, rfl, B12, b012, row, iN, okN, sN, sat0, sat3, sat1⟩
        refine' mid (C := _) (Inv := fun σ H' => ∃ (rN aN : Addr) (RN : Rw), σ = [some (.ref st), some (.ref rl), some (.ref ul), some (.int way), some (.int (k : Int)), some (.ref D), some (.ref pn), some (.str (wNm zs.length)), some (.int (at_ : Int)), some (.ref ro), some (.int (j : Int)), some (.ref zk.r), some (.ref rN)] ∧ Po K st c rl ul U zs H' ∧ But st H H' ∧
          RowE K U.length H' rN aN RN ∧ RN.In U ∧ RN.Okb 1400 ∧ RN.s = zk.R.s ∧ (way = 0 → ∀ P, satR U RN P ↔ satR U zk.R P) ∧ (∀ P, satR U zk.R P → satR U zj.R P → satR U RN P) ∧ (way = 1 → ∀ P, satR U zj.R P → (satR U RN P ↔ satR U zk.R P))) (fun key => ?mB) ?rB
        case mB =>
          refine ⟨_, rfl, rfl, _, rfl, ite2 (fun e3 => ?_) (fun e3 => ?_)⟩
          · refine ⟨_, rfl, ?_⟩
            dsimp only [gName]
            refine key _ _ ?_
            exact ⟨zk.r, zk.a, zk.R, rfl, B12, b012, (B12.z zk mk).2, iuk, okk.mono (by decide), rfl, fun _ P => Iff.rfl, fun P h _ => h, fun _ P _ => Iff.rfl⟩
          · dsimp only
            refine key _ _ ?_
            exact ⟨rN, aN, RN, rfl, B12, b012, row, iN, okN, sN, sat0, sat3, sat1⟩
        case rB =>
          clear B12 b012 row iN okN sN sat0 sat3 sat1
          clear rN aN RN
          rintro σ H13 ⟨rN, aN, RN, rfl, B13, b013, row13, iN, okN, sN, sat0, sat3, sat1⟩
          refine ⟨_, rfl, rN, aN, RN, U.length, rfl, row13, by omega, fun H14 wb s14 hwb => ?_⟩
          have B14 := B13.same s14
          have b014 := b013.trans (Same.but s14)
          have hrow := row13.kp (NoL.same s14)
          refine ⟨_, rfl, ite2 (fun e4 => iteT ?x1) (fun e4 => ?x2)⟩
          case x1 => exact ⟨_, rfl, q _ rl zs b014 B14 wz (fun P => Iff.rfl)⟩
          case x2 =>
            have sm : SmR RN := hwb (by cases wb with | true => rfl | false => exact absurd rfl e4)
            have okN20 : RN.Okb 20 := ⟨fun k => sm_okb (okN.1 k) (sm.1 k), sm_okb okN.2 sm.2⟩
            refine ⟨_, rfl, rfl, _, rfl, ite2 (fun e5 => ⟨_, rfl, _, rfl, rfl, _, rfl, ite2 (fun e6 => ?x3) (fun e6 => ?x4)⟩) (fun e5 => iteF ?x5)⟩
            case x3 => exact ⟨_, rfl, q _ rl zs b014 B14 wz (fun P => Iff.rfl)⟩
            case x4 | x5 =>
              have jk : way = 1 → j ≠ k := fun h1 h2 => by
                first
                | exact e5 (by rw [h1]; rfl)
                | exact e6 (by rw [h2]; exact decide_eq_true rfl)
              refine ⟨_, rfl, way, 2, rfl, rfl, _, rfl, ite2 (fun e7 => ?_) (fun e7 => ?_)⟩
              · have w2' : way < 2 := of_decide_eq_true e7
                refine ⟨_, rfl, _, rfl, (k : Int), rfl, rl, _, rfl, SqL.of B14.r, fun q1 nq1 => ?_⟩
                rw [cutA_to, ← List.map_take]
                have f1 := same_new (o := .lst ((zs.take k).map fun z => V.ref z.t)) nq1
                have c1 := upd_same (H := H14) (a := q1) (o := .lst ((zs.take k).map fun z => V.ref z.t))
                generalize upd H14 q1 (.lst ((zs.take k).map fun z => V.ref z.t)) = F1 at f1 c1 ⊢
                refine ⟨_, rfl, _, rfl, rl, _, _, _, rfl, rfl, SqL.of (f1 _ _ B14.r), at_rl k zk hzk _ rfl, zk.t, _, 0, _, rfl, rfl, SqT.of (f1 _ _ (B14.z zk mk).1), atI_nat (j := 0) rfl, _, rfl, small2, fun T nT => ?_⟩
                have f2 := same_new (o := .tup [.str (zk.x), .ref rN]) nT
                have c2 := upd_same (H := F1) (a := T) (o := .tup [.str (zk.x), .ref rN])
                generalize upd F1 T (.tup [.str (zk.x), .ref rN]) = F2 at f2 c2 ⊢
                refine ⟨(by show 1 ≤ sizeLine; decide), fun q2 nq2 => ?_⟩
                have f3 := same_new (o := .lst [V.ref T]) nq2
                have c3 := upd_same (H := F2) (a := q2) (o := .lst [V.ref T])
                generalize upd F2 q2 (.lst [V.ref T]) = F3 at f3 c3 ⊢
                have tl := List.length_take_le k zs
                refine ⟨q1, q2, _, _, rfl, rfl, f3 _ _ (f2 _ _ c1), c3, Nat.le_of_lt (small1000 (by rw [List.length_map]; show (zs.take k).length + 1 ≤ 1000; omega)), fun q3 nq3 => ?_⟩
                have f4 := same_new (o := .lst (((zs.take k).map fun z => V.ref z.t) ++ [V.ref T])) nq3
                have c4 := upd_same (H := F3) (a := q3) (o := .lst (((zs.take k).map fun z => V.ref z.t) ++ [V.ref T]))
                generalize upd F3 q3 (.lst (((zs.take k).map fun z => V.ref z.t) ++ [V.ref T])) = F4 at f4 c4 ⊢
                have E4 := (f1.trans f2).trans (f3.trans f4)
                refine ⟨_, rfl, _, rfl, (k : Int), 1, rfl, rfl, ((k : Int) + 1), rfl, rl, _, rfl, SqL.of (E4 _ _ B14.r), fun q4 nq4 => ?_⟩
                rw [show (k : Int) + 1 = ((k + 1 : Nat) : Int) from rfl, cutA_from, ← List.map_drop]
                have f5 := same_new (o := .lst ((zs.drop (k + 1)).map fun z => V.ref z.t)) nq4
                have c5 := upd_same (H := F4) (a := q4) (o := .lst ((zs.drop (k + 1)).map fun z => V.ref z.t))
                generalize upd F4 q4 (.lst ((zs.drop (k + 1)).map fun z => V.ref z.t)) = F5 at f5 c5 ⊢
                refine ⟨q3, q4, _, _, rfl, rfl, f5 _ _ c4, c5, Nat.le_of_lt (small1000 (by rw [List.length_append, List.length_map, List.length_map, List.length_drop]; show (zs.take k).length + 1 + (zs.length - (k + 1)) ≤ 1000; omega)), fun rl' nrl => ?_⟩
                have f6 := same_new (o := .lst (((zs.take k).map fun z => V.ref z.t) ++ [V.ref T] ++ ((zs.drop (k + 1)).map fun z => V.ref z.t))) nrl
                have E6 := E4.trans (f5.trans f6)
                have Bn := B14.same E6
                have nrS := (B14.same (E4.trans f5)).s.fresh nrl
                have hT := f6 _ _ (f5 _ _ (f4 _ _ (f3 _ _ c2)))
                have hp := rep_perm zs (⟨T, zk.x, RN, rN, aN⟩ : Ent) k
                have ha := at_perm hzk
                have ie : isR (⟨T, zk.x, RN, rN, aN⟩ : Ent) = true := decide_eq_true (sN.trans (of_decide_eq_true ik))
                have eU : upd F5 rl' (.lst (((zs.take k).map fun z => V.ref z.t) ++ [V.ref T] ++ ((zs.drop (k + 1)).map fun z => V.ref z.t))) rl' = some (.lst ((zs.take k ++ [(⟨T, zk.x, RN, rN, aN⟩ : Ent)] ++ zs.drop (k + 1)).map fun z => V.ref z.t)) := by
                  rw [upd_same, List.map_append, List.map_append]
                  rfl
                have hz' : ∀ z ∈ zs.take k ++ [(⟨T, zk.x, RN, rN, aN⟩ : Ent)] ++ zs.drop (k + 1), EntOk K U.length (upd F5 rl' (.lst (((zs.take k).map fun z => V.ref z.t) ++ [V.ref T] ++ ((zs.drop (k + 1)).map fun z => V.ref z.t)))) z := fun z hz => by
                  rcases List.mem_cons.mp (hp.mem_iff.mp hz) with rfl | hz
                  · exact ⟨hT, hrow.kp (NoL.same E6)⟩
                  · exact Bn.z z (ha.mem_iff.mpr (List.mem_cons_of_mem _ hz))
                have hW : Wz U (zs.take k ++ [(⟨T, zk.x, RN, rN, aN⟩ : Ent)] ++ zs.drop (k + 1)) := (Wz.same (z := zk) (e := (⟨T, zk.x, RN, rN, aN⟩ : Ent)) (wz.perm ha.symm) rfl ⟨iN, okN20, fun _ => sm⟩).perm hp
                have hs : ∀ P, satZ U (zs.take k ++ [(⟨T, zk.x, RN, rN, aN⟩ : Ent)] ++ zs.drop (k + 1)) P ↔ satZ U zs P := fun P => by
                  refine (satZ_perm hp P).trans (Iff.trans ?_ (satZ_perm ha P).symm)
                  refine satZ_same (z := zk) (e := (⟨T, zk.x, RN, rN, aN⟩ : Ent)) ik ie fun hrest => ?_
                  have cs : way = 0 ∨ way = 1 := by omega
                  rcases cs with h0 | h1
                  · exact sat0 h0 P
                  · exact sat1 h1 P (hrest zj (rest_mem hzj (jk h1)) ij)
                exact q _ rl' _ (b014.trans (Same.but E6)) ⟨Bn.s, eU, Bn.u, hz', nrS, Bn.nu⟩ hW hs
              · skip
                refine ⟨_, rfl, _, rfl, (at_ : Int), rfl, rl, _, rfl, SqL.of B14.r, fun q1 nq1 => ?_⟩
                rw [cutA_to, ← List.map_take]
                have f1 := same_new (o := .lst ((zs.take at_).map fun z => V.ref z.t)) nq1
                have c1 := upd_same (H := H14) (a := q1) (o := .lst ((zs.take at_).map fun z => V.ref z.t))
                generalize upd H14 q1 (.lst ((zs.take at_).map fun z => V.ref z.t)) = F1 at f1 c1 ⊢
                refine ⟨_, rfl, _, rfl, small2, fun T nT => ?_⟩
                have f2 := same_new (o := .tup [.str (wNm zs.length), .ref rN]) nT
                have c2 := upd_same (H := F1) (a := T) (o := .tup [.str (wNm zs.length), .ref rN])
                generalize upd F1 T (.tup [.str (wNm zs.length), .ref rN]) = F2 at f2 c2 ⊢
                refine ⟨(by show 1 ≤ sizeLine; decide), fun q2 nq2 => ?_⟩
                have f3 := same_new (o := .lst [V.ref T]) nq2
                have c3 := upd_same (H := F2) (a := q2) (o := .lst [V.ref T])
                generalize upd F2 q2 (.lst [V.ref T]) = F3 at f3 c3 ⊢
                have tl := List.length_take_le at_ zs
                refine ⟨q1, q2, _, _, rfl, rfl, f3 _ _ (f2 _ _ c1), c3, Nat.le_of_lt (small1000 (by rw [List.length_map]; show (zs.take at_).length + 1 ≤ 1000; omega)), fun q3 nq3 => ?_⟩
                have f4 := same_new (o := .lst (((zs.take at_).map fun z => V.ref z.t) ++ [V.ref T])) nq3
                have c4 := upd_same (H := F3) (a := q3) (o := .lst (((zs.take at_).map fun z => V.ref z.t) ++ [V.ref T]))
                generalize upd F3 q3 (.lst (((zs.take at_).map fun z => V.ref z.t) ++ [V.ref T])) = F4 at f4 c4 ⊢
                have E4 := (f1.trans f2).trans (f3.trans f4)
                refine ⟨_, rfl, _, rfl, (at_ : Int), rfl, rl, _, rfl, SqL.of (E4 _ _ B14.r), fun q4 nq4 => ?_⟩
                rw [cutA_from, ← List.map_drop]
                have f5 := same_new (o := .lst ((zs.drop (at_)).map fun z => V.ref z.t)) nq4
                have c5 := upd_same (H := F4) (a := q4) (o := .lst ((zs.drop (at_)).map fun z => V.ref z.t))
                generalize upd F4 q4 (.lst ((zs.drop (at_)).map fun z => V.ref z.t)) = F5 at f5 c5 ⊢
                refine ⟨q3, q4, _, _, rfl, rfl, f5 _ _ c4, c5, Nat.le_of_lt (small1000 (by rw [List.length_append, List.length_map, List.length_map, List.length_drop]; show (zs.take at_).length + 1 + (zs.length - (at_)) ≤ 1000; omega)), fun rl' nrl => ?_⟩
                have f6 := same_new (o := .lst (((zs.take at_).map fun z => V.ref z.t) ++ [V.ref T] ++ ((zs.drop (at_)).map fun z => V.ref z.t))) nrl
                have E6 := E4.trans (f5.trans f6)
                have Bn := B14.same E6
                have nrS := (B14.same (E4.trans f5)).s.fresh nrl
                have hT := f6 _ _ (f5 _ _ (f4 _ _ (f3 _ _ c2)))
                have hp := ins_perm zs (⟨T, wNm zs.length, RN, rN, aN⟩ : Ent) at_
                have eU : (upd F5 rl' (.lst (((zs.take at_).map fun z => V.ref z.t) ++ [V.ref T] ++ ((zs.drop at_).map fun z => V.ref z.t)))) rl' = some (.lst ((zs.take at_ ++ [(⟨T, wNm zs.length, RN, rN, aN⟩ : Ent)] ++ zs.drop at_).map fun z => V.ref z.t)) := by
                  rw [upd_same, List.map_append, List.map_append]
                  rfl
                have hz' : ∀ z ∈ (zs.take at_ ++ [(⟨T, wNm zs.length, RN, rN, aN⟩ : Ent)] ++ zs.drop at_), EntOk K U.length (upd F5 rl' (.lst (((zs.take at_).map fun z => V.ref z.t) ++ [V.ref T] ++ ((zs.drop at_).map fun z => V.ref z.t)))) z := fun z hz => by
                  rcases List.mem_cons.mp (hp.mem_iff.mp hz) with rfl | hz
                  · exact ⟨hT, (hrow).kp (NoL.same E6)⟩
                  · exact Bn.z z hz
                have hW : Wz U (zs.take at_ ++ [(⟨T, wNm zs.length, RN, rN, aN⟩ : Ent)] ++ zs.drop at_) := (Wz.cons (e := (⟨T, wNm zs.length, RN, rN, aN⟩ : Ent)) wz zl rfl ⟨iN, okN20, fun _ => sm⟩).perm hp
                have hs : ∀ P, satZ U (zs.take at_ ++ [(⟨T, wNm zs.length, RN, rN, aN⟩ : Ent)] ++ zs.drop at_) P ↔ satZ U zs P := fun P => by
                  refine (satZ_perm hp P).trans ?_
                  refine satZ_cons (e := (⟨T, wNm zs.length, RN, rN, aN⟩ : Ent)) fun y h => ?_
                  exact sat3 P (h zk mk ik) (h zj mj ij)
                exact q _ rl' _ (b014.trans (Same.but E6)) ⟨Bn.s, eU, Bn.u, hz', nrS, Bn.nu⟩ hW hs
end
end SS
namespace SS
open PySem PySem.Spec PyProof.Rows L2 NumText LamX KyS
section
variable {P : Program} {w : World} {K : PySem.W.Frag} {mg : Str → Option Value} {base : Heap}
/-! ### k18's law -/
theorem StA.extN {st c : Addr} {H H' : Hp} (s : StA st c H) (x : ExtN H H') : StA st c H' := by
  obtain ⟨i, n, f, xs, h1, h2, h3, h4⟩ := s
  exact ⟨i, n, f, xs, x _ _ h1 fun ps => by simp, x _ _ h2 fun ps => by simp, h3, h4⟩
theorem Po.extN {st c rl ul : Addr} {U : List Str} {zs : List Ent} {H1 H2 : Hp} (h : Po K st c rl ul U zs H1) (x : ExtN H1 H2) : Po K st c rl ul U zs H2 :=
  ⟨h.s.extN x, x _ _ h.r fun ps => by simp, x _ _ h.u fun ps => by simp, fun z hz => (h.z z hz).extN x, h.nr, h.nu⟩
/-- the lines of the rows, with the rows -/
structure Lz (K : PySem.W.Frag) (T : List (Addr × Str)) (st c ul dl : Addr) (U : List Str) (fs : List LnE) (H' : Hp) : Prop where
  t : LamX.Tabs T H'
  d : H' dl = some (.lst (fs.map fun e => V.ref e.t))
  l : ∀ f ∈ fs, LnOk K U.length H' f
  nd : dl ≠ st
structure Lm (U : List Str) (zs : List Ent) (fs : List LnE) : Prop where
  lin : Lines U (fs.map (·.l))
  ris : ((fs.map (·.l)).map (·.u)).Pairwise leS
  sat : ∀ P, Sol.sats (kU U) ((fs.map (·.l)).map Lw.q) P ↔ satZ U zs P
theorem Lz.extN {T : List (Addr × Str)} {st c ul dl : Addr} {U : List Str} {fs : List LnE} {H1 H2 : Hp} (h : Lz K T st c ul dl U fs H1) (x : ExtN H1 H2) (t : LamX.Tabs T H2) : Lz K T st c ul dl U fs H2 :=
  ⟨t, x _ _ h.d fun ps => by simp, fun f hf => (h.l f hf).extN x, h.nd⟩
theorem Lz.same {T : List (Addr × Str)} {st c ul dl : Addr} {U : List Str} {fs : List LnE} {H1 H2 : Hp} (h : Lz K T st c ul dl U fs H1) (s : Same H1 H2) : Lz K T st c ul dl U fs H2 := h.extN (ExtN.same s) (h.t.ext s)
theorem Lz.but {T : List (Addr × Str)} {st c ul dl : Addr} {U : List Str} {fs : List LnE} {H1 H2 : Hp} (h : Lz K T st c ul dl U fs H1) (b : But st H1 H2) (sa : StA st c H1) : Lz K T st c ul dl U fs H2 := by
  have k := b.nol sa
  have kd : ∀ a l, H1 a = some (.dK l) → H2 a = some (.dK l) := fun a l q => k _ _ (fun ys => by simp) q
  have kt : KpT H1 H2 := fun b o c q => k b o (fun ys z => by
    obtain ⟨ys', c | ⟨u, c⟩⟩ := c
    · rw [c] at z; cases z
    · rw [c] at z; cases z) q
  exact ⟨tabs_nol h.t k, b _ _ h.nd h.d, fun f hf => (h.l f hf).kpT kt fun l q => kd _ _ q, h.nd⟩
def spLaw18 (K : PySem.W.Frag) (T : List (Addr × Str)) : Sp := fun vs H Q _ => ∃ (a : Addr) (ns : List Int), vs = [.ref a] ∧ SqL K H a (ns.map V.int) ∧ LamX.Tabs T H ∧ ∀ H', Q (.bl true) H'
theorem scLaw : FnScope ["_law_script", "_law_state", "_law_unknowns", "_law_rows", "_law_due", "_law_leads", "_law_turn", "_law_told", "_law_lead", "_law_pair", "_law_line"] ["_law_script"] (defScope sLaw) := ⟨rfl, rfl, rfl, by decide +kernel, rfl, by decide +kernel, by decide +kernel⟩
set_option maxHeartbeats 8000000 in
theorem ok_law {f' : Addr} {fd : FuncData} {T : List (Addr × Str)} (F : Fun K "law" "law" sLaw f' fd) (mr : mg "range" = none) (ml : mg "len" = none) (man : mg "any" = none)
    (fs : Cl P w K mg base CX0 1 "_law_fresh" (spFresh K) []) (eq : Cl P w K mg base CX0 7 "_law_equals" (spEquals K) []) (ls : Cl P w K mg base CX0 6 "_law_lines" (spLinesL K) [])
    (cp : Cl P w K mg base CX0 1 "_law_copied" (spCopied K) []) (so : Cl P w K mg base CX0 8 "solved_of" (spSolved K T) []) (il : Cl P w K mg base CX0 5 "_law_is_lines" (spIsLines K) []) (po : Cl P w K mg base CX0 6 "_law_put_otherwise" (spPutOther K) []) : FnOk P w K mg base CX0 9 f' fd ["_law_script"] (spLaw18 K T) := by
  refine F.ok scLaw (fun vs H Q E h => ?_) (fun cdv A outer s0 H vs Q E hr h => ?_)
  · obtain ⟨_, _, rfl, _⟩ := h
    rfl
  · obtain ⟨a, ns, rfl, hS, htb, q⟩ := h
    have hu := hu_of hr
    refine ⟨_, pss_cons (ps_set (i := 1) scLaw.nd rfl (.inl rfl) (pc0 fs hr (by decide) (pa_cons (pv 0) pa_nil)))
      (pss_cons (ps_asg (pc0 eq hr (by decide) (pa_cons (pv 1) (pa_cons pe_int pa_nil))) (pg_tup rfl (pgs_cons (pg_name (i := 2) scLaw.nd rfl (.inl rfl)) (pgs_cons (pg_name (i := 3) scLaw.nd rfl (.inl rfl)) pgs_nil))))
      (pss_cons (ps_setLc (i := 3) (own := [("_law_pair", 9)]) (g := gName 9) rfl scLaw.nd rfl rfl (sw_true rfl rfl rfl (by rfl)) (pi_list (pv 3)) (blkOk_by (by rfl))
        (fun _ _ _ _ _ => pg_name (i := 9) scLaw.nd rfl (.inl rfl)) (fun _ _ _ _ _ => pts_one (pt_cmpR op_ne (pe_slice sl_str (pe_ix (ix_tupK (K := K) rfl) (pv 9) pe_int (fun _ _ => rfl)) po_none (po_some pe_int)) pe_str (nomark _)))
        (fun _ _ _ _ _ => pv 9))
      (pss_cons (ps_set (i := 4) scLaw.nd rfl (.inl rfl) (pc0 ls hr (by decide) (pa_cons (pv 3) pa_nil)))
      (pss_cons (ps_if (pt_cmp (pc_isN (pv 4)))
        (pss_cons (ps_setLc (i := 3) (own := [("_law_pair", 9)]) (g := gName 9) rfl scLaw.nd rfl rfl (sw_true rfl rfl rfl (by rfl)) (pi_list (pv 3)) (blkOk_by (by rfl))
          (fun _ _ _ _ _ => pg_name (i := 9) scLaw.nd rfl (.inl rfl)) (fun _ _ _ _ _ => pts_one (pt_cmpR op_ne (pe_ix (ix_tupK (K := K) rfl) (pe_ix (ix_tupK (K := K) rfl) (pv 9) pe_int (fun _ _ => rfl)) pe_int (fun _ _ => rfl)) pe_str (nomark _)))
          (fun _ _ _ _ _ => pv 9))
        (pss_one (ps_set (i := 4) scLaw.nd rfl (.inl rfl) (pe_lst pa_nil)))) pss_nil)
      (pss_cons (ps_setLc (i := 5) (own := [("_law_line", 10)]) (g := gName 10) (tt := tYes) rfl scLaw.nd rfl rfl (sw_true rfl rfl rfl (by rfl)) (pi_list (pv 4)) (blkOk_by (by rfl))
        (fun _ _ _ _ _ => pg_name (i := 10) scLaw.nd rfl (.inl rfl)) (fun _ _ _ _ _ => pts_nil) (fun _ _ _ _ _ => pe_ix (ix_tupK (K := K) rfl) (pv 10) pe_int (fun _ _ => rfl)))
      (pss_cons (ps_for PassesOwn.never rfl (pi_range1 rfl mr (pa_cons pe_int pa_nil)) (pg_name (i := 6) scLaw.nd rfl (.inl rfl))
        (pss_cons (ps_set (i := 7) scLaw.nd rfl (.inl rfl) (pc0 so hr (by decide) (pa_cons (pc0 cp hr (by decide) (pa_cons (pv 3) pa_nil)) pa_nil)))
        (pss_cons (ps_if (pt_not (pt_val (pc0 il hr (by decide) (pa_cons (pv 7) (pa_cons (pv 4) pa_nil))))) (pss_one (ps_ret pe_bl)) pss_nil)
        (pss_cons (ps_for PassesOwn.never rfl (pi_list (pv 5)) (pg_name (i := 8) scLaw.nd rfl (.inr rfl))
          (pss_one (ps_if (pt_val (pe_callB (cr_any rfl) (by rfl) man (by decide +kernel) (pa_cons (pe_lc (own := [("_law_line", 10)]) (g := gName 10) (tt := tYes) rfl scLaw.nd (pi_list (pe_ix ix_tup (pv 7) pe_int (fun _ _ => rfl))) (blkOk_by (by rfl))
            (fun _ _ _ _ _ => pg_name (i := 10) scLaw.nd rfl (.inl rfl)) (fun _ _ _ _ _ => pts_nil) (fun _ _ _ _ _ => pe_cmp (pc_din hu (pv 8) (pe_ix (ix_tupK (K := K) rfl) (pv 10) pe_int (fun _ _ => rfl))))) pa_nil))) (pss_one (ps_ret pe_bl)) pss_nil)))
        (pss_one (ps_if (pt_cmpR op_lt (pe_callB call_len_seq (by rfl) ml PySem.boot_len (pa_cons (pv 3) pa_nil)) pe_int (nomark _)) (pss_one (ps_set (i := 3) scLaw.nd rfl (.inl rfl) (pc0 po hr (by decide) (pa_cons (pv 1) (pa_cons (pv 3) (pa_cons (pv 2) pa_nil)))))) pss_nil))))))
      (pss_one (ps_ret pe_bl)))))))), ?_⟩
    refine ⟨_, rfl, a, ns, rfl, hS, fun H1 st c e1 nst nc y1 => ?_⟩
    refine ⟨_, rfl, st, c, 6, rfl, by decide, by decide, y1, fun H2 t ul rl0 U zs0 b2 y2 ht hul hrl ne nrl ul4 ndU nmU nd nm zl hz => ?_⟩
    refine ⟨t, _, rfl, SqT.of ht, rfl, _, _, rfl, _, _, rfl, rfl, ?_⟩
    have T2 := tabs_nol (htb.ext e1) (b2.nol y1)
    have rlS := y1.fresh nrl
    have ulS : ul ≠ st := fun z => by
      obtain ⟨i, n, f, xs, g1, _⟩ := y2
      rw [z, g1] at hul
      have := HO.lst.inj (Option.some.inj hul)
      cases U with
      | nil => cases this
      | cons u U =>
        rw [List.map_cons] at this
        injection this with h1 _
        cases h1
    -- the rows whose names don't begin so
    refine ⟨_, rfl, rl0, rfl, ⟨_, SqL.of hrl⟩, fun D nD => ?_⟩
    have DS := y2.fresh nD
    refine lc_list (K := K) (a := rl0) (xs := zs0.map fun z => V.ref z.t) (fun j H' => ∃ zs : List Ent, H' D = some (.lst (zs.map fun z => V.ref z.t)) ∧ zs.Sublist (zs0.take j) ∧ (∀ z ∈ zs, NoW z.x) ∧ ∀ b o, b ≠ D → H2 b = some o → H' b = some o)
      ⟨[], upd_same, List.nil_sublist _, fun z h => (by cases h), fun b o n e => by rw [upd_ne n]; exact e⟩ (fun j H' _ ⟨_, _, _, _, w2⟩ => SqL.of (w2 _ _ (ne_of_none hrl nD) hrl)) ?_ ?_
    · rintro j v H' hv ⟨zs, w1, wsub, wn, w2⟩
      rw [List.getElem?_map] at hv
      obtain ⟨z, hzj, rfl⟩ := Option.map_eq_some_iff.mp hv
      have mz := List.mem_of_getElem? hzj
      have h1 := (hz z mz).1.1
      have jl : j < zs0.length := (List.getElem?_eq_some_iff.mp hzj).1
      have tk : zs0.take (j + 1) = zs0.take j ++ [z] := by
        rw [List.take_add_one, hzj]
        rfl
      have zsl := wsub.length_le
      rw [List.length_take] at zsl
      refine ⟨rfl, _, rfl, z.t, _, 0, _, rfl, rfl, SqT.of (w2 _ _ (ne_of_none h1 nD) h1), atI_nat (j := 0) rfl, 1, rfl, z.x, rfl, (nm z mz).len, rfl, _, rfl, ite2 (fun e => ⟨_, rfl, _, w1, ?_, zs ++ [z], ?_, ?_, ?_, fun b o n e => by rw [upd_ne n]; exact w2 b o n e⟩) (fun e => ⟨zs, w1, ?_, wn, w2⟩)⟩
      · rw [List.length_map]
        exact small1000 (by omega)
      · rw [upd_same, List.map_append]
        rfl
      · rw [tk]
        exact wsub.append (List.Sublist.refl _)
      · intro g hg
        rcases List.mem_append.mp hg with hg | hg
        · exact wn g hg
        · rw [List.mem_singleton.mp hg]
          intro y
          rw [y, decide_eq_true rfl] at e
          cases e
      · rw [tk]
        exact wsub.trans (List.sublist_append_left _ _)
    rintro H3 ⟨zs1, hD3, sub, nw, w2⟩
    rw [List.length_map, List.take_length] at sub
    have S3 : Same H2 H3 := fun b o e => w2 _ _ (ne_of_none e nD) e
    have mem1 : ∀ z ∈ zs1, z ∈ zs0 := fun z h => sub.subset h
    have wz1 : Wz U zs1 := ⟨nd.sublist (sub.map _), fun z h => nm z (mem1 z h), by have := sub.length_le; omega, fun z h => ⟨(hz z (mem1 z h)).2.1, (hz z (mem1 z h)).2.2.1, fun _ => (hz z (mem1 z h)).2.2.2.2⟩, fun z h => .inl (nw z h)⟩
    have l6 : zs1.length ≤ 6 := by have := sub.length_le; omega
    have B3 : Po K st c D ul U zs1 H3 := ⟨y2.same S3, hD3, S3 _ _ hul, fun z h => (hz z (mem1 z h)).1.same S3, DS, ulS⟩
    have T3 := T2.ext S3
    clear hz nd nm sub mem1 w2 S3 T2 hD3 hrl hul ht zl y2 nrl b2 e1 nst nc y1 hS htb nD
    -- the due lines
    refine ⟨_, rfl, D, zs1, U, rfl, SqL.of B3.r, B3.z, wz1.nd, by omega, ul4, ndU, fun z h hi => wz1.rb ul4 h hi, ?_⟩
    have fin : ∀ (H4 : Hp) (rl dl : Addr) (zs : List Ent) (fs : List LnE), Po K st c rl ul U zs H4 → Wz U zs → zs.length ≤ 6 → Lz K T st c ul dl U fs H4 → Lm U zs fs → True := fun _ _ _ _ _ _ _ _ _ _ => trivial
    refine' mid (C := _) (Inv := fun σ H' => ∃ (rl dl : Addr) (zs : List Ent) (fs : List LnE), σ = [some (.ref a), some (.ref st), some (.ref ul), some (.ref rl), some (.ref dl), none, none, none, none, none, none] ∧ Po K st c rl ul U zs H' ∧ Wz U zs ∧ zs.length ≤ 6 ∧ Lz K T st c ul dl U fs H' ∧ Lm U zs fs) (fun key => ?mA) ?rA
    case mA =>
      constructor
      · intro _ H4 s4
        have B4 := B3.same s4
        have T4 := T3.ext s4
        refine ⟨_, rfl, _, rfl, iteT ?_⟩
        refine ⟨_, rfl, D, rfl, ⟨_, SqL.of B4.r⟩, fun D2 nD2 => ?_⟩
        have DS2 := B4.s.fresh nD2
        refine lc_list (K := K) (a := D) (xs := zs1.map fun z => V.ref z.t) (fun j H' => ∃ zs : List Ent, H' D2 = some (.lst (zs.map fun z => V.ref z.t)) ∧ zs.Sublist (zs1.take j) ∧ (∀ z ∈ zs, isR z = false) ∧ ∀ b o, b ≠ D2 → H4 b = some o → H' b = some o)
          ⟨[], upd_same, List.nil_sublist _, fun z h => (by cases h), fun b o n e => by rw [upd_ne n]; exact e⟩ (fun j H' _ ⟨_, _, _, _, w2⟩ => SqL.of (w2 _ _ (ne_of_none B4.r nD2) B4.r)) ?_ ?_
        · rintro j v H' hv ⟨zs, w1, wsub, wn, w2⟩
          rw [List.getElem?_map] at hv
          obtain ⟨z, hzj, rfl⟩ := Option.map_eq_some_iff.mp hv
          have mz := List.mem_of_getElem? hzj
          obtain ⟨h1, kvs, n, h2, h3, h4, h5⟩ := B4.z z mz
          have jl : j < zs1.length := (List.getElem?_eq_some_iff.mp hzj).1
          have tk : zs1.take (j + 1) = zs1.take j ++ [z] := by
            rw [List.take_add_one, hzj]
            rfl
          have zsl := wsub.length_le
          rw [List.length_take] at zsl
          refine ⟨rfl, _, rfl, z.t, _, 1, _, rfl, rfl, SqT.of (w2 _ _ (ne_of_none h1 nD2) h1), atI_nat (j := 1) rfl, z.r, _, 1, _, rfl, rfl, SqT.of (w2 _ _ (ne_of_none h2 nD2) h2), atI_nat (j := 1) rfl, rfl, _, rfl, ite2 (fun e => ⟨_, rfl, _, w1, ?_, zs ++ [z], ?_, ?_, ?_, fun b o n e => by rw [upd_ne n]; exact w2 b o n e⟩) (fun e => ⟨zs, w1, ?_, wn, w2⟩)⟩
          · rw [List.length_map]
            exact small1000 (by omega)
          · rw [upd_same, List.map_append]
            rfl
          · rw [tk]
            exact wsub.append (List.Sublist.refl _)
          · intro g hg
            rcases List.mem_append.mp hg with hg | hg
            · exact wn g hg
            · rw [List.mem_singleton.mp hg]
              refine decide_eq_false fun y => ?_
              rw [show V.str z.R.s = V.str (Str.ofString "is") from congrArg V.str y, decide_eq_true rfl] at e
              cases e
          · rw [tk]
            exact wsub.trans (List.sublist_append_left _ _)
        rintro H5 ⟨zs2, hD5, sub, nis, w2⟩
        rw [List.length_map, List.take_length] at sub
        have S5 : Same H4 H5 := fun b o e => w2 _ _ (ne_of_none e nD2) e
        have mem2 : ∀ z ∈ zs2, z ∈ zs1 := fun z h => sub.subset h
        refine ⟨by show 0 ≤ sizeLine; exact Nat.zero_le _, fun L nL => ?_⟩
        have s6 := same_new (o := .lst []) nL
        have S6 := S5.trans s6
        dsimp only [gName]
        refine key _ _ ?_
        refine ⟨D2, L, zs2, [], rfl, ⟨B4.s.same S6, s6 _ _ hD5, S6 _ _ B4.u, fun z h => (B4.z z (mem2 z h)).same S6, DS2, ulS⟩, ?_, ?_, ⟨T4.ext S6, upd_same, fun f hf => (by cases hf), (B4.s.same S5).fresh nL⟩, ⟨Lines.nil U, List.Pairwise.nil, fun P => ⟨fun _ z hz hi => ?_, fun _ l hl => (by cases hl)⟩⟩⟩
        · exact ⟨wz1.nd.sublist (sub.map _), fun z h => wz1.nm z (mem2 z h), by have := sub.length_le; omega, fun z h => wz1.sm z (mem2 z h), fun z h => .inl (nw z (mem2 z h))⟩
        · have := sub.length_le
          omega
        · rw [nis z hz] at hi
          cases hi
      · intro H4 dl es s4 ndl hdl hes lin ris sat
        refine ⟨_, rfl, _, rfl, iteF ?_⟩
        dsimp only
        refine key _ _ ?_
        exact ⟨D, dl, zs1, es, rfl, B3.same s4, wz1, l6, ⟨T3.ext s4, hdl, hes, B3.s.fresh ndl⟩, lin, ris, sat⟩
    case rA =>
      clear B3 T3 wz1 l6 fin nw
      clear zs1
      rintro σ H4 ⟨rl, dl, zs, fs, rfl, B4, wz, l6, Z4, M4⟩
      have fl : fs.length ≤ 4 := by
        have z := sub_len M4.lin.nd (U := U) fun x hx => by
          obtain ⟨l, hl', rfl⟩ := List.mem_map.mp hx
          exact M4.lin.mem hl'
        rw [List.length_map, List.length_map] at z
        omega
      refine ⟨_, rfl, dl, rfl, ⟨_, SqL.of Z4.d⟩, fun D nD => ?_⟩
      have DS := B4.s.fresh nD
      refine lc_list (K := K) (a := dl) (xs := fs.map fun e => V.ref e.t) (fun j H' => H' D = some (.lst ((fs.take j).map fun e => V.str e.l.u)) ∧ ∀ b o, b ≠ D → H4 b = some o → H' b = some o)
        ⟨upd_same, fun b o n e => by rw [upd_ne n]; exact e⟩ (fun j H' _ ⟨_, w2⟩ => SqL.of (w2 _ _ (ne_of_none Z4.d nD) Z4.d)) ?_ ?_
      · rintro j v H' hv ⟨w1, w2⟩
        rw [List.getElem?_map] at hv
        obtain ⟨e, hej, rfl⟩ := Option.map_eq_some_iff.mp hv
        have h1 := (Z4.l e (List.mem_of_getElem? hej)).1
        refine ⟨rfl, _, rfl, e.t, _, 0, _, rfl, rfl, SqT.of (w2 _ _ (ne_of_none h1 nD) h1), atI_nat (j := 0) rfl, _, w1, ?_, ?_, fun b o n e => by rw [upd_ne n]; exact w2 b o n e⟩
        · rw [List.length_map, List.length_take]
          exact small1000 (by omega)
        · rw [upd_same, List.take_add_one, hej, List.map_append]
          rfl
      rintro H5 ⟨hD5, w2⟩
      rw [List.length_map, List.take_length] at hD5
      have S5 : Same H4 H5 := fun b o e => w2 _ _ (ne_of_none e nD) e
      have B5 := B4.same S5
      have Z5 := Z4.same S5
      clear w2 S5 B4 Z4 nD
      refine ⟨5, rfl, by decide, by decide, for_range (n := 5) (fun i σ H' => ∃ (y6 y7 y8 : Option V) (rl : Addr) (zs : List Ent), σ = [some (.ref a), some (.ref st), some (.ref ul), some (.ref rl), some (.ref dl), some (.ref D), y6, y7, y8, none, none] ∧ Po K st c rl ul U zs H' ∧ Wz U zs ∧ Lz K T st c ul dl U fs H' ∧ Lm U zs fs ∧ H' D = some (.lst (fs.map fun e => V.str e.l.u)))
        ⟨none, none, none, rl, zs, rfl, B5, wz, Z5, M4, hD5⟩ ?_ ?_⟩
      · clear B5 Z5 hD5 M4 wz l6
        clear rl zs
        rintro i σ H6 hi ⟨y6, y7, y8, rl, zs, rfl, B6, wz, Z6, M6, hD6⟩
        have zl := wz.ln
        refine ⟨_, rfl, rl, zs, U.length, rfl, SqL.of B6.r, B6.z, by omega, fun H7 l5 es5 s7 N7 e7 => ?_⟩
        have mem5 : ∀ e ∈ es5, ∃ z ∈ zs, z.x = e.x ∧ z.R = e.R := fun e he => by
          have : nr e ∈ zs.map nr := by rw [← e7]; exact List.mem_map.mpr ⟨e, he, rfl⟩
          obtain ⟨z, hz, ez⟩ := List.mem_map.mp this
          exact ⟨z, hz, congrArg Prod.fst ez, congrArg Prod.snd ez⟩
        have mem6 : ∀ z ∈ zs, ∃ e ∈ es5, z.x = e.x ∧ z.R = e.R := fun z hz => by
          have : nr z ∈ es5.map nr := by rw [e7]; exact List.mem_map.mpr ⟨z, hz, rfl⟩
          obtain ⟨e, he, ez⟩ := List.mem_map.mp this
          exact ⟨e, he, (congrArg Prod.fst ez).symm, (congrArg Prod.snd ez).symm⟩
        have sat5 : ∀ P, satZ U es5 P ↔ satZ U zs P := fun P => ⟨fun h z hz hi => by
          obtain ⟨e, he, ex, eR⟩ := mem6 z hz
          unfold isR at hi
          rw [eR] at hi ⊢
          exact h e he hi, fun h e he hi => by
          obtain ⟨z, hz, ex, eR⟩ := mem5 e he
          unfold isR at hi
          rw [← eR] at hi ⊢
          exact h z hz hi⟩
        have nd5 : (es5.map (·.x)).Nodup := by
          have z : (es5.map nr).map Prod.fst = (zs.map nr).map Prod.fst := by rw [e7]
          rw [List.map_map, List.map_map] at z
          have z' : es5.map (·.x) = zs.map (·.x) := z
          rw [z']
          exact wz.nd
        have l5' : es5.length = zs.length := by
          have := congrArg List.length e7
          rwa [List.length_map, List.length_map] at this
        have rb5 : ∀ z ∈ es5, isR z = true → z.R.In U ∧ RB 44 z.R := fun e he hi => by
          obtain ⟨z, hz, ex, eR⟩ := mem5 e he
          unfold isR at hi
          rw [← eR] at hi ⊢
          exact wz.rb ul4 hz hi
        have T7 := Z6.t.ext s7
        have pnt : ∃ P, satZ U es5 P := ⟨_, (sat5 _).mpr ((M6.sat _).mp (Sol.pt_sat M6.lin.red fun _ => 0))⟩
        refine ⟨l5, es5, U, 44, rfl, .inl (SqL.of N7.lst), fun e he => (N7.e e he).1, nd5, by omega, by omega, ndU, T7, rb5, Nat.lt_of_le_of_lt (bd44 ul4) (by decide), pnt, fun H8 t l es x8 T8 ht hl hes lin ris sat => ?_⟩
        have B8 := (B6.same s7).extN x8
        have Z8 := (Z6.same s7).extN x8 T8
        have hD8 := x8 _ _ (s7 _ _ hD6) fun ps => by simp
        have eqm : es.map (·.l) = fs.map (·.l) := lines_same ndU lin M6.lin (fun P => (sat P).trans ((sat5 P).trans (M6.sat P).symm)) ris M6.ris
        have short := lines_short ndU ul4 lin nd5 rb5 sat
        have el : es.length ≤ 4 := by
          have := congrArg List.length eqm
          rw [List.length_map, List.length_map] at this
          omega
        clear sat5 mem5 mem6 nd5 rb5 T7 pnt N7 e7 l5'
        refine ⟨_, rfl, _, rfl, t, l, dl, es, fs, U.length, U.length, rfl, ht, hl, Z8.d, hes, Z8.l, eqm, fun e he => (short e.l (List.mem_map.mpr ⟨e, he, rfl⟩)).okb (by decide), by omega, by omega, fun H9 s9 => ⟨_, rfl, iteF ?_⟩⟩
        have B9 := B8.same s9
        have Z9 := Z8.same s9
        have hD9 := s9 _ _ hD8
        have ht9 := s9 _ _ ht
        have hl9 := s9 _ _ hl
        have hes9 : ∀ e ∈ es, LnOk K U.length H9 e := fun e he => (hes e he).extN (ExtN.same s9)
        clear B8 Z8 hD8 ht hl hes B6 Z6 hD6
        refine ⟨_, rfl, D, rfl, ⟨_, SqL.of hD9⟩, ?_⟩
        refine for_list (K := K) (a := D) (xs := fs.map fun e => V.str e.l.u) (fun i2 σ H' => ∃ y8 : Option V, σ = [some (.ref a), some (.ref st), some (.ref ul), some (.ref rl), some (.ref dl), some (.ref D), some (.int (0 + (i : Int))), some (.ref t), y8, none, none] ∧ Same H9 H') ⟨_, rfl, fun _ _ h => h⟩ (fun i2 σ H' _ ⟨_, _, S⟩ => SqL.of (S _ _ hD9)) ?_ ?_
        · rintro i2 v σ H' hv ⟨y8, rfl, S⟩
          rw [List.getElem?_map] at hv
          obtain ⟨f, hfi, rfl⟩ := Option.map_eq_some_iff.mp hv
          have hfm := List.mem_of_getElem? hfi
          have hl' := S _ _ hl9
          refine ⟨_, rfl, t, _, 1, _, rfl, rfl, SqT.of (S _ _ ht9), atI_nat (j := 1) rfl, l, rfl, ⟨_, SqL.of hl'⟩, fun D2 nD2 => ?_⟩
          refine lc_list (K := K) (a := l) (xs := es.map fun e => V.ref e.t) (fun j H2 => H2 D2 = some (.lst ((List.replicate j false).map V.bl)) ∧ ∀ b o, b ≠ D2 → H' b = some o → H2 b = some o)
            ⟨upd_same, fun b o n e => by rw [upd_ne n]; exact e⟩ (fun j H2 _ ⟨_, w2⟩ => SqL.of (w2 _ _ (ne_of_none hl' nD2) hl')) ?_ ?_
          · rintro j v H2 hv ⟨w1, w2⟩
            rw [List.getElem?_map] at hv
            obtain ⟨e, hej, rfl⟩ := Option.map_eq_some_iff.mp hv
            have jl : j < es.length := (List.getElem?_eq_some_iff.mp hej).1
            have s2 : Same H' H2 := fun b o e => w2 _ _ (ne_of_none e nD2) e
            have hem := List.mem_of_getElem? hej
            obtain ⟨h1, ⟨kvs, dm⟩, _, _⟩ := ((hes9 e hem).extN (ExtN.same S)).extN (ExtN.same s2)
            have me : e.l ∈ fs.map (·.l) := by rw [← eqm]; exact List.mem_map.mpr ⟨e, hem, rfl⟩
            have g0 := M6.lin.g0 me (List.mem_map.mpr ⟨f, hfm, rfl⟩)
            have ev : valV kvs (.inr f.l.u) = none := by
              cases h : valV kvs (.inr f.l.u) with
              | none => rfl
              | some v =>
                obtain ⟨p, hp, e3, e4⟩ := mem_valV h
                have n0 := (dm.2.2.2.1 p hp).2.2 trivial
                rw [e3] at n0
                exact absurd ((top_q ((M6.lin.lo _ me).1 _)).mpr g0) n0
            refine ⟨rfl, _, rfl, _, rfl, e.t, _, 1, _, rfl, rfl, SqT.of h1, atI_nat (j := 1) rfl, e.c, valV kvs (.inr f.l.u), rfl, DGet.k (k := .inr f.l.u) dm.1, _, w1, ?_, ?_, fun b o n e => by rw [upd_ne n]; exact w2 b o n e⟩
            · rw [List.length_map, List.length_replicate]
              exact small1000 (by omega)
            · rw [upd_same, ev, List.replicate_succ', List.map_append]
              rfl
          · rintro H2 ⟨w1, w2⟩
            have s2 : Same H' H2 := fun b o e => w2 _ _ (ne_of_none e nD2) e
            refine ⟨D2, _, rfl, SqL.of w1, ?_⟩
            rw [show (List.replicate (es.map fun e => V.ref e.t).length false).any id = false from List.any_eq_false.mpr fun x hx => by rw [(List.mem_replicate.mp hx).2]; simp]
            exact ⟨_, rfl, iteF ⟨_, rfl, S.trans s2⟩⟩
        · rintro σ H10 ⟨y8, rfl, S⟩
          have B10 := B9.same S
          have Z10 := Z9.same S
          have hD10 := S _ _ hD9
          have eL : (zs.map fun z => V.ref z.t).length = zs.length := List.length_map _
          refine ⟨_, rfl, rl, _, rfl, .inl (SqL.of B10.r), ((zs.map fun z => V.ref z.t).length : Int), 8, rfl, rfl, _, rfl, ite2 (fun e => ?_) (fun e => ?_)⟩
          · have l8 : zs.length < 8 := by
              have := of_decide_eq_true e
              rw [eL] at this
              omega
            refine ⟨_, rfl, _, rfl, _, rfl, st, c, rl, ul, U, zs, rfl, B10, wz, by omega, ul4, nmU, fun H11 rl' zs' b11 B11 wz11 sat11 => ?_⟩
            exact ⟨_, _, _, rl', zs', rfl, B11, wz11, Z10.but b11 B10.s, ⟨M6.lin, M6.ris, fun P => (M6.sat P).trans (sat11 P).symm⟩, b11 _ _ DS hD10⟩
          · exact ⟨_, _, _, rl, zs, rfl, B10, wz, Z10, M6, hD10⟩
      · rintro σ H6 ⟨y6, y7, y8, rl, zs, rfl, _⟩
        exact q _
end
end SS
namespace SS
open PySem PySem.Spec PyProof.Rows L2
/-! ### the end of a law whose program has tables of generator expressions -/
theorem tabIn_of {K : PySem.W.Frag} {x : Str} {f c Pt : Addr} {oc e : Value} {od dd : Option Addr} {fd : FuncData} {sl s2 : Array (Option Value)} {vs : Array Value} (a : PySem.W.nsIn K mainGlobals x = some (some (.ref f))) (l : K.lookup f = some ⟨oc, od, .func fd, sl⟩) (hc : fd.code = .ref c)
    (lc : K.lookup c = some ⟨e, dd, .fields vs, s2⟩) (h11 : vs[11]? = some (.ref Pt)) : PySem.W.tabIn K x = some (c, Pt) := by
  unfold PySem.W.tabIn
  rw [a]
  simp only [l, hc, lc, h11]
def TabsOf (K : PySem.W.Frag) (h : Heap) (names : List Str) : Prop := ∀ x ∈ names, ∀ c Pt, PySem.W.tabIn K x = some (c, Pt) → PySem.W.CodeHd h c Pt ∧ h.get? Pt = some { cls := .none, data := .fields #[] }
theorem walk_ofN {l : PySem.W.OpenLaw} {n k : Nat} {q : Program} {loose : List Str} {XP : (Str → Option Value) → Heap → Prop} {YP : World → Heap → Prop} {d : DefRec} {K : Params → PySem.W.Frag} {CX : World → CXT} {x : Str} (names : List Str)
    (hn : l.most = some n) (hn2 : n ≤ sizeLine) (hdf : d.params.defaults = []) (hr : Room k callerA) (hrec : ∀ x ∈ names, ((recsOf q).any fun e => e.name == x) = true) (hY : ∀ (w : World) (h : Heap), YP w h → (K w.params).In h)
    (F : ∀ (w : World) (mg : Str → Option Value) (fa : Addr) (h : Heap), (K w.params).In h → h.Ns mainGlobals mg → mg d.name = some (.ref fa) → TabsOf (K w.params) h names → LamX.LawAtS l w (K w.params) (CX w) k n x mg fa h)
    (hCX : ∀ (w : World) (H : Hp) (s : Shared) (e : Value) (s' : Shared), CX w [] H s (fun _ _ _ => False) e s' → False) :
    PySem.W.WalkO q loose XP YP l.row.toRowW d [] (fun f vs => PySem.call f vs) := by
  refine Att.attach_callB hn hdf fun w s₀ s₁ mg mb fa o pm cd doc a vs ns G Y ho hd hcd hmg hobj hints hlen hbits hg => ?_
  have KX := hY w _ Y
  have tb : TabsOf (K w.params) s₁.heap names := fun y hy c Pt ht => by
    cases e : (recsOf q).find? (fun e => e.name == y) with
    | none =>
      have z := List.find?_eq_none.mp e
      obtain ⟨dL, hm, hn1⟩ := List.any_eq_true.mp (hrec y hy)
      exact absurd hn1 (z dL hm)
    | some dL => exact PySem.W.tab_of G.T KX e ht
  obtain ⟨fd, cs, sp, hT, nT, C, hb, hsp, hF⟩ := F w mg fa _ KX G.T.g hmg tb
  exact LamX.law_callTs KX G.T.g G.T.b G.T.builtins G.T.nolimit hg hT nT C G.T.bmain hobj hints (Nat.le_trans hlen hn2) hr hF hb (fun H hH hS => hsp H a ns hlen hbits hH hS) fun H e s' => hCX w H s₁ e s'
theorem tbOf {base : Heap} {mg : Str → Option Value} {c Pt : Addr} (t : LamX.TabB base mg c Pt) : GxR.TabB base mg c Pt := ⟨t.code, t.bm, t.gP⟩
theorem tabs_nil {T : List Addr} {H : Hp} (h : ∀ P ∈ T, H P = some (.tbl #[])) : Tabs T H := fun P hP => ⟨#[], h P hP, True.intro⟩
end SS
namespace SS
open PySem PySem.Spec PyProof.Rows L2
section
variable {P : Program} {w : World} {K : PySem.W.Frag} {mg : Str → Option Value} {base : Heap}
theorem scTurned : FnScope ["_law_a"] ["_law_a"] (defScope sTurned) := ⟨rfl, rfl, rfl, by decide +kernel, rfl, by decide +kernel, by decide +kernel⟩
theorem ok_turned {f : Addr} {fd : FuncData} {k : Nat} (F : Fun K "_law_turned" "_law_turned" sTurned f fd) : FnOk P w K mg base CX0 (k + 1) f fd ["_law_a"] spTurned := by
  refine F.ok scTurned (fun vs H Q E h => ?_) (fun cdv A outer s H vs Q E hr h => ?_)
  · obtain ⟨_, _, _, rfl, _⟩ := h
    rfl
  · obtain ⟨p, n, d, rfl, hp, q⟩ := h
    refine ⟨_, pss_one (ps_ret (pe_tup (pa_cons (pe_op op_sub pe_int (pe_ix ix_tup (pv 0) pe_int (fun _ _ => rfl))) (pa_cons (pe_ix ix_tup (pv 0) pe_int (fun _ _ => rfl)) pa_nil)))), ?_⟩
    exact ⟨_, rfl, p, _, 0, _, rfl, rfl, SqT.of hp, atI_nat (j := 0) rfl, 0, n, rfl, rfl, _, rfl, p, _, 1, _, rfl, rfl, SqT.of hp, atI_nat (j := 1) rfl, small2, q⟩
end
end SS
namespace SS
open PySem PySem.Spec PyProof.Rows L2
/-! ### what the top leaves -/
set_option maxHeartbeats 4000000 in
theorem all_mk {l : PySem.W.OpenLaw} {w : World} {K : PySem.W.Frag} {h : Heap} {mg : Str → Option Value} {fa : Addr} (X : K.In h) (G : h.Ns mainGlobals mg) (hfa : mg "law" = some (.ref fa)) (tb : TabsOf K h ["rows_by_name", "solved_of"])
    {f0 : Addr} {od0 an0 : Option Addr} {sl0 : Array (Option Value)} {oc0 kV0 dc0 pm0 ct0 : Value}
    {cd0 : Value}
    {f1 : Addr} {od1 an1 : Option Addr} {sl1 : Array (Option Value)} {oc1 kV1 dc1 pm1 ct1 : Value}
    {T1 : Addr} {odT1 : Option Addr} {slT1 : Array (Option Value)} {ocT1 : Value} {nT1 : Nat} {tT1 : Tok}
    {cd1 : Value}
    {f2 : Addr} {od2 an2 : Option Addr} {sl2 : Array (Option Value)} {oc2 kV2 dc2 pm2 ct2 : Value}
    {cd2 : Value}
    {f3 : Addr} {od3 an3 : Option Addr} {sl3 : Array (Option Value)} {oc3 kV3 dc3 pm3 ct3 : Value}
    {cd3 : Value}
    {f4 : Addr} {od4 an4 : Option Addr} {sl4 : Array (Option Value)} {oc4 kV4 dc4 pm4 ct4 : Value}
    {cd4 : Value}
    {f5 : Addr} {od5 an5 : Option Addr} {sl5 : Array (Option Value)} {oc5 kV5 dc5 pm5 ct5 : Value}
    {cd5 : Value}
    {f6 : Addr} {od6 an6 : Option Addr} {sl6 : Array (Option Value)} {oc6 kV6 dc6 pm6 ct6 : Value}
    {cd6 : Value}
    {f7 : Addr} {od7 an7 : Option Addr} {sl7 : Array (Option Value)} {oc7 kV7 dc7 pm7 ct7 : Value}
    {cd7 : Value}
    {f8 : Addr} {od8 an8 : Option Addr} {sl8 : Array (Option Value)} {oc8 kV8 dc8 pm8 ct8 : Value}
    {cd8 : Value}
    {f9 : Addr} {od9 an9 : Option Addr} {sl9 : Array (Option Value)} {oc9 kV9 dc9 pm9 ct9 : Value}
    {cd9 : Value}
    {f10 : Addr} {od10 an10 : Option Addr} {sl10 : Array (Option Value)} {oc10 kV10 dc10 pm10 ct10 : Value}
    {cd10 : Value}
    {f11 : Addr} {od11 an11 : Option Addr} {sl11 : Array (Option Value)} {oc11 kV11 dc11 pm11 ct11 : Value}
    {cd11 : Value}
    {f12 : Addr} {od12 an12 : Option Addr} {sl12 : Array (Option Value)} {oc12 kV12 dc12 pm12 ct12 : Value}
    {cc12 PP12 : Addr} {ce12 : Value} {cdd12 : Option Addr} {cvs12 : Array Value} {csl12 : Array (Option Value)}
    {f13 : Addr} {od13 an13 : Option Addr} {sl13 : Array (Option Value)} {oc13 kV13 dc13 pm13 ct13 : Value}
    {cd13 : Value}
    {f14 : Addr} {od14 an14 : Option Addr} {sl14 : Array (Option Value)} {oc14 kV14 dc14 pm14 ct14 : Value}
    {cd14 : Value}
    {f15 : Addr} {od15 an15 : Option Addr} {sl15 : Array (Option Value)} {oc15 kV15 dc15 pm15 ct15 : Value}
    {cd15 : Value}
    {f16 : Addr} {od16 an16 : Option Addr} {sl16 : Array (Option Value)} {oc16 kV16 dc16 pm16 ct16 : Value}
    {cd16 : Value}
    {f17 : Addr} {od17 an17 : Option Addr} {sl17 : Array (Option Value)} {oc17 kV17 dc17 pm17 ct17 : Value}
    {cd17 : Value}
    {f18 : Addr} {od18 an18 : Option Addr} {sl18 : Array (Option Value)} {oc18 kV18 dc18 pm18 ct18 : Value}
    {cd18 : Value}
    {f19 : Addr} {od19 an19 : Option Addr} {sl19 : Array (Option Value)} {oc19 kV19 dc19 pm19 ct19 : Value}
    {cd19 : Value}
    {f20 : Addr} {od20 an20 : Option Addr} {sl20 : Array (Option Value)} {oc20 kV20 dc20 pm20 ct20 : Value}
    {cd20 : Value}
    {f21 : Addr} {od21 an21 : Option Addr} {sl21 : Array (Option Value)} {oc21 kV21 dc21 pm21 ct21 : Value}
    {cd21 : Value}
    {f22 : Addr} {od22 an22 : Option Addr} {sl22 : Array (Option Value)} {oc22 kV22 dc22 pm22 ct22 : Value}
    {cd22 : Value}
    {f23 : Addr} {od23 an23 : Option Addr} {sl23 : Array (Option Value)} {oc23 kV23 dc23 pm23 ct23 : Value}
    {cd23 : Value}
    {f24 : Addr} {od24 an24 : Option Addr} {sl24 : Array (Option Value)} {oc24 kV24 dc24 pm24 ct24 : Value}
    {cd24 : Value}
    {f25 : Addr} {od25 an25 : Option Addr} {sl25 : Array (Option Value)} {oc25 kV25 dc25 pm25 ct25 : Value}
    {cc25 PP25 : Addr} {ce25 : Value} {cdd25 : Option Addr} {cvs25 : Array Value} {csl25 : Array (Option Value)}
    {f26 : Addr} {od26 an26 : Option Addr} {sl26 : Array (Option Value)} {oc26 kV26 dc26 pm26 ct26 : Value}
    {cd26 : Value}
    {f27 : Addr} {od27 an27 : Option Addr} {sl27 : Array (Option Value)} {oc27 kV27 dc27 pm27 ct27 : Value}
    {cd27 : Value}
    {f28 : Addr} {od28 an28 : Option Addr} {sl28 : Array (Option Value)} {oc28 kV28 dc28 pm28 ct28 : Value}
    {cd28 : Value}
    {f29 : Addr} {od29 an29 : Option Addr} {sl29 : Array (Option Value)} {oc29 kV29 dc29 pm29 ct29 : Value}
    {cd29 : Value}
    {f30 : Addr} {od30 an30 : Option Addr} {sl30 : Array (Option Value)} {oc30 kV30 dc30 pm30 ct30 : Value}
    {cd30 : Value}
    {f31 : Addr} {od31 an31 : Option Addr} {sl31 : Array (Option Value)} {oc31 kV31 dc31 pm31 ct31 : Value}
    {cd31 : Value}
    {f32 : Addr} {od32 an32 : Option Addr} {sl32 : Array (Option Value)} {oc32 kV32 dc32 pm32 ct32 : Value}
    {cd32 : Value}
    {f33 : Addr} {od33 an33 : Option Addr} {sl33 : Array (Option Value)} {oc33 kV33 dc33 pm33 ct33 : Value}
    {cd33 : Value}
    {f34 : Addr} {od34 an34 : Option Addr} {sl34 : Array (Option Value)} {oc34 kV34 dc34 pm34 ct34 : Value}
    {cd34 : Value}
    {f35 : Addr} {od35 an35 : Option Addr} {sl35 : Array (Option Value)} {oc35 kV35 dc35 pm35 ct35 : Value}
    {cd35 : Value}
    {f36 : Addr} {od36 an36 : Option Addr} {sl36 : Array (Option Value)} {oc36 kV36 dc36 pm36 ct36 : Value}
    {cd36 : Value}
    {f37 : Addr} {od37 an37 : Option Addr} {sl37 : Array (Option Value)} {oc37 kV37 dc37 pm37 ct37 : Value}
    {cd37 : Value}
    {f38 : Addr} {od38 an38 : Option Addr} {sl38 : Array (Option Value)} {oc38 kV38 dc38 pm38 ct38 : Value}
    {cd38 : Value}
    {f39 : Addr} {od39 an39 : Option Addr} {sl39 : Array (Option Value)} {oc39 kV39 dc39 pm39 ct39 : Value}
    {cd39 : Value}
    {f40 : Addr} {od40 an40 : Option Addr} {sl40 : Array (Option Value)} {oc40 kV40 dc40 pm40 ct40 : Value}
    {cd40 : Value}
    {f41 : Addr} {od41 an41 : Option Addr} {sl41 : Array (Option Value)} {oc41 kV41 dc41 pm41 ct41 : Value}
    {cd41 : Value}
    {f42 : Addr} {od42 an42 : Option Addr} {sl42 : Array (Option Value)} {oc42 kV42 dc42 pm42 ct42 : Value}
    {cd42 : Value}
    {f43 : Addr} {od43 an43 : Option Addr} {sl43 : Array (Option Value)} {oc43 kV43 dc43 pm43 ct43 : Value}
    {cd43 : Value}
    {f44 : Addr} {od44 an44 : Option Addr} {sl44 : Array (Option Value)} {oc44 kV44 dc44 pm44 ct44 : Value}
    {cd44 : Value}
    {f45 : Addr} {od45 an45 : Option Addr} {sl45 : Array (Option Value)} {oc45 kV45 dc45 pm45 ct45 : Value}
    {cd45 : Value}
    {f46 : Addr} {od46 an46 : Option Addr} {sl46 : Array (Option Value)} {oc46 kV46 dc46 pm46 ct46 : Value}
    {cd46 : Value}
    {f47 : Addr} {od47 an47 : Option Addr} {sl47 : Array (Option Value)} {oc47 kV47 dc47 pm47 ct47 : Value}
    {cd47 : Value}
    {f48 : Addr} {od48 an48 : Option Addr} {sl48 : Array (Option Value)} {oc48 kV48 dc48 pm48 ct48 : Value}
    {cd48 : Value}
    {f49 : Addr} {od49 an49 : Option Addr} {sl49 : Array (Option Value)} {oc49 kV49 dc49 pm49 ct49 : Value}
    {cd49 : Value}
    {f50 : Addr} {od50 an50 : Option Addr} {sl50 : Array (Option Value)} {oc50 kV50 dc50 pm50 ct50 : Value}
    {cd50 : Value}
    {f51 : Addr} {od51 an51 : Option Addr} {sl51 : Array (Option Value)} {oc51 kV51 dc51 pm51 ct51 : Value}
    {cd51 : Value}
    {f52 : Addr} {od52 an52 : Option Addr} {sl52 : Array (Option Value)} {oc52 kV52 dc52 pm52 ct52 : Value}
    {cd52 : Value}
    {f53 : Addr} {od53 an53 : Option Addr} {sl53 : Array (Option Value)} {oc53 kV53 dc53 pm53 ct53 : Value}
    {cd53 : Value}
    {f54 : Addr} {od54 an54 : Option Addr} {sl54 : Array (Option Value)} {oc54 kV54 dc54 pm54 ct54 : Value}
    {cd54 : Value}
    {f55 : Addr} {od55 an55 : Option Addr} {sl55 : Array (Option Value)} {oc55 kV55 dc55 pm55 ct55 : Value}
    {cd55 : Value}
    {f56 : Addr} {od56 an56 : Option Addr} {sl56 : Array (Option Value)} {oc56 kV56 dc56 pm56 ct56 : Value}
    {cd56 : Value}
    {f57 : Addr} {od57 an57 : Option Addr} {sl57 : Array (Option Value)} {oc57 kV57 dc57 pm57 ct57 : Value}
    {cd57 : Value}
    {f58 : Addr} {od58 an58 : Option Addr} {sl58 : Array (Option Value)} {oc58 kV58 dc58 pm58 ct58 : Value}
    {cd58 : Value}
    {f59 : Addr} {od59 an59 : Option Addr} {sl59 : Array (Option Value)} {oc59 kV59 dc59 pm59 ct59 : Value}
    {cd59 : Value}
    {aO : Addr} {odO : Option Addr} {tO0 tO1 : Tok} {nO : Nat} {slO : Array (Option Value)}
    {aM : Addr} {odM : Option Addr} {tM0 tM1 : Tok} {nM : Nat} {slM : Array (Option Value)}
    {aN : Addr} {odN : Option Addr} {tN0 tN1 : Tok} {nN : Nat} {slN : Array (Option Value)}
    {tSb : Tok}
    {C : Addr}
    (a0 : PySem.W.nsIn K mainGlobals "common_divisor" = some (some (.ref f0)))
    (l0 : K.lookup f0 = some ⟨oc0, od0, .func (PySem.W.fnOf "common_divisor" "common_divisor" (defArgs sCd) (defBody sCd) (defScope sCd) .none kV0 dc0 pm0 an0 cd0 ct0), sl0⟩)
    (c0 : PySem.W.codeIn K cd0 "common_divisor" = true)
    (k0 : PySem.W.keepIn K (.ref f0) = true)
    (a1 : PySem.W.nsIn K mainGlobals "fraction_of" = some (some (.ref f1)))
    (l1 : K.lookup f1 = some ⟨oc1, od1, .func (PySem.W.fnOf "fraction_of" "fraction_of" (defArgs sFo) (defBody sFo) (defScope sFo) (.ref T1) kV1 dc1 pm1 an1 cd1 ct1), sl1⟩)
    (t1 : K.lookup T1 = some ⟨ocT1, odT1, .seq #[.int 1 tT1] nT1, slT1⟩)
    (c1 : PySem.W.codeIn K cd1 "fraction_of" = true)
    (k1 : PySem.W.keepIn K (.ref f1) = true)
    (a2 : PySem.W.nsIn K mainGlobals "are_short" = some (some (.ref f2)))
    (l2 : K.lookup f2 = some ⟨oc2, od2, .func (PySem.W.fnOf "are_short" "are_short" (defArgs sAre) (defBody sAre) (defScope sAre) .none kV2 dc2 pm2 an2 cd2 ct2), sl2⟩)
    (c2 : PySem.W.codeIn K cd2 "are_short" = true)
    (k2 : PySem.W.keepIn K (.ref f2) = true)
    (a3 : PySem.W.nsIn K mainGlobals "plus" = some (some (.ref f3)))
    (l3 : K.lookup f3 = some ⟨oc3, od3, .func (PySem.W.fnOf "plus" "plus" (defArgs sPlus) (defBody sPlus) (defScope sPlus) .none kV3 dc3 pm3 an3 cd3 ct3), sl3⟩)
    (c3 : PySem.W.codeIn K cd3 "plus" = true)
    (k3 : PySem.W.keepIn K (.ref f3) = true)
    (a4 : PySem.W.nsIn K mainGlobals "times" = some (some (.ref f4)))
    (l4 : K.lookup f4 = some ⟨oc4, od4, .func (PySem.W.fnOf "times" "times" (defArgs sTimes) (defBody sTimes) (defScope sTimes) .none kV4 dc4 pm4 an4 cd4 ct4), sl4⟩)
    (c4 : PySem.W.codeIn K cd4 "times" = true)
    (k4 : PySem.W.keepIn K (.ref f4) = true)
    (a5 : PySem.W.nsIn K mainGlobals "over" = some (some (.ref f5)))
    (l5 : K.lookup f5 = some ⟨oc5, od5, .func (PySem.W.fnOf "over" "over" (defArgs sOver) (defBody sOver) (defScope sOver) .none kV5 dc5 pm5 an5 cd5 ct5), sl5⟩)
    (c5 : PySem.W.codeIn K cd5 "over" = true)
    (k5 : PySem.W.keepIn K (.ref f5) = true)
    (a6 : PySem.W.nsIn K mainGlobals "fits_whole" = some (some (.ref f6)))
    (l6 : K.lookup f6 = some ⟨oc6, od6, .func (PySem.W.fnOf "fits_whole" "fits_whole" (defArgs sFitsW) (defBody sFitsW) (defScope sFitsW) .none kV6 dc6 pm6 an6 cd6 ct6), sl6⟩)
    (c6 : PySem.W.codeIn K cd6 "fits_whole" = true)
    (k6 : PySem.W.keepIn K (.ref f6) = true)
    (a7 : PySem.W.nsIn K mainGlobals "fits_fraction" = some (some (.ref f7)))
    (l7 : K.lookup f7 = some ⟨oc7, od7, .func (PySem.W.fnOf "fits_fraction" "fits_fraction" (defArgs sFitsF) (defBody sFitsF) (defScope sFitsF) .none kV7 dc7 pm7 an7 cd7 ct7), sl7⟩)
    (c7 : PySem.W.codeIn K cd7 "fits_fraction" = true)
    (k7 : PySem.W.keepIn K (.ref f7) = true)
    (a8 : PySem.W.nsIn K mainGlobals "without_noughts" = some (some (.ref f8)))
    (l8 : K.lookup f8 = some ⟨oc8, od8, .func (PySem.W.fnOf "without_noughts" "without_noughts" (defArgs sWn) (defBody sWn) (defScope sWn) .none kV8 dc8 pm8 an8 cd8 ct8), sl8⟩)
    (c8 : PySem.W.codeIn K cd8 "without_noughts" = true)
    (k8 : PySem.W.keepIn K (.ref f8) = true)
    (a9 : PySem.W.nsIn K mainGlobals "sum_of" = some (some (.ref f9)))
    (l9 : K.lookup f9 = some ⟨oc9, od9, .func (PySem.W.fnOf "sum_of" "sum_of" (defArgs sSumOf) (defBody sSumOf) (defScope sSumOf) .none kV9 dc9 pm9 an9 cd9 ct9), sl9⟩)
    (c9 : PySem.W.codeIn K cd9 "sum_of" = true)
    (k9 : PySem.W.keepIn K (.ref f9) = true)
    (a10 : PySem.W.nsIn K mainGlobals "sum_plus" = some (some (.ref f10)))
    (l10 : K.lookup f10 = some ⟨oc10, od10, .func (PySem.W.fnOf "sum_plus" "sum_plus" (defArgs sSumPlus) (defBody sSumPlus) (defScope sSumPlus) .none kV10 dc10 pm10 an10 cd10 ct10), sl10⟩)
    (c10 : PySem.W.codeIn K cd10 "sum_plus" = true)
    (k10 : PySem.W.keepIn K (.ref f10) = true)
    (a11 : PySem.W.nsIn K mainGlobals "sum_times" = some (some (.ref f11)))
    (l11 : K.lookup f11 = some ⟨oc11, od11, .func (PySem.W.fnOf "sum_times" "sum_times" (defArgs sSumTimes) (defBody sSumTimes) (defScope sSumTimes) .none kV11 dc11 pm11 an11 cd11 ct11), sl11⟩)
    (c11 : PySem.W.codeIn K cd11 "sum_times" = true)
    (k11 : PySem.W.keepIn K (.ref f11) = true)
    (a12 : PySem.W.nsIn K mainGlobals "rows_by_name" = some (some (.ref f12)))
    (l12 : K.lookup f12 = some ⟨oc12, od12, .func (PySem.W.fnOf "rows_by_name" "rows_by_name" (defArgs sRbn) (defBody sRbn) (defScope sRbn) .none kV12 dc12 pm12 an12 (.ref cc12) ct12), sl12⟩)
    (c12 : PySem.W.codeIn K (.ref cc12) "rows_by_name" = true)
    (k12 : PySem.W.keepIn K (.ref f12) = true)
    (lc12 : K.lookup cc12 = some ⟨ce12, cdd12, .fields cvs12, csl12⟩)
    (pp12 : cvs12[11]? = some (.ref PP12))
    (np12 : K.lookup PP12 = none)
    (a13 : PySem.W.nsIn K mainGlobals "unknowns_of" = some (some (.ref f13)))
    (l13 : K.lookup f13 = some ⟨oc13, od13, .func (PySem.W.fnOf "unknowns_of" "unknowns_of" (defArgs sUnk) (defBody sUnk) (defScope sUnk) .none kV13 dc13 pm13 an13 cd13 ct13), sl13⟩)
    (c13 : PySem.W.codeIn K cd13 "unknowns_of" = true)
    (k13 : PySem.W.keepIn K (.ref f13) = true)
    (a14 : PySem.W.nsIn K mainGlobals "equals_by_name" = some (some (.ref f14)))
    (l14 : K.lookup f14 = some ⟨oc14, od14, .func (PySem.W.fnOf "equals_by_name" "equals_by_name" (defArgs sEbn) (defBody sEbn) (defScope sEbn) .none kV14 dc14 pm14 an14 cd14 ct14), sl14⟩)
    (c14 : PySem.W.codeIn K cd14 "equals_by_name" = true)
    (k14 : PySem.W.keepIn K (.ref f14) = true)
    (a15 : PySem.W.nsIn K mainGlobals "names_row" = some (some (.ref f15)))
    (l15 : K.lookup f15 = some ⟨oc15, od15, .func (PySem.W.fnOf "names_row" "names_row" (defArgs sNamesRow) (defBody sNamesRow) (defScope sNamesRow) .none kV15 dc15 pm15 an15 cd15 ct15), sl15⟩)
    (c15 : PySem.W.codeIn K cd15 "names_row" = true)
    (k15 : PySem.W.keepIn K (.ref f15) = true)
    (a16 : PySem.W.nsIn K mainGlobals "fits_times" = some (some (.ref f16)))
    (l16 : K.lookup f16 = some ⟨oc16, od16, .func (PySem.W.fnOf "fits_times" "fits_times" (defArgs sFitsTm) (defBody sFitsTm) (defScope sFitsTm) .none kV16 dc16 pm16 an16 cd16 ct16), sl16⟩)
    (c16 : PySem.W.codeIn K cd16 "fits_times" = true)
    (k16 : PySem.W.keepIn K (.ref f16) = true)
    (a17 : PySem.W.nsIn K mainGlobals "fits_add" = some (some (.ref f17)))
    (l17 : K.lookup f17 = some ⟨oc17, od17, .func (PySem.W.fnOf "fits_add" "fits_add" (defArgs sFitsAdd) (defBody sFitsAdd) (defScope sFitsAdd) .none kV17 dc17 pm17 an17 cd17 ct17), sl17⟩)
    (c17 : PySem.W.codeIn K cd17 "fits_add" = true)
    (k17 : PySem.W.keepIn K (.ref f17) = true)
    (a18 : PySem.W.nsIn K mainGlobals "fits_step" = some (some (.ref f18)))
    (l18 : K.lookup f18 = some ⟨oc18, od18, .func (PySem.W.fnOf "fits_step" "fits_step" (defArgs sFitsStep) (defBody sFitsStep) (defScope sFitsStep) .none kV18 dc18 pm18 an18 cd18 ct18), sl18⟩)
    (c18 : PySem.W.codeIn K cd18 "fits_step" = true)
    (k18 : PySem.W.keepIn K (.ref f18) = true)
    (a19 : PySem.W.nsIn K mainGlobals "row_behind" = some (some (.ref f19)))
    (l19 : K.lookup f19 = some ⟨oc19, od19, .func (PySem.W.fnOf "row_behind" "row_behind" (defArgs sRowBehind) (defBody sRowBehind) (defScope sRowBehind) .none kV19 dc19 pm19 an19 cd19 ct19), sl19⟩)
    (c19 : PySem.W.codeIn K cd19 "row_behind" = true)
    (k19 : PySem.W.keepIn K (.ref f19) = true)
    (a20 : PySem.W.nsIn K mainGlobals "stepped" = some (some (.ref f20)))
    (l20 : K.lookup f20 = some ⟨oc20, od20, .func (PySem.W.fnOf "stepped" "stepped" (defArgs sStepped) (defBody sStepped) (defScope sStepped) .none kV20 dc20 pm20 an20 cd20 ct20), sl20⟩)
    (c20 : PySem.W.codeIn K cd20 "stepped" = true)
    (k20 : PySem.W.keepIn K (.ref f20) = true)
    (a21 : PySem.W.nsIn K mainGlobals "clearing_steps" = some (some (.ref f21)))
    (l21 : K.lookup f21 = some ⟨oc21, od21, .func (PySem.W.fnOf "clearing_steps" "clearing_steps" (defArgs sClearing) (defBody sClearing) (defScope sClearing) .none kV21 dc21 pm21 an21 cd21 ct21), sl21⟩)
    (c21 : PySem.W.codeIn K cd21 "clearing_steps" = true)
    (k21 : PySem.W.keepIn K (.ref f21) = true)
    (a22 : PySem.W.nsIn K mainGlobals "steps_of" = some (some (.ref f22)))
    (l22 : K.lookup f22 = some ⟨oc22, od22, .func (PySem.W.fnOf "steps_of" "steps_of" (defArgs sStepsOf) (defBody sStepsOf) (defScope sStepsOf) .none kV22 dc22 pm22 an22 cd22 ct22), sl22⟩)
    (c22 : PySem.W.codeIn K cd22 "steps_of" = true)
    (k22 : PySem.W.keepIn K (.ref f22) = true)
    (a23 : PySem.W.nsIn K mainGlobals "line_of" = some (some (.ref f23)))
    (l23 : K.lookup f23 = some ⟨oc23, od23, .func (PySem.W.fnOf "line_of" "line_of" (defArgs sLineOf) (defBody sLineOf) (defScope sLineOf) .none kV23 dc23 pm23 an23 cd23 ct23), sl23⟩)
    (c23 : PySem.W.codeIn K cd23 "line_of" = true)
    (k23 : PySem.W.keepIn K (.ref f23) = true)
    (a24 : PySem.W.nsIn K mainGlobals "shares_behind" = some (some (.ref f24)))
    (l24 : K.lookup f24 = some ⟨oc24, od24, .func (PySem.W.fnOf "shares_behind" "shares_behind" (defArgs sSharesB) (defBody sSharesB) (defScope sSharesB) .none kV24 dc24 pm24 an24 cd24 ct24), sl24⟩)
    (c24 : PySem.W.codeIn K cd24 "shares_behind" = true)
    (k24 : PySem.W.keepIn K (.ref f24) = true)
    (a25 : PySem.W.nsIn K mainGlobals "solved_of" = some (some (.ref f25)))
    (l25 : K.lookup f25 = some ⟨oc25, od25, .func (PySem.W.fnOf "solved_of" "solved_of" (defArgs sSolved) (defBody sSolved) (defScope sSolved) .none kV25 dc25 pm25 an25 (.ref cc25) ct25), sl25⟩)
    (c25 : PySem.W.codeIn K (.ref cc25) "solved_of" = true)
    (k25 : PySem.W.keepIn K (.ref f25) = true)
    (lc25 : K.lookup cc25 = some ⟨ce25, cdd25, .fields cvs25, csl25⟩)
    (pp25 : cvs25[11]? = some (.ref PP25))
    (np25 : K.lookup PP25 = none)
    (a26 : PySem.W.nsIn K mainGlobals "_law_fresh" = some (some (.ref f26)))
    (l26 : K.lookup f26 = some ⟨oc26, od26, .func (PySem.W.fnOf "_law_fresh" "_law_fresh" (defArgs sFresh) (defBody sFresh) (defScope sFresh) .none kV26 dc26 pm26 an26 cd26 ct26), sl26⟩)
    (c26 : PySem.W.codeIn K cd26 "_law_fresh" = true)
    (k26 : PySem.W.keepIn K (.ref f26) = true)
    (a27 : PySem.W.nsIn K mainGlobals "_law_mixed" = some (some (.ref f27)))
    (l27 : K.lookup f27 = some ⟨oc27, od27, .func (PySem.W.fnOf "_law_mixed" "_law_mixed" (defArgs sMixed) (defBody sMixed) (defScope sMixed) .none kV27 dc27 pm27 an27 cd27 ct27), sl27⟩)
    (c27 : PySem.W.codeIn K cd27 "_law_mixed" = true)
    (k27 : PySem.W.keepIn K (.ref f27) = true)
    (a28 : PySem.W.nsIn K mainGlobals "_law_fill" = some (some (.ref f28)))
    (l28 : K.lookup f28 = some ⟨oc28, od28, .func (PySem.W.fnOf "_law_fill" "_law_fill" (defArgs sFill) (defBody sFill) (defScope sFill) .none kV28 dc28 pm28 an28 cd28 ct28), sl28⟩)
    (c28 : PySem.W.codeIn K cd28 "_law_fill" = true)
    (k28 : PySem.W.keepIn K (.ref f28) = true)
    (a29 : PySem.W.nsIn K mainGlobals "_law_take" = some (some (.ref f29)))
    (l29 : K.lookup f29 = some ⟨oc29, od29, .func (PySem.W.fnOf "_law_take" "_law_take" (defArgs sTake) (defBody sTake) (defScope sTake) .none kV29 dc29 pm29 an29 cd29 ct29), sl29⟩)
    (c29 : PySem.W.codeIn K cd29 "_law_take" = true)
    (k29 : PySem.W.keepIn K (.ref f29) = true)
    (a30 : PySem.W.nsIn K mainGlobals "_law_whole" = some (some (.ref f30)))
    (l30 : K.lookup f30 = some ⟨oc30, od30, .func (PySem.W.fnOf "_law_whole" "_law_whole" (defArgs sWhole) (defBody sWhole) (defScope sWhole) .none kV30 dc30 pm30 an30 cd30 ct30), sl30⟩)
    (c30 : PySem.W.codeIn K cd30 "_law_whole" = true)
    (k30 : PySem.W.keepIn K (.ref f30) = true)
    (a31 : PySem.W.nsIn K mainGlobals "_law_shared" = some (some (.ref f31)))
    (l31 : K.lookup f31 = some ⟨oc31, od31, .func (PySem.W.fnOf "_law_shared" "_law_shared" (defArgs sSh) (defBody sSh) (defScope sSh) .none kV31 dc31 pm31 an31 cd31 ct31), sl31⟩)
    (c31 : PySem.W.codeIn K cd31 "_law_shared" = true)
    (k31 : PySem.W.keepIn K (.ref f31) = true)
    (a32 : PySem.W.nsIn K mainGlobals "_law_frac" = some (some (.ref f32)))
    (l32 : K.lookup f32 = some ⟨oc32, od32, .func (PySem.W.fnOf "_law_frac" "_law_frac" (defArgs sFrac) (defBody sFrac) (defScope sFrac) .none kV32 dc32 pm32 an32 cd32 ct32), sl32⟩)
    (c32 : PySem.W.codeIn K cd32 "_law_frac" = true)
    (k32 : PySem.W.keepIn K (.ref f32) = true)
    (a33 : PySem.W.nsIn K mainGlobals "_law_plus" = some (some (.ref f33)))
    (l33 : K.lookup f33 = some ⟨oc33, od33, .func (PySem.W.fnOf "_law_plus" "_law_plus" (defArgs sLPlus) (defBody sLPlus) (defScope sLPlus) .none kV33 dc33 pm33 an33 cd33 ct33), sl33⟩)
    (c33 : PySem.W.codeIn K cd33 "_law_plus" = true)
    (k33 : PySem.W.keepIn K (.ref f33) = true)
    (a34 : PySem.W.nsIn K mainGlobals "_law_times" = some (some (.ref f34)))
    (l34 : K.lookup f34 = some ⟨oc34, od34, .func (PySem.W.fnOf "_law_times" "_law_times" (defArgs sLTimes) (defBody sLTimes) (defScope sLTimes) .none kV34 dc34 pm34 an34 cd34 ct34), sl34⟩)
    (c34 : PySem.W.codeIn K cd34 "_law_times" = true)
    (k34 : PySem.W.keepIn K (.ref f34) = true)
    (a35 : PySem.W.nsIn K mainGlobals "_law_turned" = some (some (.ref f35)))
    (l35 : K.lookup f35 = some ⟨oc35, od35, .func (PySem.W.fnOf "_law_turned" "_law_turned" (defArgs sTurned) (defBody sTurned) (defScope sTurned) .none kV35 dc35 pm35 an35 cd35 ct35), sl35⟩)
    (c35 : PySem.W.codeIn K cd35 "_law_turned" = true)
    (k35 : PySem.W.keepIn K (.ref f35) = true)
    (a36 : PySem.W.nsIn K mainGlobals "_law_is_fraction" = some (some (.ref f36)))
    (l36 : K.lookup f36 = some ⟨oc36, od36, .func (PySem.W.fnOf "_law_is_fraction" "_law_is_fraction" (defArgs sIsf) (defBody sIsf) (defScope sIsf) .none kV36 dc36 pm36 an36 cd36 ct36), sl36⟩)
    (c36 : PySem.W.codeIn K cd36 "_law_is_fraction" = true)
    (k36 : PySem.W.keepIn K (.ref f36) = true)
    (a37 : PySem.W.nsIn K mainGlobals "_law_is_name" = some (some (.ref f37)))
    (l37 : K.lookup f37 = some ⟨oc37, od37, .func (PySem.W.fnOf "_law_is_name" "_law_is_name" (defArgs sIsName) (defBody sIsName) (defScope sIsName) .none kV37 dc37 pm37 an37 cd37 ct37), sl37⟩)
    (c37 : PySem.W.codeIn K cd37 "_law_is_name" = true)
    (k37 : PySem.W.keepIn K (.ref f37) = true)
    (a38 : PySem.W.nsIn K mainGlobals "_law_is_point" = some (some (.ref f38)))
    (l38 : K.lookup f38 = some ⟨oc38, od38, .func (PySem.W.fnOf "_law_is_point" "_law_is_point" (defArgs sIsPoint) (defBody sIsPoint) (defScope sIsPoint) .none kV38 dc38 pm38 an38 cd38 ct38), sl38⟩)
    (c38 : PySem.W.codeIn K cd38 "_law_is_point" = true)
    (k38 : PySem.W.keepIn K (.ref f38) = true)
    (a39 : PySem.W.nsIn K mainGlobals "_law_is_sum" = some (some (.ref f39)))
    (l39 : K.lookup f39 = some ⟨oc39, od39, .func (PySem.W.fnOf "_law_is_sum" "_law_is_sum" (defArgs sIsSum) (defBody sIsSum) (defScope sIsSum) .none kV39 dc39 pm39 an39 cd39 ct39), sl39⟩)
    (c39 : PySem.W.codeIn K cd39 "_law_is_sum" = true)
    (k39 : PySem.W.keepIn K (.ref f39) = true)
    (a40 : PySem.W.nsIn K mainGlobals "_law_worth" = some (some (.ref f40)))
    (l40 : K.lookup f40 = some ⟨oc40, od40, .func (PySem.W.fnOf "_law_worth" "_law_worth" (defArgs sLWorth) (defBody sLWorth) (defScope sLWorth) .none kV40 dc40 pm40 an40 cd40 ct40), sl40⟩)
    (c40 : PySem.W.codeIn K cd40 "_law_worth" = true)
    (k40 : PySem.W.keepIn K (.ref f40) = true)
    (a41 : PySem.W.nsIn K mainGlobals "_law_add" = some (some (.ref f41)))
    (l41 : K.lookup f41 = some ⟨oc41, od41, .func (PySem.W.fnOf "_law_add" "_law_add" (defArgs sAdd) (defBody sAdd) (defScope sAdd) .none kV41 dc41 pm41 an41 cd41 ct41), sl41⟩)
    (c41 : PySem.W.codeIn K cd41 "_law_add" = true)
    (k41 : PySem.W.keepIn K (.ref f41) = true)
    (a42 : PySem.W.nsIn K mainGlobals "_law_some_name" = some (some (.ref f42)))
    (l42 : K.lookup f42 = some ⟨oc42, od42, .func (PySem.W.fnOf "_law_some_name" "_law_some_name" (defArgs sSname) (defBody sSname) (defScope sSname) .none kV42 dc42 pm42 an42 cd42 ct42), sl42⟩)
    (c42 : PySem.W.codeIn K cd42 "_law_some_name" = true)
    (k42 : PySem.W.keepIn K (.ref f42) = true)
    (a43 : PySem.W.nsIn K mainGlobals "_law_names" = some (some (.ref f43)))
    (l43 : K.lookup f43 = some ⟨oc43, od43, .func (PySem.W.fnOf "_law_names" "_law_names" (defArgs sNames) (defBody sNames) (defScope sNames) .none kV43 dc43 pm43 an43 cd43 ct43), sl43⟩)
    (c43 : PySem.W.codeIn K cd43 "_law_names" = true)
    (k43 : PySem.W.keepIn K (.ref f43) = true)
    (a44 : PySem.W.nsIn K mainGlobals "_law_number" = some (some (.ref f44)))
    (l44 : K.lookup f44 = some ⟨oc44, od44, .func (PySem.W.fnOf "_law_number" "_law_number" (defArgs sNumber) (defBody sNumber) (defScope sNumber) .none kV44 dc44 pm44 an44 cd44 ct44), sl44⟩)
    (c44 : PySem.W.codeIn K cd44 "_law_number" = true)
    (k44 : PySem.W.keepIn K (.ref f44) = true)
    (a45 : PySem.W.nsIn K mainGlobals "_law_some_sum" = some (some (.ref f45)))
    (l45 : K.lookup f45 = some ⟨oc45, od45, .func (PySem.W.fnOf "_law_some_sum" "_law_some_sum" (defArgs sSsum) (defBody sSsum) (defScope sSsum) .none kV45 dc45 pm45 an45 cd45 ct45), sl45⟩)
    (c45 : PySem.W.codeIn K cd45 "_law_some_sum" = true)
    (k45 : PySem.W.keepIn K (.ref f45) = true)
    (a46 : PySem.W.nsIn K mainGlobals "_law_short" = some (some (.ref f46)))
    (l46 : K.lookup f46 = some ⟨oc46, od46, .func (PySem.W.fnOf "_law_short" "_law_short" (defArgs sShort) (defBody sShort) (defScope sShort) .none kV46 dc46 pm46 an46 cd46 ct46), sl46⟩)
    (c46 : PySem.W.codeIn K cd46 "_law_short" = true)
    (k46 : PySem.W.keepIn K (.ref f46) = true)
    (a47 : PySem.W.nsIn K mainGlobals "_law_some_row" = some (some (.ref f47)))
    (l47 : K.lookup f47 = some ⟨oc47, od47, .func (PySem.W.fnOf "_law_some_row" "_law_some_row" (defArgs sSRow) (defBody sSRow) (defScope sSRow) .none kV47 dc47 pm47 an47 cd47 ct47), sl47⟩)
    (c47 : PySem.W.codeIn K cd47 "_law_some_row" = true)
    (k47 : PySem.W.keepIn K (.ref f47) = true)
    (a48 : PySem.W.nsIn K mainGlobals "_law_some_point" = some (some (.ref f48)))
    (l48 : K.lookup f48 = some ⟨oc48, od48, .func (PySem.W.fnOf "_law_some_point" "_law_some_point" (defArgs sSpoint) (defBody sSpoint) (defScope sSpoint) .none kV48 dc48 pm48 an48 cd48 ct48), sl48⟩)
    (c48 : PySem.W.codeIn K cd48 "_law_some_point" = true)
    (k48 : PySem.W.keepIn K (.ref f48) = true)
    (a49 : PySem.W.nsIn K mainGlobals "_law_copied" = some (some (.ref f49)))
    (l49 : K.lookup f49 = some ⟨oc49, od49, .func (PySem.W.fnOf "_law_copied" "_law_copied" (defArgs sCopied) (defBody sCopied) (defScope sCopied) .none kV49 dc49 pm49 an49 cd49 ct49), sl49⟩)
    (c49 : PySem.W.codeIn K cd49 "_law_copied" = true)
    (k49 : PySem.W.keepIn K (.ref f49) = true)
    (a50 : PySem.W.nsIn K mainGlobals "_law_within" = some (some (.ref f50)))
    (l50 : K.lookup f50 = some ⟨oc50, od50, .func (PySem.W.fnOf "_law_within" "_law_within" (defArgs sWithin) (defBody sWithin) (defScope sWithin) .none kV50 dc50 pm50 an50 cd50 ct50), sl50⟩)
    (c50 : PySem.W.codeIn K cd50 "_law_within" = true)
    (k50 : PySem.W.keepIn K (.ref f50) = true)
    (a51 : PySem.W.nsIn K mainGlobals "_law_row_plus" = some (some (.ref f51)))
    (l51 : K.lookup f51 = some ⟨oc51, od51, .func (PySem.W.fnOf "_law_row_plus" "_law_row_plus" (defArgs sRowPlus) (defBody sRowPlus) (defScope sRowPlus) .none kV51 dc51 pm51 an51 cd51 ct51), sl51⟩)
    (c51 : PySem.W.codeIn K cd51 "_law_row_plus" = true)
    (k51 : PySem.W.keepIn K (.ref f51) = true)
    (a52 : PySem.W.nsIn K mainGlobals "_law_equals" = some (some (.ref f52)))
    (l52 : K.lookup f52 = some ⟨oc52, od52, .func (PySem.W.fnOf "_law_equals" "_law_equals" (defArgs sEquals) (defBody sEquals) (defScope sEquals) .none kV52 dc52 pm52 an52 cd52 ct52), sl52⟩)
    (c52 : PySem.W.codeIn K cd52 "_law_equals" = true)
    (k52 : PySem.W.keepIn K (.ref f52) = true)
    (a53 : PySem.W.nsIn K mainGlobals "_law_lines" = some (some (.ref f53)))
    (l53 : K.lookup f53 = some ⟨oc53, od53, .func (PySem.W.fnOf "_law_lines" "_law_lines" (defArgs sLines) (defBody sLines) (defScope sLines) .none kV53 dc53 pm53 an53 cd53 ct53), sl53⟩)
    (c53 : PySem.W.codeIn K cd53 "_law_lines" = true)
    (k53 : PySem.W.keepIn K (.ref f53) = true)
    (a54 : PySem.W.nsIn K mainGlobals "_law_put_lines" = some (some (.ref f54)))
    (l54 : K.lookup f54 = some ⟨oc54, od54, .func (PySem.W.fnOf "_law_put_lines" "_law_put_lines" (defArgs sPutLines) (defBody sPutLines) (defScope sPutLines) .none kV54 dc54 pm54 an54 cd54 ct54), sl54⟩)
    (c54 : PySem.W.codeIn K cd54 "_law_put_lines" = true)
    (k54 : PySem.W.keepIn K (.ref f54) = true)
    (a55 : PySem.W.nsIn K mainGlobals "_law_led" = some (some (.ref f55)))
    (l55 : K.lookup f55 = some ⟨oc55, od55, .func (PySem.W.fnOf "_law_led" "_law_led" (defArgs sLed) (defBody sLed) (defScope sLed) .none kV55 dc55 pm55 an55 cd55 ct55), sl55⟩)
    (c55 : PySem.W.codeIn K cd55 "_law_led" = true)
    (k55 : PySem.W.keepIn K (.ref f55) = true)
    (a56 : PySem.W.nsIn K mainGlobals "_law_line_put" = some (some (.ref f56)))
    (l56 : K.lookup f56 = some ⟨oc56, od56, .func (PySem.W.fnOf "_law_line_put" "_law_line_put" (defArgs sLinePut) (defBody sLinePut) (defScope sLinePut) .none kV56 dc56 pm56 an56 cd56 ct56), sl56⟩)
    (c56 : PySem.W.codeIn K cd56 "_law_line_put" = true)
    (k56 : PySem.W.keepIn K (.ref f56) = true)
    (a57 : PySem.W.nsIn K mainGlobals "_law_is_lines" = some (some (.ref f57)))
    (l57 : K.lookup f57 = some ⟨oc57, od57, .func (PySem.W.fnOf "_law_is_lines" "_law_is_lines" (defArgs sIsLines) (defBody sIsLines) (defScope sIsLines) .none kV57 dc57 pm57 an57 cd57 ct57), sl57⟩)
    (c57 : PySem.W.codeIn K cd57 "_law_is_lines" = true)
    (k57 : PySem.W.keepIn K (.ref f57) = true)
    (a58 : PySem.W.nsIn K mainGlobals "_law_put_otherwise" = some (some (.ref f58)))
    (l58 : K.lookup f58 = some ⟨oc58, od58, .func (PySem.W.fnOf "_law_put_otherwise" "_law_put_otherwise" (defArgs sPutOther) (defBody sPutOther) (defScope sPutOther) .none kV58 dc58 pm58 an58 cd58 ct58), sl58⟩)
    (c58 : PySem.W.codeIn K cd58 "_law_put_otherwise" = true)
    (k58 : PySem.W.keepIn K (.ref f58) = true)
    (a59 : PySem.W.nsIn K mainGlobals "law" = some (some (.ref f59)))
    (l59 : K.lookup f59 = some ⟨oc59, od59, .func (PySem.W.fnOf "law" "law" (defArgs sLaw) (defBody sLaw) (defScope sLaw) .none kV59 dc59 pm59 an59 cd59 ct59), sl59⟩)
    (c59 : PySem.W.codeIn K cd59 "law" = true)
    (k59 : PySem.W.keepIn K (.ref f59) = true)
    (aOn : PySem.W.nsIn K mainGlobals "ONE" = some (some (.ref aO)))
    (lO : K.lookup aO = some ⟨.type "tuple", odO, .seq #[.int 1 tO0, .int 1 tO1] nO, slO⟩)
    (aMn : PySem.W.nsIn K mainGlobals "MINUS_ONE" = some (some (.ref aM)))
    (lM : K.lookup aM = some ⟨.type "tuple", odM, .seq #[.int (-1) tM0, .int 1 tM1] nM, slM⟩)
    (aNn : PySem.W.nsIn K mainGlobals "NOUGHT" = some (some (.ref aN)))
    (lN : K.lookup aN = some ⟨.type "tuple", odN, .seq #[.int 0 tN0, .int 1 tN1] nN, slN⟩)
    (aSb : PySem.W.nsIn K mainGlobals "SHORT_BITS" = some (some (.int 256 tSb)))
    (z_ValueError : PySem.W.nsIn K mainGlobals "ValueError" = some none)
    (z_abs : PySem.W.nsIn K mainGlobals "abs" = some none)
    (z_all : PySem.W.nsIn K mainGlobals "all" = some none)
    (z_any : PySem.W.nsIn K mainGlobals "any" = some none)
    (z_bool : PySem.W.nsIn K mainGlobals "bool" = some none)
    (z_dict : PySem.W.nsIn K mainGlobals "dict" = some none)
    (z_enumerate : PySem.W.nsIn K mainGlobals "enumerate" = some none)
    (z_int : PySem.W.nsIn K mainGlobals "int" = some none)
    (z_isinstance : PySem.W.nsIn K mainGlobals "isinstance" = some none)
    (z_len : PySem.W.nsIn K mainGlobals "len" = some none)
    (z_list : PySem.W.nsIn K mainGlobals "list" = some none)
    (z_min : PySem.W.nsIn K mainGlobals "min" = some none)
    (z_range : PySem.W.nsIn K mainGlobals "range" = some none)
    (z_sorted : PySem.W.nsIn K mainGlobals "sorted" = some none)
    (z_str : PySem.W.nsIn K mainGlobals "str" = some none)
    (z_tuple : PySem.W.nsIn K mainGlobals "tuple" = some none)
    (g_C : PySem.W.nsIn K mainGlobals "NoFraction" = some (some (.ref C)))
    (x_C : PySem.W.excIn K C [.type "ValueError", .type "Exception", .type "BaseException", .type "object"] "ValueError.__new__" = true)
    (k_C : PySem.W.keepIn K (.ref C) = true)
    (b_C : PySem.W.subIn K (.ref C) (.type "BaseException") = some true)
    (t_C : PySem.W.typeIn K (.ref C) = some (.type "type"))
    (dp12_25 : PP12 ≠ PP25)
    (dp25_12 : PP25 ≠ PP12)
    : LamX.LawAtS l w K CX0 9 63 "_law_script" mg fa h := by
  have e := hfa.symm.trans (PySem.W.mg_of X G a59)
  cases e
  have F0 := fun_mk (st := sCd) l0 c0 k0
  have b0 := F0.binds (ps := ["a", "b"]) fun _ _ _ _ _ _ us hl => match us, hl with | [_, _], _ => rfl
  have m0 := PySem.W.mg_of X G a0
  have F1 : FunD K "fraction_of" "fraction_of" (defArgs sFo) (defBody sFo) (defScope sFo) [.int 1] [] f1 _ := ⟨⟨oc1, od1, .ref T1, kV1, dc1, pm1, an1, cd1, ct1, sl1, rfl, l1, c1, .inr ⟨by decide, T1, _, [.int 1 tT1], nT1, rfl, t1, rfl, .cons ⟨_, rfl⟩ .nil⟩, .inl rfl⟩, k1⟩
  obtain ⟨ds1, vd1, b1⟩ := F1.binds1 (ps := ["top", "bottom"]) 2 1 (by decide) rfl fun T kV doc pm an cdv ct us its hl hi => match us, its, hl, hi with | [_, _], [_], _, _ => ⟨_, rfl, rfl⟩
  have m1 := PySem.W.mg_of X G a1
  have F2 := fun_mk (st := sAre) l2 c2 k2
  have b2 := F2.binds (ps := ["a", "b"]) fun _ _ _ _ _ _ us hl => match us, hl with | [_, _], _ => rfl
  have m2 := PySem.W.mg_of X G a2
  have F3 := fun_mk (st := sPlus) l3 c3 k3
  have b3 := F3.binds (ps := ["a", "b"]) fun _ _ _ _ _ _ us hl => match us, hl with | [_, _], _ => rfl
  have m3 := PySem.W.mg_of X G a3
  have F4 := fun_mk (st := sTimes) l4 c4 k4
  have b4 := F4.binds (ps := ["a", "b"]) fun _ _ _ _ _ _ us hl => match us, hl with | [_, _], _ => rfl
  have m4 := PySem.W.mg_of X G a4
  have F5 := fun_mk (st := sOver) l5 c5 k5
  have b5 := F5.binds (ps := ["a", "b"]) fun _ _ _ _ _ _ us hl => match us, hl with | [_, _], _ => rfl
  have m5 := PySem.W.mg_of X G a5
  have F6 := fun_mk (st := sFitsW) l6 c6 k6
  have b6 := F6.binds (ps := ["thing"]) fun _ _ _ _ _ _ us hl => match us, hl with | [_], _ => rfl
  have m6 := PySem.W.mg_of X G a6
  have F7 := fun_mk (st := sFitsF) l7 c7 k7
  have b7 := F7.binds (ps := ["thing"]) fun _ _ _ _ _ _ us hl => match us, hl with | [_], _ => rfl
  have m7 := PySem.W.mg_of X G a7
  have F8 := fun_mk (st := sWn) l8 c8 k8
  have b8 := F8.binds (ps := ["numbers"]) fun _ _ _ _ _ _ us hl => match us, hl with | [_], _ => rfl
  have m8 := PySem.W.mg_of X G a8
  have F9 := fun_mk (st := sSumOf) l9 c9 k9
  have b9 := F9.binds (ps := ["pairs"]) fun _ _ _ _ _ _ us hl => match us, hl with | [_], _ => rfl
  have m9 := PySem.W.mg_of X G a9
  have F10 := fun_mk (st := sSumPlus) l10 c10 k10
  have b10 := F10.binds (ps := ["one", "other"]) fun _ _ _ _ _ _ us hl => match us, hl with | [_, _], _ => rfl
  have m10 := PySem.W.mg_of X G a10
  have F11 := fun_mk (st := sSumTimes) l11 c11 k11
  have b11 := F11.binds (ps := ["one", "number"]) fun _ _ _ _ _ _ us hl => match us, hl with | [_, _], _ => rfl
  have m11 := PySem.W.mg_of X G a11
  have F12 := fun_mk (st := sRbn) l12 c12 k12
  have b12 := F12.binds (ps := ["rows"]) fun _ _ _ _ _ _ us hl => match us, hl with | [_], _ => rfl
  have m12 := PySem.W.mg_of X G a12
  have F13 := fun_mk (st := sUnk) l13 c13 k13
  have b13 := F13.binds (ps := ["named"]) fun _ _ _ _ _ _ us hl => match us, hl with | [_], _ => rfl
  have m13 := PySem.W.mg_of X G a13
  have F14 := fun_mk (st := sEbn) l14 c14 k14
  have b14 := F14.binds (ps := ["rows"]) fun _ _ _ _ _ _ us hl => match us, hl with | [_], _ => rfl
  have m14 := PySem.W.mg_of X G a14
  have F15 := fun_mk (st := sNamesRow) l15 c15 k15
  have b15 := F15.binds (ps := ["equals", "thing"]) fun _ _ _ _ _ _ us hl => match us, hl with | [_, _], _ => rfl
  have m15 := PySem.W.mg_of X G a15
  have F16 := fun_mk (st := sFitsTm) l16 c16 k16
  have b16 := F16.binds (ps := ["equals", "step"]) fun _ _ _ _ _ _ us hl => match us, hl with | [_, _], _ => rfl
  have m16 := PySem.W.mg_of X G a16
  have F17 := fun_mk (st := sFitsAdd) l17 c17 k17
  have b17 := F17.binds (ps := ["equals", "step"]) fun _ _ _ _ _ _ us hl => match us, hl with | [_, _], _ => rfl
  have m17 := PySem.W.mg_of X G a17
  have F18 := fun_mk (st := sFitsStep) l18 c18 k18
  have b18 := F18.binds (ps := ["equals", "step"]) fun _ _ _ _ _ _ us hl => match us, hl with | [_, _], _ => rfl
  have m18 := PySem.W.mg_of X G a18
  have F19 := fun_mk (st := sRowBehind) l19 c19 k19
  have b19 := F19.binds (ps := ["equals", "step"]) fun _ _ _ _ _ _ us hl => match us, hl with | [_, _], _ => rfl
  have m19 := PySem.W.mg_of X G a19
  have F20 := fun_mk (st := sStepped) l20 c20 k20
  have b20 := F20.binds (ps := ["rows", "steps"]) fun _ _ _ _ _ _ us hl => match us, hl with | [_, _], _ => rfl
  have m20 := PySem.W.mg_of X G a20
  have F21 := fun_mk (st := sClearing) l21 c21 k21
  have b21 := F21.binds (ps := ["equals", "name", "unknown"]) fun _ _ _ _ _ _ us hl => match us, hl with | [_, _, _], _ => rfl
  have m21 := PySem.W.mg_of X G a21
  have F22 := fun_mk (st := sStepsOf) l22 c22 k22
  have b22 := F22.binds (ps := ["rows"]) fun _ _ _ _ _ _ us hl => match us, hl with | [_], _ => rfl
  have m22 := PySem.W.mg_of X G a22
  have F23 := fun_mk (st := sLineOf) l23 c23 k23
  have b23 := F23.binds (ps := ["one", "bound"]) fun _ _ _ _ _ _ us hl => match us, hl with | [_, _], _ => rfl
  have m23 := PySem.W.mg_of X G a23
  have F24 := fun_mk (st := sSharesB) l24 c24 k24
  have b24 := F24.binds (ps := ["rows", "steps", "name"]) fun _ _ _ _ _ _ us hl => match us, hl with | [_, _, _], _ => rfl
  have m24 := PySem.W.mg_of X G a24
  have F25 := fun_mk (st := sSolved) l25 c25 k25
  have b25 := F25.binds (ps := ["rows"]) fun _ _ _ _ _ _ us hl => match us, hl with | [_], _ => rfl
  have m25 := PySem.W.mg_of X G a25
  have F26 := fun_mk (st := sFresh) l26 c26 k26
  have b26 := F26.binds (ps := ["_law_script"]) fun _ _ _ _ _ _ us hl => match us, hl with | [_], _ => rfl
  have m26 := PySem.W.mg_of X G a26
  have F27 := fun_mk (st := sMixed) l27 c27 k27
  have b27 := F27.binds (ps := ["_law_seed"]) fun _ _ _ _ _ _ us hl => match us, hl with | [_], _ => rfl
  have m27 := PySem.W.mg_of X G a27
  have F28 := fun_mk (st := sFill) l28 c28 k28
  have b28 := F28.binds (ps := ["_law_state"]) fun _ _ _ _ _ _ us hl => match us, hl with | [_], _ => rfl
  have m28 := PySem.W.mg_of X G a28
  have F29 := fun_mk (st := sTake) l29 c29 k29
  have b29 := F29.binds (ps := ["_law_state", "_law_many"]) fun _ _ _ _ _ _ us hl => match us, hl with | [_, _], _ => rfl
  have m29 := PySem.W.mg_of X G a29
  have F30 := fun_mk (st := sWhole) l30 c30 k30
  have b30 := F30.binds (ps := ["_law_thing"]) fun _ _ _ _ _ _ us hl => match us, hl with | [_], _ => rfl
  have m30 := PySem.W.mg_of X G a30
  have F31 := fun_mk (st := sSh) l31 c31 k31
  have b31 := F31.binds (ps := ["_law_one", "_law_other"]) fun _ _ _ _ _ _ us hl => match us, hl with | [_, _], _ => rfl
  have m31 := PySem.W.mg_of X G a31
  have F32 := fun_mk (st := sFrac) l32 c32 k32
  have b32 := F32.binds (ps := ["_law_top", "_law_bottom"]) fun _ _ _ _ _ _ us hl => match us, hl with | [_, _], _ => rfl
  have m32 := PySem.W.mg_of X G a32
  have F33 := fun_mk (st := sLPlus) l33 c33 k33
  have b33 := F33.binds (ps := ["_law_a", "_law_b"]) fun _ _ _ _ _ _ us hl => match us, hl with | [_, _], _ => rfl
  have m33 := PySem.W.mg_of X G a33
  have F34 := fun_mk (st := sLTimes) l34 c34 k34
  have b34 := F34.binds (ps := ["_law_a", "_law_b"]) fun _ _ _ _ _ _ us hl => match us, hl with | [_, _], _ => rfl
  have m34 := PySem.W.mg_of X G a34
  have F35 := fun_mk (st := sTurned) l35 c35 k35
  have b35 := F35.binds (ps := ["_law_a"]) fun _ _ _ _ _ _ us hl => match us, hl with | [_], _ => rfl
  have m35 := PySem.W.mg_of X G a35
  have F36 := fun_mk (st := sIsf) l36 c36 k36
  have b36 := F36.binds (ps := ["_law_thing"]) fun _ _ _ _ _ _ us hl => match us, hl with | [_], _ => rfl
  have m36 := PySem.W.mg_of X G a36
  have F37 := fun_mk (st := sIsName) l37 c37 k37
  have b37 := F37.binds (ps := ["_law_thing"]) fun _ _ _ _ _ _ us hl => match us, hl with | [_], _ => rfl
  have m37 := PySem.W.mg_of X G a37
  have F38 := fun_mk (st := sIsPoint) l38 c38 k38
  have b38 := F38.binds (ps := ["_law_thing"]) fun _ _ _ _ _ _ us hl => match us, hl with | [_], _ => rfl
  have m38 := PySem.W.mg_of X G a38
  have F39 := fun_mk (st := sIsSum) l39 c39 k39
  have b39 := F39.binds (ps := ["_law_thing"]) fun _ _ _ _ _ _ us hl => match us, hl with | [_], _ => rfl
  have m39 := PySem.W.mg_of X G a39
  have F40 := fun_mk (st := sLWorth) l40 c40 k40
  have b40 := F40.binds (ps := ["_law_one", "_law_point"]) fun _ _ _ _ _ _ us hl => match us, hl with | [_, _], _ => rfl
  have m40 := PySem.W.mg_of X G a40
  have F41 := fun_mk (st := sAdd) l41 c41 k41
  have b41 := F41.binds (ps := ["_law_one", "_law_other", "_law_number_here"]) fun _ _ _ _ _ _ us hl => match us, hl with | [_, _, _], _ => rfl
  have m41 := PySem.W.mg_of X G a41
  have F42 := fun_mk (st := sSname) l42 c42 k42
  have b42 := F42.binds (ps := ["_law_state"]) fun _ _ _ _ _ _ us hl => match us, hl with | [_], _ => rfl
  have m42 := PySem.W.mg_of X G a42
  have F43 := fun_mk (st := sNames) l43 c43 k43
  have b43 := F43.binds (ps := ["_law_state", "_law_many"]) fun _ _ _ _ _ _ us hl => match us, hl with | [_, _], _ => rfl
  have m43 := PySem.W.mg_of X G a43
  have F44 := fun_mk (st := sNumber) l44 c44 k44
  have b44 := F44.binds (ps := ["_law_state"]) fun _ _ _ _ _ _ us hl => match us, hl with | [_], _ => rfl
  have m44 := PySem.W.mg_of X G a44
  have F45 := fun_mk (st := sSsum) l45 c45 k45
  have b45 := F45.binds (ps := ["_law_state", "_law_unknowns"]) fun _ _ _ _ _ _ us hl => match us, hl with | [_, _], _ => rfl
  have m45 := PySem.W.mg_of X G a45
  have F46 := fun_mk (st := sShort) l46 c46 k46
  have b46 := F46.binds (ps := ["_law_number_here"]) fun _ _ _ _ _ _ us hl => match us, hl with | [_], _ => rfl
  have m46 := PySem.W.mg_of X G a46
  have F47 := fun_mk (st := sSRow) l47 c47 k47
  have b47 := F47.binds (ps := ["_law_state", "_law_unknowns", "_law_point"]) fun _ _ _ _ _ _ us hl => match us, hl with | [_, _, _], _ => rfl
  have m47 := PySem.W.mg_of X G a47
  have F48 := fun_mk (st := sSpoint) l48 c48 k48
  have b48 := F48.binds (ps := ["_law_state", "_law_unknowns"]) fun _ _ _ _ _ _ us hl => match us, hl with | [_, _], _ => rfl
  have m48 := PySem.W.mg_of X G a48
  have F49 := fun_mk (st := sCopied) l49 c49 k49
  have b49 := F49.binds (ps := ["_law_rows"]) fun _ _ _ _ _ _ us hl => match us, hl with | [_], _ => rfl
  have m49 := PySem.W.mg_of X G a49
  have F50 := fun_mk (st := sWithin) l50 c50 k50
  have b50 := F50.binds (ps := ["_law_row"]) fun _ _ _ _ _ _ us hl => match us, hl with | [_], _ => rfl
  have m50 := PySem.W.mg_of X G a50
  have F51 := fun_mk (st := sRowPlus) l51 c51 k51
  have b51 := F51.binds (ps := ["_law_row", "_law_other", "_law_number_here"]) fun _ _ _ _ _ _ us hl => match us, hl with | [_, _, _], _ => rfl
  have m51 := PySem.W.mg_of X G a51
  have F52 := fun_mk (st := sEquals) l52 c52 k52
  have b52 := F52.binds (ps := ["_law_state", "_law_most"]) fun _ _ _ _ _ _ us hl => match us, hl with | [_, _], _ => rfl
  have m52 := PySem.W.mg_of X G a52
  have F53 := fun_mk (st := sLines) l53 c53 k53
  have b53 := F53.binds (ps := ["_law_rows"]) fun _ _ _ _ _ _ us hl => match us, hl with | [_], _ => rfl
  have m53 := PySem.W.mg_of X G a53
  have F54 := fun_mk (st := sPutLines) l54 c54 k54
  have b54 := F54.binds (ps := ["_law_lines_here", "_law_one", "_law_number_here"]) fun _ _ _ _ _ _ us hl => match us, hl with | [_, _, _], _ => rfl
  have m54 := PySem.W.mg_of X G a54
  have F55 := fun_mk (st := sLed) l55 c55 k55
  have b55 := F55.binds (ps := ["_law_one", "_law_number_here"]) fun _ _ _ _ _ _ us hl => match us, hl with | [_, _], _ => rfl
  have m55 := PySem.W.mg_of X G a55
  have F56 := fun_mk (st := sLinePut) l56 c56 k56
  have b56 := F56.binds (ps := ["_law_line", "_law_new"]) fun _ _ _ _ _ _ us hl => match us, hl with | [_, _], _ => rfl
  have m56 := PySem.W.mg_of X G a56
  have F57 := fun_mk (st := sIsLines) l57 c57 k57
  have b57 := F57.binds (ps := ["_law_told", "_law_due"]) fun _ _ _ _ _ _ us hl => match us, hl with | [_, _], _ => rfl
  have m57 := PySem.W.mg_of X G a57
  have F58 := fun_mk (st := sPutOther) l58 c58 k58
  have b58 := F58.binds (ps := ["_law_state", "_law_rows", "_law_unknowns"]) fun _ _ _ _ _ _ us hl => match us, hl with | [_, _, _], _ => rfl
  have m58 := PySem.W.mg_of X G a58
  have F59 := fun_mk (st := sLaw) l59 c59 k59
  have n_ValueError := PySem.W.mg_none_of X G z_ValueError
  have n_abs := PySem.W.mg_none_of X G z_abs
  have n_all := PySem.W.mg_none_of X G z_all
  have n_any := PySem.W.mg_none_of X G z_any
  have n_bool := PySem.W.mg_none_of X G z_bool
  have n_dict := PySem.W.mg_none_of X G z_dict
  have n_enumerate := PySem.W.mg_none_of X G z_enumerate
  have n_int := PySem.W.mg_none_of X G z_int
  have n_isinstance := PySem.W.mg_none_of X G z_isinstance
  have n_len := PySem.W.mg_none_of X G z_len
  have n_list := PySem.W.mg_none_of X G z_list
  have n_min := PySem.W.mg_none_of X G z_min
  have n_range := PySem.W.mg_none_of X G z_range
  have n_sorted := PySem.W.mg_none_of X G z_sorted
  have n_str := PySem.W.mg_none_of X G z_str
  have n_tuple := PySem.W.mg_none_of X G z_tuple
  have T_C : ExT K mg "NoFraction" C := ⟨PySem.W.mg_of X G g_C, x_C, k_C, b_C, t_C⟩
  have tt12 := tb "rows_by_name" (by decide +kernel) cc12 PP12 (tabIn_of a12 l12 rfl lc12 pp12)
  have tt25 := tb "solved_of" (by decide +kernel) cc25 PP25 (tabIn_of a25 l25 rfl lc25 pp25)
  have hT : ∀ p ∈ ([(cc12, PP12), (cc25, PP25)] : List (Addr × Addr)), h.get? p.2 = some { cls := .none, data := .fields #[] } ∧ K.lookup p.2 = none ∧ PySem.W.CodeHd h p.1 p.2 := fun p hp => by
    simp only [List.mem_cons, List.not_mem_nil, or_false] at hp
    rcases hp with rfl | rfl
    · exact ⟨tt12.2, np12, tt12.1⟩
    · exact ⟨tt25.2, np25, tt25.1⟩
  refine ⟨PySem.W.fnOf "law" "law" (defArgs sLaw) (defBody sLaw) (defScope sLaw) .none kV59 dc59 pm59 an59 cd59 ct59, [(cc12, PP12), (cc25, PP25)], spLaw18 K [(PP12, Str.ofString "rows_by_name" ++ ".<locals>." ++ "<lambda>"), (PP25, Str.ofString "solved_of" ++ ".<locals>." ++ "<lambda>")], fun p hp => (hT p hp).1, fun p hp => (hT p hp).2.1, fun p hp => (hT p hp).2.2, fun s v => .of_eq rfl, fun H a ns _ _ hH hS => ⟨a, ns, rfl, hS, fun p hp => ?_, fun _ => rfl⟩, fun base _ _ TB => ?_⟩
  · have z : ∃ c, (c, p.1) ∈ ([(cc12, PP12), (cc25, PP25)] : List (Addr × Addr)) := by
      simp only [List.mem_cons, List.not_mem_nil, or_false] at hp
      rcases hp with rfl | rfl
      · exact ⟨cc12, by simp⟩
      · exact ⟨cc25, by simp⟩
    obtain ⟨c, hc⟩ := z
    exact LamX.TabS.nil (hH (c, p.1) hc)
  · have hO : ∀ H, FrT K H aO 1 1 := fun H => ⟨.inr ⟨_, _, _, lO, rfl, rfl, (by show 2 ≤ sizeLine; decide), .cons ⟨_, rfl⟩ (.cons ⟨_, rfl⟩ .nil)⟩, .kTuple lO rfl⟩
    have gO := PySem.W.mg_of X G aOn
    have hM : ∀ H, FrT K H aM (-1) 1 := fun H => ⟨.inr ⟨_, _, _, lM, rfl, rfl, (by show 2 ≤ sizeLine; decide), .cons ⟨_, rfl⟩ (.cons ⟨_, rfl⟩ .nil)⟩, .kTuple lM rfl⟩
    have gM := PySem.W.mg_of X G aMn
    have hN : ∀ H, FrT K H aN 0 1 := fun H => ⟨.inr ⟨_, _, _, lN, rfl, rfl, (by show 2 ≤ sizeLine; decide), .cons ⟨_, rfl⟩ (.cons ⟨_, rfl⟩ .nil)⟩, .kTuple lN rfl⟩
    have gN := PySem.W.mg_of X G aNn
    have gSb := PySem.W.mg_of X G aSb
    have cd := Cl.mk0 (P := l.prog) (w := w) (base := base) (ok_cd (k := 0) F0 n_abs) m0 k0 b0
    cases vd1
    have fo := Cl.mk0 (P := l.prog) (w := w) (base := base) (ok_fo F1 T_C cd) m1 k1 b1
    have ar := Cl.mk0 (P := l.prog) (w := w) (base := base) (ok_are (k := 0) F2 gSb) m2 k2 b2
    have pl := Cl.mk0 (P := l.prog) (w := w) (base := base) (ok_plus F3 fo cd ar) m3 k3 b3
    have tm := Cl.mk0 (P := l.prog) (w := w) (base := base) (ok_times F4 fo cd ar) m4 k4 b4
    have ov0 := Cl.mk0 (P := l.prog) (w := w) (base := base) (ok_over0 F5 tm) m5 k5 b5
    have fw := Cl.mk0 (P := l.prog) (w := w) (base := base) (ok_fitsw (k := 0) F6 n_isinstance n_int n_bool) m6 k6 b6
    have ff := Cl.mk0 (P := l.prog) (w := w) (base := base) (ok_fitsf (k := 0) F7 n_isinstance n_tuple n_len fw cd) m7 k7 b7
    have wn := Cl.mk0 (P := l.prog) (w := w) (base := base) (ok_wn (k := 0) F8 gN hN) m8 k8 b8
    have su := Cl.mk0 (P := l.prog) (w := w) (base := base) (ok_sumof F9 gN hN pl wn) m9 k9 b9
    have spl := Cl.mk0 (P := l.prog) (w := w) (base := base) (ok_sumplus F10 n_list su) m10 k10 b10
    have sti := Cl.mk0 (P := l.prog) (w := w) (base := base) (ok_sumtimes F11 tm wn) m11 k11 b11
    have rbn := Cl.mk0 (P := l.prog) (w := w) (base := base) (ok_rbn (T := [(PP12, Str.ofString "rows_by_name" ++ ".<locals>." ++ "<lambda>"), (PP25, Str.ofString "solved_of" ++ ".<locals>." ++ "<lambda>")]) F12 rfl (TB (cc12, PP12) (by simp)) (by simp) (fun p hp e => by simp only [List.mem_cons, List.not_mem_nil, or_false] at hp; exact hp.elim (fun h => by subst h; rfl) (fun h => by subst h; exact absurd e dp25_12)) n_sorted) m12 k12 b12
    have unx := Cl.mk0 (P := l.prog) (w := w) (base := base) (ok_unkX (k := 0) F13 n_sorted) m13 k13 b13
    have ebn := Cl.mk0 (P := l.prog) (w := w) (base := base) (ok_ebn (T := [(PP12, Str.ofString "rows_by_name" ++ ".<locals>." ++ "<lambda>"), (PP25, Str.ofString "solved_of" ++ ".<locals>." ++ "<lambda>")]) F14 rbn) m14 k14 b14
    have nrw := Cl.mk0 (P := l.prog) (w := w) (base := base) (ok_namesrow (k := 0) F15 n_isinstance n_str) m15 k15 b15
    have ftm := Cl.mk0 (P := l.prog) (w := w) (base := base) (ok_fitstm F16 gN hN nrw ff) m16 k16 b16
    have fad := Cl.mk0 (P := l.prog) (w := w) (base := base) (ok_fitsadd F17 nrw ff) m17 k17 b17
    have fst := Cl.mk0 (P := l.prog) (w := w) (base := base) (ok_fitsstep F18 n_isinstance n_tuple n_len ftm fad) m18 k18 b18
    have rbh := Cl.mk0 (P := l.prog) (w := w) (base := base) (ok_rowbehind F19 sti spl tm pl) m19 k19 b19
    have stp := Cl.mk0 (P := l.prog) (w := w) (base := base) (ok_stepped (T := [(PP12, Str.ofString "rows_by_name" ++ ".<locals>." ++ "<lambda>"), (PP25, Str.ofString "solved_of" ++ ".<locals>." ++ "<lambda>")]) F20 n_list ebn fst rbh) m20 k20 b20
    have cls := Cl.mk0 (P := l.prog) (w := w) (base := base) (ok_clear F21 gO hO gM hM ov0 tm) m21 k21 b21
    have sof := Cl.mk0 (P := l.prog) (w := w) (base := base) (ok_stepsof (T := [(PP12, Str.ofString "rows_by_name" ++ ".<locals>." ++ "<lambda>"), (PP25, Str.ofString "solved_of" ++ ".<locals>." ++ "<lambda>")]) F22 ebn unx cls rbh) m22 k22 b22
    have lof := Cl.mk0 (P := l.prog) (w := w) (base := base) (ok_lineof F23 n_min gM hM sti) m23 k23 b23
    have slv := Cl.mk0 (P := l.prog) (w := w) (base := base) (ok_solved (T := [(PP12, Str.ofString "rows_by_name" ++ ".<locals>." ++ "<lambda>"), (PP25, Str.ofString "solved_of" ++ ".<locals>." ++ "<lambda>")]) F25 rfl (TB (cc25, PP25) (by simp)) (by simp) (fun p hp e => by simp only [List.mem_cons, List.not_mem_nil, or_false] at hp; exact hp.elim (fun h => by subst h; exact absurd e dp12_25) (fun h => by subst h; rfl)) n_sorted gN hN sof stp lof) m25 k25 b25
    have fs := Cl.mk0 (P := l.prog) (w := w) (base := base) (ok_fresh (k := 0) F26 ) m26 k26 b26
    have mx := Cl.mk0 (P := l.prog) (w := w) (base := base) (ok_mixed (k := 0) F27 n_enumerate) m27 k27 b27
    have fl := Cl.mk0 (P := l.prog) (w := w) (base := base) (ok_fill F28 n_len mx) m28 k28 b28
    have tk := Cl.mk0 (P := l.prog) (w := w) (base := base) (ok_take F29 fl) m29 k29 b29
    have wh := Cl.mk0 (P := l.prog) (w := w) (base := base) (ok_whole (k := 0) F30 n_isinstance n_int n_bool) m30 k30 b30
    have sh := Cl.mk0 (P := l.prog) (w := w) (base := base) (ok_sh (k := 0) F31 n_abs) m31 k31 b31
    have fc := Cl.mk0 (P := l.prog) (w := w) (base := base) (ok_frac F32 sh) m32 k32 b32
    have lpl := Cl.mk0 (P := l.prog) (w := w) (base := base) (ok_lplus F33 fc) m33 k33 b33
    have ltm := Cl.mk0 (P := l.prog) (w := w) (base := base) (ok_ltimes F34 fc) m34 k34 b34
    have tu := Cl.mk0 (P := l.prog) (w := w) (base := base) (ok_turned (k := 0) F35 ) m35 k35 b35
    have isf := Cl.mk0 (P := l.prog) (w := w) (base := base) (ok_isf F36 n_isinstance n_tuple n_len n_all wh sh) m36 k36 b36
    have isn := Cl.mk0 (P := l.prog) (w := w) (base := base) (ok_isname (k := 0) F37 n_isinstance n_str n_len n_all) m37 k37 b37
    have isp := Cl.mk0 (P := l.prog) (w := w) (base := base) (ok_ispoint F38 n_isinstance n_dict n_all isn isf) m38 k38 b38
    have iss := Cl.mk0 (P := l.prog) (w := w) (base := base) (ok_issum F39 n_all isp) m39 k39 b39
    have lw := Cl.mk0 (P := l.prog) (w := w) (base := base) (ok_lworth F40 lpl ltm) m40 k40 b40
    have ad := Cl.mk0 (P := l.prog) (w := w) (base := base) (ok_add F41 n_dict lpl ltm) m41 k41 b41
    have sn := Cl.mk0 (P := l.prog) (w := w) (base := base) (ok_sname F42 n_range tk) m42 k42 b42
    have nn := Cl.mk0 (P := l.prog) (w := w) (base := base) (ok_names F43 n_range sn) m43 k43 b43
    have nm := Cl.mk0 (P := l.prog) (w := w) (base := base) (ok_number F44 tk fc) m44 k44 b44
    have ss := Cl.mk0 (P := l.prog) (w := w) (base := base) (ok_ssum F45 n_len tk nm) m45 k45 b45
    have sho := Cl.mk0 (P := l.prog) (w := w) (base := base) (ok_short (k := 0) F46 n_abs) m46 k46 b46
    have sr := Cl.mk0 (P := l.prog) (w := w) (base := base) (ok_srow F47 ss tk nm lw lpl sho) m47 k47 b47
    have spt := Cl.mk0 (P := l.prog) (w := w) (base := base) (ok_spoint F48 n_dict tk) m48 k48 b48
    have cpd := Cl.mk0 (P := l.prog) (w := w) (base := base) (ok_copied (k := 0) F49 n_dict) m49 k49 b49
    have wit := Cl.mk0 (P := l.prog) (w := w) (base := base) (ok_within (k := 0) F50 n_all n_abs n_list) m50 k50 b50
    have rpl := Cl.mk0 (P := l.prog) (w := w) (base := base) (ok_rowplus F51 ad ltm lpl) m51 k51 b51
    have eqs := Cl.mk0 (P := l.prog) (w := w) (base := base) (ok_equals F52 n_len n_dict tk nn spt sr ss lw rpl lpl wit) m52 k52 b52
    have pul := Cl.mk0 (P := l.prog) (w := w) (base := base) (ok_putlines F54 n_dict ad lpl ltm tu) m54 k54 b54
    have led := Cl.mk0 (P := l.prog) (w := w) (base := base) (ok_led F55 n_min n_dict fc ltm tu) m55 k55 b55
    have lip := Cl.mk0 (P := l.prog) (w := w) (base := base) (ok_lineput F56 n_dict ad lpl ltm) m56 k56 b56
    have lns := Cl.mk0 (P := l.prog) (w := w) (base := base) (ok_linesL F53 n_sorted pul led lip) m53 k53 b53
    have isl := Cl.mk0 (P := l.prog) (w := w) (base := base) (ok_islines F57 n_isinstance n_list n_tuple n_len isn iss isf) m57 k57 b57
    have puo := Cl.mk0 (P := l.prog) (w := w) (base := base) (ok_putother F58 n_range n_len tk ss rpl wit) m58 k58 b58
    exact ok_law F59 n_range n_len n_any fs eqs lns cpd slv isl puo
end SS
open PySem PySem.W PyProof.Rows
set_option maxRecDepth 100000 in
set_option maxHeartbeats 0 in
theorem PySem.Challenge.cw_scopestore_k18_whole_lines_of_rows_put_o_holds : PySem.Challenge.rw_scopestore_k18_whole_lines_of_rows_put_o.Holds := by
  w_on; o_law; k_head; (case hw => w_witness2)
  k_fill
  refine SS.walk_ofN (l := PySem.Challenge.rw_scopestore_k18_whole_lines_of_rows_put_o) (n := 63) (k := 9) (x := "_law_script") (CX := fun _ => L2.CX0) ["rows_by_name", "solved_of"] rfl (by decide) rfl ⟨rfl, by decide, by decide⟩ ?R (fun w h Y => PySem.W.km_in_of Y) ?F (fun _ _ _ _ _ h => h)
  case R => first | decide +kernel | (intro x hx; simp only [List.mem_cons, List.not_mem_nil, or_false] at hx; rcases hx with rfl | rfl <;> first | rfl | decide +kernel)
  case F =>
    intro w mg fa h KX G hmg tb
    refine' SS.all_mk KX G hmg tb ?a0 ?l0 ?c0 ?k0 ?a1 ?l1 ?t1 ?c1 ?k1 ?a2 ?l2 ?c2 ?k2 ?a3 ?l3 ?c3 ?k3 ?a4 ?l4 ?c4 ?k4 ?a5 ?l5 ?c5 ?k5 ?a6 ?l6 ?c6 ?k6 ?a7 ?l7 ?c7 ?k7 ?a8 ?l8 ?c8 ?k8 ?a9 ?l9 ?c9 ?k9 ?a10 ?l10 ?c10 ?k10 ?a11 ?l11 ?c11 ?k11 ?a12 ?l12 ?c12 ?k12 ?lc12 ?pp12 ?np12 ?a13 ?l13 ?c13 ?k13 ?a14 ?l14 ?c14 ?k14 ?a15 ?l15 ?c15 ?k15 ?a16 ?l16 ?c16 ?k16 ?a17 ?l17 ?c17 ?k17 ?a18 ?l18 ?c18 ?k18 ?a19 ?l19 ?c19 ?k19 ?a20 ?l20 ?c20 ?k20 ?a21 ?l21 ?c21 ?k21 ?a22 ?l22 ?c22 ?k22 ?a23 ?l23 ?c23 ?k23 ?a24 ?l24 ?c24 ?k24 ?a25 ?l25 ?c25 ?k25 ?lc25 ?pp25 ?np25 ?a26 ?l26 ?c26 ?k26 ?a27 ?l27 ?c27 ?k27 ?a28 ?l28 ?c28 ?k28 ?a29 ?l29 ?c29 ?k29 ?a30 ?l30 ?c30 ?k30 ?a31 ?l31 ?c31 ?k31 ?a32 ?l32 ?c32 ?k32 ?a33 ?l33 ?c33 ?k33 ?a34 ?l34 ?c34 ?k34 ?a35 ?l35 ?c35 ?k35 ?a36 ?l36 ?c36 ?k36 ?a37 ?l37 ?c37 ?k37 ?a38 ?l38 ?c38 ?k38 ?a39 ?l39 ?c39 ?k39 ?a40 ?l40 ?c40 ?k40 ?a41 ?l41 ?c41 ?k41 ?a42 ?l42 ?c42 ?k42 ?a43 ?l43 ?c43 ?k43 ?a44 ?l44 ?c44 ?k44 ?a45 ?l45 ?c45 ?k45 ?a46 ?l46 ?c46 ?k46 ?a47 ?l47 ?c47 ?k47 ?a48 ?l48 ?c48 ?k48 ?a49 ?l49 ?c49 ?k49 ?a50 ?l50 ?c50 ?k50 ?a51 ?l51 ?c51 ?k51 ?a52 ?l52 ?c52 ?k52 ?a53 ?l53 ?c53 ?k53 ?a54 ?l54 ?c54 ?k54 ?a55 ?l55 ?c55 ?k55 ?a56 ?l56 ?c56 ?k56 ?a57 ?l57 ?c57 ?k57 ?a58 ?l58 ?c58 ?k58 ?a59 ?l59 ?c59 ?k59 ?aOn ?lO ?aMn ?lM ?aNn ?lN ?aSb ?z_ValueError ?z_abs ?z_all ?z_any ?z_bool ?z_dict ?z_enumerate ?z_int ?z_isinstance ?z_len ?z_list ?z_min ?z_range ?z_sorted ?z_str ?z_tuple ?g_C ?x_C ?k_C ?b_C ?t_C ?dp12_25 ?dp25_12
    (case a0 => k_is)
    (case l0 => k_is)
    (case c0 => k_is)
    (case k0 => k_is)
    (case a1 => k_is)
    (case l1 => k_is)
    (case t1 => k_is)
    (case c1 => k_is)
    (case k1 => k_is)
    (case a2 => k_is)
    (case l2 => k_is)
    (case c2 => k_is)
    (case k2 => k_is)
    (case a3 => k_is)
    (case l3 => k_is)
    (case c3 => k_is)
    (case k3 => k_is)
    (case a4 => k_is)
    (case l4 => k_is)
    (case c4 => k_is)
    (case k4 => k_is)
    (case a5 => k_is)
    (case l5 => k_is)
    (case c5 => k_is)
    (case k5 => k_is)
    (case a6 => k_is)
    (case l6 => k_is)
    (case c6 => k_is)
    (case k6 => k_is)
    (case a7 => k_is)
    (case l7 => k_is)
    (case c7 => k_is)
    (case k7 => k_is)
    (case a8 => k_is)
    (case l8 => k_is)
    (case c8 => k_is)
    (case k8 => k_is)
    (case a9 => k_is)
    (case l9 => k_is)
    (case c9 => k_is)
    (case k9 => k_is)
    (case a10 => k_is)
    (case l10 => k_is)
    (case c10 => k_is)
    (case k10 => k_is)
    (case a11 => k_is)
    (case l11 => k_is)
    (case c11 => k_is)
    (case k11 => k_is)
    (case a12 => k_is)
    (case l12 => k_is)
    (case c12 => k_is)
    (case k12 => k_is)
    (case lc12 => k_is)
    (case pp12 => rfl)
    (case np12 => first | k_is | rfl | (with_unfolding_all rfl) | decide +kernel)
    (case a13 => k_is)
    (case l13 => k_is)
    (case c13 => k_is)
    (case k13 => k_is)
    (case a14 => k_is)
    (case l14 => k_is)
    (case c14 => k_is)
    (case k14 => k_is)
    (case a15 => k_is)
    (case l15 => k_is)
    (case c15 => k_is)
    (case k15 => k_is)
    (case a16 => k_is)
    (case l16 => k_is)
    (case c16 => k_is)
    (case k16 => k_is)
    (case a17 => k_is)
    (case l17 => k_is)
    (case c17 => k_is)
    (case k17 => k_is)
    (case a18 => k_is)
    (case l18 => k_is)
    (case c18 => k_is)
    (case k18 => k_is)
    (case a19 => k_is)
    (case l19 => k_is)
    (case c19 => k_is)
    (case k19 => k_is)
    (case a20 => k_is)
    (case l20 => k_is)
    (case c20 => k_is)
    (case k20 => k_is)
    (case a21 => k_is)
    (case l21 => k_is)
    (case c21 => k_is)
    (case k21 => k_is)
    (case a22 => k_is)
    (case l22 => k_is)
    (case c22 => k_is)
    (case k22 => k_is)
    (case a23 => k_is)
    (case l23 => k_is)
    (case c23 => k_is)
    (case k23 => k_is)
    (case a24 => k_is)
    (case l24 => k_is)
    (case c24 => k_is)
    (case k24 => k_is)
    (case a25 => k_is)
    (case l25 => k_is)
    (case c25 => k_is)
    (case k25 => k_is)
    (case lc25 => k_is)
    (case pp25 => rfl)
    (case np25 => first | k_is | rfl | (with_unfolding_all rfl) | decide +kernel)
    (case a26 => k_is)
    (case l26 => k_is)
    (case c26 => k_is)
    (case k26 => k_is)
    (case a27 => k_is)
    (case l27 => k_is)
    (case c27 => k_is)
    (case k27 => k_is)
    (case a28 => k_is)
    (case l28 => k_is)
    (case c28 => k_is)
    (case k28 => k_is)
    (case a29 => k_is)
    (case l29 => k_is)
    (case c29 => k_is)
    (case k29 => k_is)
    (case a30 => k_is)
    (case l30 => k_is)
    (case c30 => k_is)
    (case k30 => k_is)
    (case a31 => k_is)
    (case l31 => k_is)
    (case c31 => k_is)
    (case k31 => k_is)
    (case a32 => k_is)
    (case l32 => k_is)
    (case c32 => k_is)
    (case k32 => k_is)
    (case a33 => k_is)
    (case l33 => k_is)
    (case c33 => k_is)
    (case k33 => k_is)
    (case a34 => k_is)
    (case l34 => k_is)
    (case c34 => k_is)
    (case k34 => k_is)
    (case a35 => k_is)
    (case l35 => k_is)
    (case c35 => k_is)
    (case k35 => k_is)
    (case a36 => k_is)
    (case l36 => k_is)
    (case c36 => k_is)
    (case k36 => k_is)
    (case a37 => k_is)
    (case l37 => k_is)
    (case c37 => k_is)
    (case k37 => k_is)
    (case a38 => k_is)
    (case l38 => k_is)
    (case c38 => k_is)
    (case k38 => k_is)
    (case a39 => k_is)
    (case l39 => k_is)
    (case c39 => k_is)
    (case k39 => k_is)
    (case a40 => k_is)
    (case l40 => k_is)
    (case c40 => k_is)
    (case k40 => k_is)
    (case a41 => k_is)
    (case l41 => k_is)
    (case c41 => k_is)
    (case k41 => k_is)
    (case a42 => k_is)
    (case l42 => k_is)
    (case c42 => k_is)
    (case k42 => k_is)
    (case a43 => k_is)
    (case l43 => k_is)
    (case c43 => k_is)
    (case k43 => k_is)
    (case a44 => k_is)
    (case l44 => k_is)
    (case c44 => k_is)
    (case k44 => k_is)
    (case a45 => k_is)
    (case l45 => k_is)
    (case c45 => k_is)
    (case k45 => k_is)
    (case a46 => k_is)
    (case l46 => k_is)
    (case c46 => k_is)
    (case k46 => k_is)
    (case a47 => k_is)
    (case l47 => k_is)
    (case c47 => k_is)
    (case k47 => k_is)
    (case a48 => k_is)
    (case l48 => k_is)
    (case c48 => k_is)
    (case k48 => k_is)
    (case a49 => k_is)
    (case l49 => k_is)
    (case c49 => k_is)
    (case k49 => k_is)
    (case a50 => k_is)
    (case l50 => k_is)
    (case c50 => k_is)
    (case k50 => k_is)
    (case a51 => k_is)
    (case l51 => k_is)
    (case c51 => k_is)
    (case k51 => k_is)
    (case a52 => k_is)
    (case l52 => k_is)
    (case c52 => k_is)
    (case k52 => k_is)
    (case a53 => k_is)
    (case l53 => k_is)
    (case c53 => k_is)
    (case k53 => k_is)
    (case a54 => k_is)
    (case l54 => k_is)
    (case c54 => k_is)
    (case k54 => k_is)
    (case a55 => k_is)
    (case l55 => k_is)
    (case c55 => k_is)
    (case k55 => k_is)
    (case a56 => k_is)
    (case l56 => k_is)
    (case c56 => k_is)
    (case k56 => k_is)
    (case a57 => k_is)
    (case l57 => k_is)
    (case c57 => k_is)
    (case k57 => k_is)
    (case a58 => k_is)
    (case l58 => k_is)
    (case c58 => k_is)
    (case k58 => k_is)
    (case a59 => k_is)
    (case l59 => k_is)
    (case c59 => k_is)
    (case k59 => k_is)
    (case aOn => k_is)
    (case lO => k_is)
    (case aMn => k_is)
    (case lM => k_is)
    (case aNn => k_is)
    (case lN => k_is)
    (case aSb => k_is)
    (case z_ValueError => k_is)
    (case z_abs => k_is)
    (case z_all => k_is)
    (case z_any => k_is)
    (case z_bool => k_is)
    (case z_dict => k_is)
    (case z_enumerate => k_is)
    (case z_int => k_is)
    (case z_isinstance => k_is)
    (case z_len => k_is)
    (case z_list => k_is)
    (case z_min => k_is)
    (case z_range => k_is)
    (case z_sorted => k_is)
    (case z_str => k_is)
    (case z_tuple => k_is)
    (case g_C => k_is)
    (case x_C => first | k_is | k_exc | rfl | decide +kernel)
    (case k_C => k_is)
    (case b_C => k_is)
    (case t_C => k_is)
    (case dp12_25 => first | decide | decide +kernel | (intro z; cases z))
    (case dp25_12 => first | decide | decide +kernel | (intro z; cases z))
