/- A net that copies a file: begun. Scripts of the statements that do not ask the document's answer: play, over the twin. All pull from all: rounds; have two replicas the same files: alike. Over the twin. One path that one replica alone writes: what each replica has of it is what its owner had at the time that it knows of (pure). One path that one replica alone writes, in a net: what each step leaves of it (pure). One path that one replica alone writes, in a net: its owner's writing and removing; a pull of all (pure). Each path written by its own replica alone: the whole net (pure). Rounds of pulls with whatever is kept by them; conflicts counted. Over the twin. The states of a net that has begun may be. -/
import Derived.Test.YtaelaldmibgibaaGreatS32
import Derived.Test.YtaelaldmibgibaaGreatS25
import Derived.Test.YtaelaldmibgibaaGreatS30
import Derived.BigQuiet
import Derived.Deep.QuietTactic

set_option linter.unusedVariables false
set_option linter.unusedSimpArgs false
set_option linter.unusedSectionVars false

namespace Go.Proofs.YtaelaldmibgibaaGreat
open Go.RowKit Go.Sim

def neCh (x y : Value) : Sem Value := binOp .neq 66 x y
theorem neChange (x y : Value) : binOp .neq 66 x y = neCh x y := rfl
theorem run_neCh (w : World) : (neCh (.agg #[.int .i64 1, .string ⟨#[102, 105, 114, 115, 116]⟩, .int .i64 1]) (.agg #[.int .i64 1, .string ⟨#[102, 105, 114, 115, 116]⟩, .int .i64 1])).run (twin Tryz.prog pl) w = .ok (.bool false) w := by kernel_rfl
@[simp] theorem q_call8 (args : Array Value) (w : World) : (callFunc 8 args).run (twin Tryz.prog pl) w = .ok (.enter 8 args) w := q_call (by decide) args w
@[simp] theorem q_call10 (args : Array Value) (w : World) : (callFunc 10 args).run (twin Tryz.prog pl) w = .ok (.enter 10 args) w := q_call (by decide) args w
@[simp] theorem q_call19 (args : Array Value) (w : World) : (callFunc 19 args).run (twin Tryz.prog pl) w = .ok (.enter 19 args) w := q_call (by decide) args w
@[simp] theorem q_call20 (args : Array Value) (w : World) : (callFunc 20 args).run (twin Tryz.prog pl) w = .ok (.enter 20 args) w := q_call (by decide) args w
@[simp] theorem q_call21 (args : Array Value) (w : World) : (callFunc 21 args).run (twin Tryz.prog pl) w = .ok (.enter 21 args) w := q_call (by decide) args w
@[simp] theorem q_call23 (args : Array Value) (w : World) : (callFunc 23 args).run (twin Tryz.prog pl) w = .ok (.enter 23 args) w := q_call (by decide) args w
@[simp] theorem q_call24 (args : Array Value) (w : World) : (callFunc 24 args).run (twin Tryz.prog pl) w = .ok (.enter 24 args) w := q_call (by decide) args w
@[simp] theorem q_call25 (args : Array Value) (w : World) : (callFunc 25 args).run (twin Tryz.prog pl) w = .ok (.enter 25 args) w := q_call (by decide) args w
@[simp] theorem q_call26 (args : Array Value) (w : World) : (callFunc 26 args).run (twin Tryz.prog pl) w = .ok (.enter 26 args) w := q_call (by decide) args w
@[simp] theorem q_call27 (args : Array Value) (w : World) : (callFunc 27 args).run (twin Tryz.prog pl) w = .ok (.enter 27 args) w := q_call (by decide) args w
attribute [local go_sem ↓] neChange
attribute [local go_sem] run_neCh
set_option maxRecDepth 100000 in
set_option maxHeartbeats 1000000 in
theorem begun_any (n : Nat) (h2 : 2 ≤ n) (h6 : n ≤ 6) (w : World) (hx : Fixed w) :
    Calls (twin Tryz.prog pl) 15 #[.int .i64 n] w fun e w' => e = .returned (.pointer (some ⟨w.heap.size, 0, none⟩)) ∧ Ne w w' w.heap.size (begS n) [] := by
  have e0 : (newS n)[0]? = some zero0 := by unfold newS; rw [List.getElem?_replicate, if_pos (by omega)]; rfl
  have e1 : ((newS n).set 0 beg0)[1]? = some zero0 := by rw [List.getElem?_set_ne (by omega)]; unfold newS; rw [List.getElem?_replicate, if_pos (by omega)]; rfl
  have hnl : (newS n).length = n := by simp [newS]
  have e2 : ((newS n).set 0 beg0)[0]? = some beg0 := by rw [List.getElem?_set_self (by omega)]
  have e3 : (begS n)[1]? = some beg1 := by unfold begS; rw [List.getElem?_set_self (by simp; omega)]
  have C1 := hide (eNew n w (by omega) h6 hx)
  have C2 : Hid (∀ V, Ne w V w.heap.size (newS n) [] → Calls (twin Tryz.prog pl) 10 #[.pointer (some ⟨w.heap.size, 0, none⟩), .int .i64 0, .string pFirst, .string pText] V fun e w' => e = .returned (.int .i64 0) ∧ Ne w w' w.heap.size ((newS n).set 0 beg0) []) := fun V hV => by
    refine (eWrite hV 0 e0 pFirst pText in_first (by decide)).mono ?_
    rintro e w' ⟨rfl, hN, _⟩
    exact ⟨by rw [beg_a], hN⟩
  have C3 : Hid (∀ V, Ne w V w.heap.size ((newS n).set 0 beg0) [] → Calls (twin Tryz.prog pl) 22 #[.pointer (some ⟨w.heap.size, 0, none⟩), .int .i64 1, .int .i64 0] V fun e w' => ∃ g cap, e = .returned (.tuple #[.slice (some ⟨g, 0, none⟩) 1 cap, .int .i64 0]) ∧ Ne w w' w.heap.size (begS n) [] ∧ w'.ownsRow 0 66 3 (.slice (some ⟨g, 0, none⟩) 1 cap) 1 [.int .i64 1, .string pFirst, .int .i64 1]) := fun V hV => by
    refine (ePull hV 1 0 (by omega) e1 e2).mono ?_
    rintro e w' ⟨rv, rfl, hN, _, hr⟩
    rw [beg_b]
    rw [beg_c] at hr
    obtain ⟨g, cap, rfl, _⟩ := World.ownsRow.form hr (by simp)
    exact ⟨g, cap, rfl, hN, ownsRow_base hr (fun _ _ => Nat.zero_le _)⟩
  have C4 : Hid (∀ V, Ne w V w.heap.size (begS n) [] → Calls (twin Tryz.prog pl) 25 #[.pointer (some ⟨w.heap.size, 0, none⟩), .int .i64 1, .string pFirst] V fun e w' => e = .returned (.tuple #[.string pText, .int .i64 0]) ∧ Ne w w' w.heap.size (begS n) [] ∧ Below V.heap.size V w') := fun V hV => by
    refine (eRead hV 1 e3 pFirst in_first).mono ?_
    rintro e w' ⟨rfl, hN, hb⟩
    rw [beg_d]
    exact ⟨rfl, hN, hb⟩
  unfold pFirst at C2 C3 C4
  unfold pText at C2 C4
  clear e0 e1 e2 e3 hx
  have eg : ∀ V, (eqGuard .neq 66 (.tmp 55) (.tmp 56) (.agg #[.int .i64 1, .string ⟨#[102, 105, 114, 115, 116]⟩, .int .i64 1]) (.agg #[.int .i64 1, .string ⟨#[102, 105, 114, 115, 116]⟩, .int .i64 1])).run (twin Tryz.prog pl) V = .ok () V := fun V => by kernel_rfl
  go_enter q_func15, Tryz.ntmps15
  go_wp2_with (first
    | (go_at_call 8; refine C1.out.mono ?_; rintro e w1 ⟨rfl, hN1⟩; have N1 := hide hN1; clear hN1)
    | (go_at_call 10; refine (C2.out _ N1.out).mono ?_; rintro e w2 ⟨rfl, hN2⟩; have N2 := hide hN2; clear hN2)
    | (go_at_call 22; refine (C3.out _ N2.out).mono ?_; rintro e w3 ⟨g, cap, rfl, hN3, ho3⟩; have N3 := hide hN3; have O3 := hide ho3; clear hN3 ho3)
    | (go_at_call 25; refine (C4.out _ N3.out).mono ?_; rintro e w4 ⟨rfl, hN4, hb4⟩; have N4 := hide hN4; have O4 := ownsRow_keep O3.out (fun k e => hb4.block k (World.ownsRow.lt O3.out k e).2); have k0 : w4.cell? ⟨g, 0, none⟩ = some (.int .i64 1) := (World.ownsRow.cellAt O4 0 (by decide)); have k1 : w4.cell? ⟨g, 1, none⟩ = some (.string ⟨#[102, 105, 114, 115, 116]⟩) := (World.ownsRow.cellAt O4 1 (by decide)); have k2 : w4.cell? ⟨g, 2, none⟩ = some (.int .i64 1) := (World.ownsRow.cellAt O4 2 (by decide)); clear hN4 hb4 O4))
  go_ret
  exact ⟨rfl, N4.out⟩
end Go.Proofs.YtaelaldmibgibaaGreat

namespace Go.Proofs.YtaelaldmibgibaaGreat
open Go.RowKit Go.Sim

theorem q_func16 : (twin Tryz.prog pl).funcs[16]? = some Tryz.f16 := tw_func Tryz.func16 (by decide) (by kernel_rfl)
@[simp] theorem q_call16 (args : Array Value) (w : World) : (callFunc 16 args).run (twin Tryz.prog pl) w = .ok (.enter 16 args) w := tw_call q_func16 (by kernel_rfl) (by kernel_rfl) args w
theorem add_block' (ad : Addr) (k : Nat) : (ad.add k).block = ad.block := by unfold Addr.add; split <;> rfl
theorem add_next (ad : Addr) (k j : Nat) (hj : j ≠ 0) : ad.add (k + j) = ⟨(ad.add k).block, (ad.add k).off + j, none⟩ := by
  by_cases hk : k = 0
  · subst hk
    simp [Addr.add, hj]
  · simp [Addr.add, hk, hj]
    omega
def inI (c : Int) : Prop := -9223372036854775808 ≤ c ∧ c < 9223372036854775808
structure StepAt (w : World) (ad : Addr) (i : Nat) (o : StepO) : Prop where
  lt : ad.block < w.heap.size
  c0 : w.cell? (ad.add (i * 5)) = some (.int .i64 o.what)
  c1 : w.cell? (ad.add (i * 5 + 1)) = some (.int .i64 o.r)
  c2 : w.cell? (ad.add (i * 5 + 2)) = some (.int .i64 o.f)
  c3 : w.cell? (ad.add (i * 5 + 3)) = some (.int .i64 o.path)
  c4 : w.cell? (ad.add (i * 5 + 4)) = some (.string o.text)
  r0 : inI o.what
  r1 : inI o.r
  r2 : inI o.f
  r3 : inI o.path
theorem StepAt.below {w w' : World} {ad : Addr} {i : Nat} {o : StepO} (h : StepAt w ad i o) (hb : Below w.heap.size w w') : StepAt w' ad i o := by
  have k : ∀ j, w'.cell? (ad.add j) = w.cell? (ad.add j) := fun j => hb.cell (by rw [add_block']; exact h.lt)
  exact ⟨Nat.lt_of_lt_of_le h.lt hb.size, (k _).trans h.c0, (k _).trans h.c1, (k _).trans h.c2, (k _).trans h.c3, (k _).trans h.c4, h.r0, h.r1, h.r2, h.r3⟩
theorem Keeps.trans {K : List Nat} {a b c : World} (h : Keeps K a b) (h' : Keeps K b c) : Keeps K a c := fun k hk => (h' k hk).trans (h k hk)
theorem Keeps.refl (K : List Nat) (w : World) : Keeps K w w := fun _ _ => rfl
theorem Ne.alloc {w0 w : World} {nb : Nat} {S : List RS} {K : List Nat} (h : Ne w0 w nb S K) (cs : Array Value) (t : TypeId) : Ne w0 (w.alloc (.cells cs t)) nb S K ∧ Keeps K w (w.alloc (.cells cs t)) :=
  h.more ((Below.refl _ _).alloc (Nat.le_refl _) _) (Fixed.alloc h.fix _ _)
section
variable {w0 : World} {nb : Nat} {S : List RS} {K : List Nat} {n : Nat} {o : StepO}
end
end Go.Proofs.YtaelaldmibgibaaGreat

namespace Go.Proofs.YtaelaldmibgibaaGreat
open Go.RowKit Go.Sim

theorem q_func17 : (twin Tryz.prog pl).funcs[17]? = some Tryz.f17 := tw_func Tryz.func17 (by decide) (by kernel_rfl)
@[simp] theorem q_call17 (args : Array Value) (w : World) : (callFunc 17 args).run (twin Tryz.prog pl) w = .ok (.enter 17 args) w := tw_call q_func17 (by kernel_rfl) (by kernel_rfl) args w
@[simp] theorem q_call18 (args : Array Value) (w : World) : (callFunc 18 args).run (twin Tryz.prog pl) w = .ok (.enter 18 args) w := q_call (by decide) args w
@[simp] theorem q_call39 (args : Array Value) (w : World) : (callFunc 39 args).run (twin Tryz.prog pl) w = .ok (.enter 39 args) w := q_call (by decide) args w
structure Rn (w0 w : World) (nb n : Nat) (B : Int) (K : List Nat) (S : List RS) : Prop where
  ne : Ne w0 w nb S K
  len : S.length = n
  wf : Wf B S
  iv : IvS S
theorem pull_len {B : Int} {x y : RS} {r f : Nat} (hx : Wf1 B x) (hy : Wf1 B y) (h0 : 0 ≤ B) : (plR r x f y).2.2.length ≤ 20 := by
  rw [(pl_wf hx hy h0).2.2.1]
  have q1 := (accP_len r x.cm x.E f y.cm y.E (unionK (x.E.map (·.1)) (y.E.map (·.1))) ([], [])).2
  have q2 := union_len (y.E.map (·.1)) (x.E.map (·.1))
  have q3 := hx.len
  have q4 := hy.len
  rw [List.length_map, List.length_map] at q2
  show ((unionK (x.E.map (·.1)) (y.E.map (·.1))).foldl (stepA r x.cm x.E f y.cm y.E) ([], [])).2.length ≤ _
  simp only [List.length_nil] at q1
  omega
end Go.Proofs.YtaelaldmibgibaaGreat

namespace Go.Proofs.YtaelaldmibgibaaGreat
open Go.RowKit Go.Sim
open Classical

structure Ver (o : Nat) (ver : Int → Rec) : Prop where
  o6 : o < 6
  v1 : ∀ t, 0 < (ver t).bn → (ver t).br = o ∧ (ver t).bn ≤ (ver t).ch o ∧ (ver t).ch o ≤ t ∧ ∀ j, j ≠ o → (ver t).ch j ≤ 0
  v2 : ∀ t u, 0 < (ver t).bn → (ver t).ch o ≤ u → u ≤ t → ver u = ver t
  v4 : ∀ t u, 0 < (ver t).bn → (ver t).bn ≤ u → u ≤ t → 0 < (ver u).bn ∧ (ver u).bn = (ver t).bn
structure Fit (o : Nat) (ver : Int → Rec) (a : Rec) : Prop where
  file : thereS a (ver (a.kn o))
  kn0 : ∀ j, 0 ≤ a.kn j
  z : ¬ 0 < a.bn → ∀ k, a.ch k = 0
theorem Fit.same {o : Nat} {ver : Int → Rec} {a : Rec} (h : Fit o ver a) (hb : 0 < a.bn) : sameF a (ver (a.kn o)) := by
  rcases h.file with ⟨q, _⟩ | q
  · exact absurd hb q
  · exact q
theorem Fit.none {o : Nat} {ver : Int → Rec} {a : Rec} (h : Fit o ver a) (hb : ¬ 0 < a.bn) : ¬ 0 < (ver (a.kn o)).bn := fun q => hb (h.file.bn.2 q)
theorem leB_of {a b : Nat → Int} (h : ∀ k, a k ≤ b k) (h0 : ∀ k, 0 ≤ b k) : leB a b = true := by
  have e : ∀ k, gboth a b k = b k := fun k => by
    have h1 := gboth_lo a b k
    have h2 := gboth_le (a := a) (b := b) (i := k) (h0 k) (h k) (Int.le_refl _)
    omega
  unfold leB eqT
  simp [e]
theorem leB_own {o : Nat} (ho : o < 6) {c k : Nat → Int} (hc : ∀ j, j ≠ o → c j ≤ 0) (hk : ∀ j, 0 ≤ k j) : leB c k = decide (c o ≤ k o) := by
  by_cases h : c o ≤ k o
  · rw [leB_of (fun j => by by_cases e : j = o; subst e; exact h; have := hc j e; have := hk j; omega) hk]
    simp [h]
  · have : leB c k ≠ true := fun q => h (leB_le q o ho)
    simp [h]
    simpa using this
theorem fit_pull {o : Nat} {ver : Int → Rec} (V : Ver o ver) {a b : Rec} (ha : Fit o ver a) (hb : Fit o ver b) :
    (pullR a b).2 ≠ 3 ∧ Fit o ver (pullR a b).1 ∧ (pullR a b).1.kn o = max (a.kn o) (b.kn o) := by
  have g0 : ∀ j, 0 ≤ gboth a.kn b.kn j := fun j => (gboth_lo _ _ j).1
  have gm : gboth a.kn b.kn o = max (a.kn o) (b.kn o) := gboth_max (ha.kn0 o)
  have hO := V.o6
  have fin : ∀ R : Rec, R.kn = gboth a.kn b.kn → thereS R (ver (max (a.kn o) (b.kn o))) → (¬ 0 < R.bn → ∀ k, R.ch k = 0) → Fit o ver R ∧ R.kn o = max (a.kn o) (b.kn o) := fun R e h hz => ⟨⟨by rw [e, gm]; exact h, fun j => by rw [e]; exact g0 j, hz⟩, by rw [e, gm]⟩
  by_cases pa : 0 < a.bn
  · have sa := ha.same pa
    have pa' : 0 < (ver (a.kn o)).bn := by rw [← sa.2.2.1]; exact pa
    obtain ⟨a1, a2, a3, a4⟩ := V.v1 _ pa'
    rw [← sa.2.1] at a1
    rw [← sa.2.2.1, ← sa.2.2.2] at a2
    rw [← sa.2.2.2] at a3 a4
    by_cases pb : 0 < b.bn
    · have sb := hb.same pb
      have pb' : 0 < (ver (b.kn o)).bn := by rw [← sb.2.2.1]; exact pb
      obtain ⟨b1, b2, b3, b4⟩ := V.v1 _ pb'
      rw [← sb.2.1] at b1
      rw [← sb.2.2.1, ← sb.2.2.2] at b2
      rw [← sb.2.2.2] at b3 b4
      have hs : isStr b a = false := by unfold isStr; simp [pb]
      have hw : whatP a b = inB a b := by unfold whatP; rw [if_pos (by simp [pa, pb])]
      have l1 := leB_own hO (c := b.ch) (k := a.kn) b4 ha.kn0
      have l2 := leB_own hO (c := a.ch) (k := b.kn) a4 hb.kn0
      have ver_eq : ver (a.kn o) = ver (b.kn o) → isVer a b = true := fun e => by
        unfold isVer eqT
        rw [e] at sa
        simp only [Bool.and_eq_true, beq_iff_eq]
        refine ⟨⟨by rw [sa.2.1, sb.2.1], by rw [sa.2.2.1, sb.2.2.1]⟩, ?_⟩
        rw [sa.2.2.2, sb.2.2.2]
        exact ⟨rfl, rfl, rfl, rfl, rfl, rfl⟩
      by_cases hv : isVer a b = true
      · have hi : inB a b = 0 := by unfold inB; rw [if_pos hv]
        unfold pullR
        rw [hs, hw, hi]
        simp only [Bool.false_eq_true, if_false]
        rw [if_neg (by decide), if_neg (by decide), if_neg (by decide)]
        refine ⟨by simp, fin _ rfl ?_ (by first | exact ha.z | exact hb.z | exact fun _ _ => rfl)⟩
        rcases Int.le_total (a.kn o) (b.kn o) with q | q
        · rw [Int.max_eq_right q]
          right
          unfold isVer at hv
          simp only [Bool.and_eq_true, beq_iff_eq] at hv
          have ec := eqT_iff hv.2 o hO
          have : ver (a.kn o) = ver (b.kn o) := V.v2 _ _ pb' (by rw [← sb.2.2.2, ← ec]; exact a3) q
          rw [← this]
          exact ⟨sa.1, sa.2.1, sa.2.2.1, sa.2.2.2⟩
        · rw [Int.max_eq_left q]
          exact .inr ⟨sa.1, sa.2.1, sa.2.2.1, sa.2.2.2⟩
      · rcases Int.lt_or_le (b.kn o) (a.kn o) with q | q
        · have q1 : b.ch o ≤ a.kn o := by omega
          have q2 : ¬ a.ch o ≤ b.kn o := fun h => hv (ver_eq (V.v2 _ _ pa' (by rw [← sa.2.2.2]; exact h) (by omega)).symm)
          have hi : inB a b = 0 := by
            unfold inB
            rw [if_neg hv, l1, l2]
            simp [q1, q2]
          unfold pullR
          rw [hs, hw, hi]
          simp only [Bool.false_eq_true, if_false]
          rw [if_neg (by decide), if_neg (by decide), if_neg (by decide)]
          refine ⟨by simp, fin _ rfl ?_ (by first | exact ha.z | exact hb.z | exact fun _ _ => rfl)⟩
          rw [Int.max_eq_left (by omega)]
          exact .inr ⟨sa.1, sa.2.1, sa.2.2.1, sa.2.2.2⟩
        · have q1 : a.ch o ≤ b.kn o := by omega
          have q2 : ¬ b.ch o ≤ a.kn o := fun h => hv (ver_eq (V.v2 _ _ pb' (by rw [← sb.2.2.2]; exact h) q))
          have hi : inB a b = 1 := by
            unfold inB
            rw [if_neg hv, l1, l2]
            simp [q1, q2]
          unfold pullR
          rw [hs, hw, hi]
          simp only [Bool.false_eq_true, if_false]
          rw [if_neg (by decide), if_pos (by trivial)]
          refine ⟨by simp, fin _ rfl ?_ (by first | exact ha.z | exact hb.z | exact fun _ _ => rfl)⟩
          rw [Int.max_eq_right q]
          exact .inr ⟨sb.1, sb.2.1, sb.2.2.1, sb.2.2.2⟩
    · have nb := hb.none pb
      by_cases hst : isStr b a = true
      · have hlt : b.kn o < a.bn := by
          unfold isStr hasB at hst
          simp only [Bool.and_eq_true, Bool.not_eq_true', decide_eq_false_iff_not] at hst
          have := hst.2
          rw [a1] at this
          simp at this
          omega
        unfold pullR
        rw [if_pos hst]
        exact ⟨by simp, ha, by simp only; omega⟩
      · have hge : a.bn ≤ b.kn o := by
          unfold isStr hasB at hst
          rw [a1] at hst
          simp [pa, pb] at hst
          omega
        have hle : a.kn o ≤ b.kn o := by
          rcases Int.lt_or_le (b.kn o) (a.kn o) with q | q
          · exact absurd (V.v4 _ _ pa' (by rw [← sa.2.2.1]; exact hge) (by omega)).1 nb
          · exact q
        have l2 := leB_own hO (c := a.ch) (k := b.kn) a4 hb.kn0
        have hi : whatP a b = 2 := by
          unfold whatP inT
          have : a.ch o ≤ b.kn o := by omega
          rw [l2]
          simp [pa, pb, this]
        unfold pullR
        rw [if_neg hst, hi]
        rw [if_neg (by decide), if_neg (by decide), if_pos rfl]
        refine ⟨by simp, fin _ rfl ?_ (by first | exact ha.z | exact hb.z | exact fun _ _ => rfl)⟩
        rw [Int.max_eq_right hle]
        exact .inl ⟨by simp, nb⟩
  · have na := ha.none pa
    have hs : isStr b a = false := by unfold isStr; simp [pa]
    by_cases pb : 0 < b.bn
    · have sb := hb.same pb
      have pb' : 0 < (ver (b.kn o)).bn := by rw [← sb.2.2.1]; exact pb
      obtain ⟨b1, b2, b3, b4⟩ := V.v1 _ pb'
      rw [← sb.2.1] at b1
      rw [← sb.2.2.1, ← sb.2.2.2] at b2
      rw [← sb.2.2.2] at b3 b4
      have l1 := leB_own hO (c := b.ch) (k := a.kn) b4 ha.kn0
      have hw : whatP a b = inF a b := by unfold whatP; simp [pa, pb]
      by_cases q1 : b.ch o ≤ a.kn o
      · have hi : inF a b = 0 := by unfold inF; rw [l1]; simp [q1]
        have q : ¬ a.kn o ≤ b.kn o := fun q => na (by rw [V.v2 _ _ pb' (by rw [← sb.2.2.2]; exact q1) q]; exact pb')
        unfold pullR
        rw [hs, hw, hi]
        simp only [Bool.false_eq_true, if_false]
        rw [if_neg (by decide), if_neg (by decide), if_neg (by decide)]
        refine ⟨by simp, fin _ rfl ?_ (by first | exact ha.z | exact hb.z | exact fun _ _ => rfl)⟩
        rw [Int.max_eq_left (by omega)]
        exact .inl ⟨pa, na⟩
      · have q2 : ¬ b.bn ≤ a.kn o := fun h => na (V.v4 _ _ pb' (by rw [← sb.2.2.1]; exact h) (by omega)).1
        have hi : inF a b = 1 := by
          unfold inF hasB
          rw [l1, b1]
          simp [q1]
          omega
        unfold pullR
        rw [hs, hw, hi]
        simp only [Bool.false_eq_true, if_false]
        rw [if_neg (by decide), if_pos (by trivial)]
        refine ⟨by simp, fin _ rfl ?_ (by first | exact ha.z | exact hb.z | exact fun _ _ => rfl)⟩
        rw [Int.max_eq_right (by omega)]
        exact .inr ⟨sb.1, sb.2.1, sb.2.2.1, sb.2.2.2⟩
    · have nb := hb.none pb
      have hw : whatP a b = 0 := by unfold whatP; simp [pa, pb]
      unfold pullR
      rw [hs, hw]
      simp only [Bool.false_eq_true, if_false]
      rw [if_neg (by decide), if_neg (by decide), if_neg (by decide)]
      refine ⟨by simp, fin _ rfl (.inl ⟨pa, ?_⟩) ha.z⟩
      rcases Int.le_total (a.kn o) (b.kn o) with q | q
      · rw [Int.max_eq_right q]; exact nb
      · rw [Int.max_eq_left q]; exact na
end Go.Proofs.YtaelaldmibgibaaGreat

namespace Go.Proofs.YtaelaldmibgibaaGreat
open Go.RowKit Go.Sim
open Classical

structure Ps (n : Nat) (S : List RS) (p : ByteArray) (o : Nat) (ver : Int → Rec) : Prop where
  V : Ver o ver
  len : S.length = n
  n6 : n ≤ 6
  lt : o < n
  fit : ∀ i < n, Fit o ver (vw i (S.getD i rs0) p)
  le : ∀ i < n, (vw i (S.getD i rs0) p).kn o ≤ CS S o
  cm : ∀ i < n, (S.getD i rs0).cm o ≤ CS S o
theorem vw_own (i : Nat) (x : RS) (p : ByteArray) : (vw i x p).kn i = x.cm i := by
  unfold vw
  cases getE p x.E with
  | none => rfl
  | some R => show upT R.kn i (x.cm i) i = _; unfold upT; rw [if_pos rfl]
theorem vw_other {B : Int} {x : RS} (hx : Wf1 B x) {i : Nat} (hi : i < 6) {p q : ByteArray} (hpq : p ≠ q) (R : Rec) : sameF (vw i ⟨nxG i x.cm, keepE (nxG i x.cm) q R x.E⟩ p) (vw i x p) ∧ (∀ j, j ≠ i → (vw i ⟨nxG i x.cm, keepE (nxG i x.cm) q R x.E⟩ p).kn j = (vw i x p).kn j) ∧ (vw i ⟨nxG i x.cm, keepE (nxG i x.cm) q R x.E⟩ p).kn i = x.cm i + 1 := by
  have e : vw i ⟨nxG i x.cm, keepE (nxG i x.cm) q R x.E⟩ p = recG i (nxG i x.cm) (getE p x.E) := by
    unfold vw
    show recG i (nxG i x.cm) (getE p (keepE (nxG i x.cm) q R x.E)) = _
    rw [get_keep hx.ris, if_neg hpq]
  have hs := nxG_self i hi x.cm (hx.lo i)
  have ho : ∀ j, j ≠ i → nxG i x.cm j = x.cm j := fun j hj => by
    unfold nxG
    rw [gboth_max (hx.lo j), tf_eq _ _ _ hi, if_neg hj]
    have := hx.lo j
    omega
  rw [e]
  refine ⟨?_, fun j hj => ?_, ?_⟩
  · exact (recG_fl i _ x.E p).trans (recG_fl i _ x.E p).symm
  · unfold vw
    cases getE p x.E with
    | none => exact ho j hj
    | some R => show upT R.kn i _ j = upT R.kn i _ j; unfold upT; rw [if_neg hj, if_neg hj]
  · cases getE p x.E with
    | none => exact hs
    | some R => show upT R.kn i (nxG i x.cm i) i = _; unfold upT; rw [if_pos rfl, hs]
theorem vw_this {B : Int} {x : RS} (hx : Wf1 B x) {i : Nat} (hi : i < 6) {p : ByteArray} (R : Rec) (hk0 : ∀ j, 0 ≤ R.kn j) : thereS (vw i ⟨nxG i x.cm, keepE (nxG i x.cm) p R x.E⟩ p) R ∧ (vw i ⟨nxG i x.cm, keepE (nxG i x.cm) p R x.E⟩ p).kn i = x.cm i + 1 ∧ (∀ j, 0 ≤ (vw i ⟨nxG i x.cm, keepE (nxG i x.cm) p R x.E⟩ p).kn j) ∧ (¬ 0 < (vw i ⟨nxG i x.cm, keepE (nxG i x.cm) p R x.E⟩ p).bn → (¬ 0 < R.bn → ∀ k, R.ch k = 0) → ∀ k, (vw i ⟨nxG i x.cm, keepE (nxG i x.cm) p R x.E⟩ p).ch k = 0) := by
  have e : vw i ⟨nxG i x.cm, keepE (nxG i x.cm) p R x.E⟩ p = recG i (nxG i x.cm) (kept (nxG i x.cm) R) := by
    unfold vw
    show recG i (nxG i x.cm) (getE p (keepE (nxG i x.cm) p R x.E)) = _
    rw [get_keep hx.ris, if_pos rfl]
  have hs := nxG_self i hi x.cm (hx.lo i)
  rw [e]
  rcases kept_file (nxG i x.cm) R with q | ⟨q, hn⟩
  · rw [q]
    refine ⟨.inr ⟨rfl, rfl, rfl, rfl⟩, ?_, fun j => ?_, fun h hz => hz h⟩
    · show upT R.kn i (nxG i x.cm i) i = _
      unfold upT; rw [if_pos rfl, hs]
    · show 0 ≤ upT R.kn i (nxG i x.cm i) j
      unfold upT
      split
      · exact nxG_lo _ _ _
      · exact hk0 j
  · rw [q]
    exact ⟨.inl ⟨by simp [recG], hn⟩, hs, fun j => nxG_lo _ _ _, fun _ _ _ => rfl⟩
theorem CS_set_ne {S : List RS} {r o : Nat} (h : r ≠ o) (x : RS) : CS (S.set r x) o = CS S o := by unfold CS; rw [getD_set_ne h]
theorem Ps.other {n : Nat} {S : List RS} {p : ByteArray} {o : Nat} {ver : Int → Rec} (h : Ps n S p o ver) {B : Int} (hW : Wf B S) {r : Nat} (hr : r < n) (hro : r ≠ o) {q : ByteArray} (hpq : p ≠ q) (R : Rec) : Ps n (S.set r ⟨nxG r (S.getD r rs0).cm, keepE (nxG r (S.getD r rs0).cm) q R (S.getD r rs0).E⟩) p o ver := by
  have hl := h.len
  have h6 := h.n6
  have hx := hW.at (getD_at (S := S) (r := r) (by omega))
  obtain ⟨v1, v2, v3⟩ := vw_other hx (i := r) (by omega) hpq R
  refine ⟨h.V, by rw [List.length_set]; exact hl, h.n6, h.lt, fun i hi => ?_, fun i hi => ?_, fun i hi => ?_⟩
  · by_cases e : r = i
    · subst e
      rw [getD_set_self (by omega)]
      have hf := h.fit r hr
      refine ⟨?_, fun j => ?_, fun hn => ?_⟩
      · rw [v2 o (fun e => hro e.symm)]
        exact thereS.trans (.inr v1) hf.file
      · by_cases ej : j = r
        · subst ej; rw [v3]; have := hx.lo j; omega
        · rw [v2 j ej]; exact hf.kn0 j
      · rw [v1.2.2.2]; exact hf.z (by rw [← v1.2.2.1]; exact hn)
    · rw [getD_set_ne e]; exact h.fit i hi
  · rw [CS_set_ne hro]
    by_cases e : r = i
    · subst e
      rw [getD_set_self (by omega), v2 o (fun e => hro e.symm)]
      exact h.le r hr
    · rw [getD_set_ne e]; exact h.le i hi
  · rw [CS_set_ne hro]
    by_cases e : r = i
    · subst e
      rw [getD_set_self (by omega)]
      show nxG r _ o ≤ _
      unfold nxG
      rw [gboth_max (hx.lo o), tf_eq _ _ _ (by omega), if_neg (fun e => hro e.symm)]
      have := h.cm r hr
      have := hx.lo o
      omega
    · rw [getD_set_ne e]; exact h.cm i hi
theorem Ps.own {n : Nat} {S : List RS} {p : ByteArray} {o : Nat} {ver : Int → Rec} (h : Ps n S p o ver) {B : Int} (hW : Wf B S) {x' : RS} (hx' : ∀ j, x'.cm j = nxG o (S.getD o rs0).cm j) (N : Rec) (hV : Ver o (fun u => if CS S o + 1 ≤ u then N else ver u)) (hf : thereS (vw o x' p) N) (hk : (vw o x' p).kn o = CS S o + 1) (h0 : ∀ j, 0 ≤ (vw o x' p).kn j) (hz : ¬ 0 < (vw o x' p).bn → ∀ k, (vw o x' p).ch k = 0) : Ps n (S.set o x') p o (fun u => if CS S o + 1 ≤ u then N else ver u) := by
  have hl := h.len
  have h6 := h.n6
  have hlt := h.lt
  have hx := hW.at (getD_at (S := S) (r := o) (by omega))
  have hc : CS (S.set o x') o = CS S o + 1 := by
    unfold CS
    rw [getD_set_self (by omega), hx']
    exact nxG_self o (by omega) _ (hx.lo o)
  refine ⟨hV, by rw [List.length_set]; exact hl, h.n6, h.lt, fun i hi => ?_, fun i hi => ?_, fun i hi => ?_⟩
  · by_cases e : o = i
    · subst e
      rw [getD_set_self (by omega)]
      refine ⟨?_, h0, hz⟩
      rw [hk]
      simp only [Int.le_refl, if_true]
      exact hf
    · rw [getD_set_ne e]
      have hfi := h.fit i hi
      have hle := h.le i hi
      refine ⟨?_, hfi.kn0, hfi.z⟩
      rw [if_neg (by omega)]
      exact hfi.file
  · rw [hc]
    by_cases e : o = i
    · subst e
      rw [getD_set_self (by omega), hk]
      exact Int.le_refl _
    · rw [getD_set_ne e]
      have := h.le i hi
      omega
  · rw [hc]
    by_cases e : o = i
    · subst e
      rw [getD_set_self (by omega), hx', nxG_self o (by omega) _ (hx.lo o)]
      exact Int.le_refl _
    · rw [getD_set_ne e]
      have := h.cm i hi
      omega
theorem Ps.cur {n : Nat} {S : List RS} {p : ByteArray} {o : Nat} {ver : Int → Rec} (h : Ps n S p o ver) : thereS (vw o (S.getD o rs0) p) (ver (CS S o)) := by
  have := (h.fit o h.lt).file
  rw [vw_own] at this
  exact this
theorem Ps.away {n : Nat} {S : List RS} {p : ByteArray} {o : Nat} {ver : Int → Rec} (h : Ps n S p o ver) {B : Int} (hW : Wf B S) {q : ByteArray} (hpq : p ≠ q) (R : Rec) : ∃ ver', Ps n (S.set o ⟨nxG o (S.getD o rs0).cm, keepE (nxG o (S.getD o rs0).cm) q R (S.getD o rs0).E⟩) p o ver' := by
  have hl := h.len
  have h6 := h.n6
  have hlt := h.lt
  have hx := hW.at (getD_at (S := S) (r := o) (by omega))
  obtain ⟨v1, v2, v3⟩ := vw_other hx (i := o) (by omega) hpq R
  have hc : (S.getD o rs0).cm o = CS S o := rfl
  have hfo := h.fit o h.lt
  refine ⟨_, h.own hW (fun j => rfl) (ver (CS S o)) ⟨by omega, fun t ht => ?_, fun t u ht hu hut => ?_, fun t u ht hu hut => ?_⟩ (thereS.trans (.inr v1) h.cur) v3 (fun j => ?_) (fun hn => ?_)⟩
  · by_cases e : CS S o + 1 ≤ t
    · simp only [if_pos e] at ht ⊢
      obtain ⟨a, b, c, d⟩ := h.V.v1 _ ht
      exact ⟨a, b, by omega, d⟩
    · simp only [if_neg e] at ht ⊢
      exact h.V.v1 _ ht
  · by_cases e : CS S o + 1 ≤ t
    · simp only [if_pos e] at ht hu ⊢
      by_cases e' : CS S o + 1 ≤ u
      · rw [if_pos e']
      · rw [if_neg e']; exact h.V.v2 _ _ ht hu (by omega)
    · simp only [if_neg e] at ht hu ⊢
      rw [if_neg (by omega)]
      exact h.V.v2 _ _ ht hu hut
  · by_cases e : CS S o + 1 ≤ t
    · simp only [if_pos e] at ht hu ⊢
      by_cases e' : CS S o + 1 ≤ u
      · rw [if_pos e']; exact ⟨ht, rfl⟩
      · rw [if_neg e']; exact h.V.v4 _ _ ht hu (by omega)
    · simp only [if_neg e] at ht hu ⊢
      rw [if_neg (by omega)]
      exact h.V.v4 _ _ ht hu hut
  · by_cases ej : j = o
    · subst ej; rw [v3]; have := hx.lo j; omega
    · rw [v2 j ej]; exact hfo.kn0 j
  · rw [v1.2.2.2]; exact hfo.z (by rw [← v1.2.2.1]; exact hn)
end Go.Proofs.YtaelaldmibgibaaGreat

namespace Go.Proofs.YtaelaldmibgibaaGreat
open Go.RowKit Go.Sim
open Classical

theorem Ps.write {n : Nat} {S : List RS} {p : ByteArray} {o : Nat} {ver : Int → Rec} (h : Ps n S p o ver) {B : Int} (hW : Wf B S) (t : ByteArray) : (∃ ver', Ps n (S.set o ⟨nxG o (S.getD o rs0).cm, keepE (nxG o (S.getD o rs0).cm) p (writtenG o ((S.getD o rs0).cm o + 1) t (vw o (S.getD o rs0) p)) (S.getD o rs0).E⟩) p o ver') ∧ rdR o ⟨nxG o (S.getD o rs0).cm, keepE (nxG o (S.getD o rs0).cm) p (writtenG o ((S.getD o rs0).cm o + 1) t (vw o (S.getD o rs0) p)) (S.getD o rs0).E⟩ p = (t, 0) := by
  have hl := h.len
  have h6 := h.n6
  have hlt := h.lt
  have hx := hW.at (getD_at (S := S) (r := o) (by omega))
  have hfo := h.fit o h.lt
  have hcur := h.cur
  have hc : (S.getD o rs0).cm o = CS S o := rfl
  have lo := hx.lo o
  have hown := vw_own o (S.getD o rs0) p
  generalize hR0 : vw o (S.getD o rs0) p = R0 at *
  have ech : ∀ j, (writtenG o ((S.getD o rs0).cm o + 1) t R0).ch j = gboth R0.ch (tf o ((S.getD o rs0).cm o + 1)) j := fun j => rfl
  have ebn : (writtenG o ((S.getD o rs0).cm o + 1) t R0).bn = if 0 < R0.bn then R0.bn else (S.getD o rs0).cm o + 1 := rfl
  have ebr : (writtenG o ((S.getD o rs0).cm o + 1) t R0).br = if 0 < R0.bn then R0.br else (o : Int) := rfl
  have ekn : ∀ j, (writtenG o ((S.getD o rs0).cm o + 1) t R0).kn j = gboth R0.kn (tf o ((S.getD o rs0).cm o + 1)) j := fun j => rfl
  have etx : (writtenG o ((S.getD o rs0).cm o + 1) t R0).text = t := rfl
  have same : 0 < R0.bn → sameF R0 (ver (CS S o)) := fun q => by
    rcases hcur with ⟨q', _⟩ | q'
    · exact absurd q q'
    · exact q'
  have there : 0 < R0.bn → R0.br = o ∧ R0.bn ≤ R0.ch o ∧ R0.ch o ≤ CS S o ∧ ∀ j, j ≠ o → R0.ch j ≤ 0 := fun q => by
    have s := same q
    obtain ⟨a, b, c, d⟩ := h.V.v1 (CS S o) (by rw [← s.2.2.1]; exact q)
    exact ⟨by rw [s.2.1]; exact a, by rw [s.2.2.1, s.2.2.2]; exact b, by rw [s.2.2.2]; exact c, fun j hj => by rw [s.2.2.2]; exact d j hj⟩
  have cho : R0.ch o ≤ CS S o := by
    by_cases q : 0 < R0.bn
    · exact (there q).2.2.1
    · rw [hfo.z q o]; rw [hc] at lo; exact lo
  have chj : ∀ j, j ≠ o → R0.ch j ≤ 0 := fun j hj => by
    by_cases q : 0 < R0.bn
    · exact (there q).2.2.2 j hj
    · rw [hfo.z q j]; exact Int.le_refl _
  have tfo : tf o ((S.getD o rs0).cm o + 1) o = (S.getD o rs0).cm o + 1 := tf_self o _ (by omega)
  have eco : (writtenG o ((S.getD o rs0).cm o + 1) t R0).ch o = CS S o + 1 := by
    rw [ech]
    have h1 := gboth_lo R0.ch (tf o ((S.getD o rs0).cm o + 1)) o
    have h2 := gboth_le (a := R0.ch) (b := tf o ((S.getD o rs0).cm o + 1)) (i := o) (B := CS S o + 1) (by omega) (by omega) (by omega)
    omega
  have ecj : ∀ j, j ≠ o → (writtenG o ((S.getD o rs0).cm o + 1) t R0).ch j ≤ 0 := fun j hj => by
    rw [ech]
    exact gboth_le (by omega) (chj j hj) (by rw [tf_eq _ _ _ (by omega), if_neg hj]; exact Int.le_refl _)
  have pos : 0 < (writtenG o ((S.getD o rs0).cm o + 1) t R0).bn := by rw [ebn]; split <;> omega
  have bnle : (writtenG o ((S.getD o rs0).cm o + 1) t R0).bn ≤ CS S o + 1 := by
    rw [ebn]
    split
    · next q => have := there q; omega
    · omega
  obtain ⟨w1, w2, w3, w4⟩ := vw_this hx (i := o) (by omega) (p := p) (writtenG o ((S.getD o rs0).cm o + 1) t R0) (fun j => by rw [ekn]; exact (gboth_lo _ _ j).1)
  constructor
  · refine ⟨_, h.own hW (fun j => rfl) (writtenG o ((S.getD o rs0).cm o + 1) t R0) ⟨by omega, fun u hu => ?_, fun u v hu hv huv => ?_, fun u v hu hv huv => ?_⟩ w1 w2 w3 (fun hn => w4 hn (fun q => absurd pos q))⟩
    · by_cases e : CS S o + 1 ≤ u
      · simp only [if_pos e] at hu ⊢
        refine ⟨?_, by rw [eco]; exact bnle, by rw [eco]; exact e, ecj⟩
        rw [ebr]
        split
        · next q => exact (there q).1
        · rfl
      · simp only [if_neg e] at hu ⊢
        exact h.V.v1 _ hu
    · by_cases e : CS S o + 1 ≤ u
      · simp only [if_pos e] at hu hv ⊢
        rw [eco] at hv
        rw [if_pos hv]
      · simp only [if_neg e] at hu hv ⊢
        rw [if_neg (by omega)]
        exact h.V.v2 _ _ hu hv huv
    · by_cases e : CS S o + 1 ≤ u
      · simp only [if_pos e] at hu hv ⊢
        by_cases e' : CS S o + 1 ≤ v
        · rw [if_pos e']; exact ⟨pos, rfl⟩
        · rw [if_neg e']
          rw [ebn] at hv ⊢
          by_cases q : 0 < R0.bn
          · rw [if_pos q] at hv ⊢
            have s := same q
            have := h.V.v4 (CS S o) v (by rw [← s.2.2.1]; exact q) (by rw [← s.2.2.1]; exact hv) (by omega)
            exact ⟨this.1, by rw [this.2, s.2.2.1]⟩
          · rw [if_neg q] at hv
            omega
      · simp only [if_neg e] at hu hv ⊢
        rw [if_neg (by omega)]
        exact h.V.v4 _ _ hu hv huv
  · rw [rdR_rec]
    have sw : sameF (vw o ⟨nxG o (S.getD o rs0).cm, keepE (nxG o (S.getD o rs0).cm) p (writtenG o ((S.getD o rs0).cm o + 1) t R0) (S.getD o rs0).E⟩ p) (writtenG o ((S.getD o rs0).cm o + 1) t R0) := by
      rcases w1 with ⟨_, q⟩ | q
      · exact absurd pos q
      · exact q
    show rdRec (vw o ⟨nxG o (S.getD o rs0).cm, keepE (nxG o (S.getD o rs0).cm) p (writtenG o ((S.getD o rs0).cm o + 1) t R0) (S.getD o rs0).E⟩ p) = _
    unfold rdRec
    rw [sw.2.2.1, sw.1, if_pos (by simpa using pos), etx]
theorem Ps.remove {n : Nat} {S : List RS} {p : ByteArray} {o : Nat} {ver : Int → Rec} (h : Ps n S p o ver) {B : Int} (hW : Wf B S) : (∃ ver', Ps n (S.set o ⟨nxG o (S.getD o rs0).cm, keepE (nxG o (S.getD o rs0).cm) p (removedG o ((S.getD o rs0).cm o + 1) (vw o (S.getD o rs0) p)) (S.getD o rs0).E⟩) p o ver') ∧ rdR o ⟨nxG o (S.getD o rs0).cm, keepE (nxG o (S.getD o rs0).cm) p (removedG o ((S.getD o rs0).cm o + 1) (vw o (S.getD o rs0) p)) (S.getD o rs0).E⟩ p = (⟨#[]⟩, 4) := by
  have hl := h.len
  have h6 := h.n6
  have hlt := h.lt
  have hx := hW.at (getD_at (S := S) (r := o) (by omega))
  have hc : (S.getD o rs0).cm o = CS S o := rfl
  generalize vw o (S.getD o rs0) p = R0
  have nb : ¬ 0 < (removedG o ((S.getD o rs0).cm o + 1) R0).bn := by simp [removedG]
  obtain ⟨w1, w2, w3, w4⟩ := vw_this hx (i := o) (by omega) (p := p) (removedG o ((S.getD o rs0).cm o + 1) R0) (fun j => (gboth_lo _ _ j).1)
  constructor
  · refine ⟨_, h.own hW (fun j => rfl) (removedG o ((S.getD o rs0).cm o + 1) R0) ⟨by omega, fun u hu => ?_, fun u v hu hv huv => ?_, fun u v hu hv huv => ?_⟩ w1 w2 w3 (fun hn => w4 hn (fun _ _ => rfl))⟩
    · by_cases e : CS S o + 1 ≤ u
      · simp only [if_pos e] at hu; exact absurd hu nb
      · simp only [if_neg e] at hu ⊢; exact h.V.v1 _ hu
    · by_cases e : CS S o + 1 ≤ u
      · simp only [if_pos e] at hu; exact absurd hu nb
      · simp only [if_neg e] at hu hv ⊢
        rw [if_neg (by omega)]; exact h.V.v2 _ _ hu hv huv
    · by_cases e : CS S o + 1 ≤ u
      · simp only [if_pos e] at hu; exact absurd hu nb
      · simp only [if_neg e] at hu hv ⊢
        rw [if_neg (by omega)]; exact h.V.v4 _ _ hu hv huv
  · rw [rdR_rec]
    have nv := fun q => nb (w1.bn.1 q)
    show rdRec (vw o ⟨nxG o (S.getD o rs0).cm, keepE (nxG o (S.getD o rs0).cm) p (removedG o ((S.getD o rs0).cm o + 1) R0) (S.getD o rs0).E⟩ p) = _
    unfold rdRec
    rw [if_neg (by simpa using nv)]
theorem vw_pull {B : Int} {x y : RS} (hx : Wf1 B x) (hy : Wf1 B y) (h0 : 0 ≤ B) (r f : Nat) (p : ByteArray) :
    thereS (vw r (plR r x f y).2.1 p) (pullR (vw r x p) (vw f y p)).1 ∧ (∀ j < 6, j ≠ r → (vw r (plR r x f y).2.1 p).kn j = (pullR (vw r x p) (vw f y p)).1.kn j) ∧ (vw r (plR r x f y).2.1 p).kn r = gboth x.cm y.cm r ∧ (((∀ j, 0 ≤ (pullR (vw r x p) (vw f y p)).1.kn j)) → ∀ j, 0 ≤ (vw r (plR r x f y).2.1 p).kn j) ∧ ((¬ 0 < (pullR (vw r x p) (vw f y p)).1.bn → ∀ k, (pullR (vw r x p) (vw f y p)).1.ch k = 0) → ¬ 0 < (vw r (plR r x f y).2.1 p).bn → ∀ k, (vw r (plR r x f y).2.1 p).ch k = 0) := by
  have hp := (pl_wf (r := r) (f := f) hx hy h0).2.2.2
  have hE : RisingK (x.E.map (·.1)) := by
    unfold RisingK
    rw [List.pairwise_map]
    exact hx.ris
  obtain ⟨u1, u2⟩ := union_spec (y.E.map (·.1)) _ hE
  have hg := get_fold (s := r) (cm := x.cm) (E := x.E) (s' := f) (cm' := y.cm) (E' := y.E) p _ ([], []) List.Pairwise.nil u1
  have ev : vw r (plR r x f y).2.1 p = recG r (gboth x.cm y.cm) (getE p ((unionK (x.E.map (·.1)) (y.E.map (·.1))).foldl (stepA r x.cm x.E f y.cm y.E) ([], [])).1) := by
    unfold vw
    rw [hp]
    rfl
  have own : (vw r (plR r x f y).2.1 p).kn r = gboth x.cm y.cm r := by rw [vw_own, hp]
  refine ⟨?_, fun j hj hjr => ?_, own, ?_, ?_⟩
  all_goals rw [ev, hg]
  all_goals
    split
    · change _
      have e0 : (pullR (recG r x.cm (getE p x.E)) (recG f y.cm (getE p y.E))) = pullR (vw r x p) (vw f y p) := rfl
      rw [e0]
      generalize (pullR (vw r x p) (vw f y p)).1 = R
      first
        | (rcases kept_file (gboth x.cm y.cm) R with q | ⟨q, hn⟩
           · rw [q]; exact .inr ⟨rfl, rfl, rfl, rfl⟩
           · rw [q]; exact .inl ⟨by simp [recG], hn⟩)
        | (unfold kept
           split
           · show upT R.kn r _ j = R.kn j
             unfold upT
             rw [if_neg hjr]
           · next hk =>
             simp only [Bool.or_eq_true, not_or] at hk
             have : eqT R.kn (gboth x.cm y.cm) = true := by simpa using hk.2
             exact (eqT_iff this j hj).symm)
        | (intro hR j
           rcases kept_file (gboth x.cm y.cm) R with q | ⟨q, hn⟩
           · rw [q]
             show 0 ≤ upT R.kn r _ j
             unfold upT
             split
             · exact (gboth_lo _ _ _).1
             · exact hR j
           · rw [q]; exact (gboth_lo _ _ _).1)
        | (intro hR hn k
           rcases kept_file (gboth x.cm y.cm) R with q | ⟨q, hn'⟩
           · rw [q] at hn ⊢
             exact hR hn k
           · rw [q]; rfl)
    · next hu =>
      have hne : ∀ E : Recs, (p ∈ E.map (·.1) → False) → getE p E = none := fun E h => by
        cases hg : getE p E with
        | none => rfl
        | some R => exact (h (List.mem_map.2 ⟨_, mem_getE hg, rfl⟩)).elim
      have e1 : vw r x p = recG r x.cm none := by unfold vw; rw [hne x.E (fun h => hu ((u2 p).2 (.inl h)))]
      have e2 : vw f y p = recG f y.cm none := by unfold vw; rw [hne y.E (fun h => hu ((u2 p).2 (.inr h)))]
      have ep : (pullR (vw r x p) (vw f y p)).1 = ⟨⟨#[]⟩, 0, 0, fun _ => 0, gboth x.cm y.cm⟩ := by
        rw [e1, e2]
        unfold pullR
        have hs : isStr (recG f y.cm none) (recG r x.cm none) = false := by unfold isStr; simp [recG]
        have hw : whatP (recG r x.cm none) (recG f y.cm none) = 0 := by unfold whatP; simp [recG]
        rw [hs, hw]
        rfl
      rw [ep]
      first
        | exact .inl ⟨by simp [recG, getE], by simp⟩
        | rfl
        | exact fun _ j => (gboth_lo _ _ _).1
        | exact fun _ _ _ => rfl
end Go.Proofs.YtaelaldmibgibaaGreat

namespace Go.Proofs.YtaelaldmibgibaaGreat
open Go.RowKit Go.Sim
open Classical

theorem pullS_self {S : List RS} {r : Nat} (hr : r < S.length) (f : Nat) : (pullS S r f).getD r rs0 = (plR r (S.getD r rs0) f (S.getD f rs0)).2.1 := getD_set_self hr _
theorem pullS_ne {S : List RS} {r i : Nat} (h : r ≠ i) (f : Nat) : (pullS S r f).getD i rs0 = S.getD i rs0 := getD_set_ne h _
theorem Ps.pull {n : Nat} {S : List RS} {p : ByteArray} {o : Nat} {ver : Int → Rec} (h : Ps n S p o ver) {B : Int} (h0 : 0 ≤ B) (hW : Wf B S) {r f : Nat} (hr : r < n) (hf : f < n) :
    Ps n (pullS S r f) p o ver ∧ CS (pullS S r f) o = CS S o ∧ (pullR (vw r (S.getD r rs0) p) (vw f (S.getD f rs0) p)).2 ≠ 3 ∧ (vw f (S.getD f rs0) p).kn o ≤ (vw r ((pullS S r f).getD r rs0) p).kn o := by
  have hl := h.len
  have h6 := h.n6
  have hlt := h.lt
  have hx := hW.at (getD_at (S := S) (r := r) (by omega))
  have hy := hW.at (getD_at (S := S) (r := f) (by omega))
  have pw := (pl_wf (r := r) (f := f) hx hy h0).2.2.2
  obtain ⟨w1, w2, w3, w4, w5⟩ := vw_pull hx hy h0 r f p
  obtain ⟨f1, f2, f3⟩ := fit_pull h.V (h.fit r hr) (h.fit f hf)
  have hle := h.le f hf
  have hle' := h.le r hr
  have hcm := h.cm f hf
  have hcm' := h.cm r hr
  have hc : CS (pullS S r f) o = CS S o := by
    by_cases e : r = o
    · subst e
      unfold CS
      rw [pullS_self (by omega), pw]
      show gboth _ _ r = _
      rw [gboth_max (hx.lo r)]
      have e1 : CS S r = (S.getD r rs0).cm r := rfl
      rw [e1] at hcm
      omega
    · unfold CS; rw [pullS_ne e]
  have hk : (vw r ((pullS S r f).getD r rs0) p).kn o = (pullR (vw r (S.getD r rs0) p) (vw f (S.getD f rs0) p)).1.kn o := by
    rw [pullS_self (by omega)]
    by_cases e : r = o
    · subst e
      rw [w3, f3, vw_own, gboth_max (hx.lo r)]
      have e1 : CS S r = (S.getD r rs0).cm r := rfl
      rw [e1] at hcm hle
      omega
    · exact w2 o (by omega) (fun q => e q.symm)
  have fr : Fit o ver (vw r ((pullS S r f).getD r rs0) p) := by
    refine ⟨?_, ?_, ?_⟩
    · rw [hk]
      rw [pullS_self (by omega)]
      exact w1.trans f2.file
    · rw [pullS_self (by omega)]
      exact w4 f2.kn0
    · rw [pullS_self (by omega)]
      exact w5 f2.z
  refine ⟨⟨h.V, by rw [pullS_len]; exact hl, h.n6, h.lt, fun i hi => ?_, fun i hi => ?_, fun i hi => ?_⟩, hc, f1, by rw [hk, f3]; omega⟩
  · by_cases e : r = i
    · subst e; exact fr
    · rw [pullS_ne e]; exact h.fit i hi
  · rw [hc]
    by_cases e : r = i
    · subst e; rw [hk, f3]; omega
    · rw [pullS_ne e]; exact h.le i hi
  · rw [hc]
    by_cases e : r = i
    · subst e
      rw [pullS_self (by omega), pw]
      show gboth _ _ o ≤ _
      rw [gboth_max (hx.lo o)]
      omega
    · rw [pullS_ne e]; exact h.cm i hi
theorem rdRec_of {a b c : Rec} (h : thereS a c) (k : thereS b c) : rdRec a = rdRec b := by
  unfold rdRec
  by_cases q : 0 < c.bn
  · have ha := h.bn.2 q
    have hb := k.bn.2 q
    have sa : sameF a c := by
      rcases h with ⟨q', _⟩ | q'
      · exact absurd ha q'
      · exact q'
    have sb : sameF b c := by
      rcases k with ⟨q', _⟩ | q'
      · exact absurd hb q'
      · exact q'
    rw [if_pos (by simpa using ha), if_pos (by simpa using hb), sa.1, sb.1]
  · have ha : ¬ 0 < a.bn := fun z => q (h.bn.1 z)
    have hb : ¬ 0 < b.bn := fun z => q (k.bn.1 z)
    rw [if_neg (by simpa using ha), if_neg (by simpa using hb)]
def SpS (n : Nat) (ow : ByteArray → Nat) (S : List RS) : Prop := ∀ p ∈ PATHS, ∃ ver, Ps n S p (ow p) ver
def rdO (ow : ByteArray → Nat) (S : List RS) (p : ByteArray) : ByteArray × Int := rdR (ow p) (S.getD (ow p) rs0) p
section
variable {n : Nat} {ow : ByteArray → Nat} {S : List RS} {B : Int}
theorem SpS.pull (h : SpS n ow S) (h0 : 0 ≤ B) (hW : Wf B S) {r f : Nat} (hr : r < n) (hf : f < n) : SpS n ow (pullS S r f) ∧ (∀ p ∈ PATHS, rdO ow (pullS S r f) p = rdO ow S p) ∧ ∀ p ∈ PATHS, (pullR (vw r (S.getD r rs0) p) (vw f (S.getD f rs0) p)).2 ≠ 3 := by
  refine ⟨fun p hp => ?_, fun p hp => ?_, fun p hp => ?_⟩
  · obtain ⟨ver, hv⟩ := h p hp
    exact ⟨ver, (hv.pull h0 hW hr hf).1⟩
  · obtain ⟨ver, hv⟩ := h p hp
    obtain ⟨q1, q2, _⟩ := hv.pull h0 hW hr hf
    have c1 := q1.cur
    rw [q2] at c1
    exact rdRec_of c1 hv.cur
  · obtain ⟨ver, hv⟩ := h p hp
    exact (hv.pull h0 hW hr hf).2.2.1
theorem SpS.write (h : SpS n ow S) (h0 : 0 ≤ B) (hB : B < 1000000000) (hW : Wf B S) {p : ByteArray} (hp : p ∈ PATHS) (t : ByteArray) : SpS n ow (S.set (ow p) (wrR (ow p) (S.getD (ow p) rs0) p t).2) ∧ (∀ q ∈ PATHS, rdO ow (S.set (ow p) (wrR (ow p) (S.getD (ow p) rs0) p t).2) q = if q = p then (t, 0) else rdO ow S q) := by
  obtain ⟨ver, hv⟩ := h p hp
  have hl := hv.len
  have h6 := hv.n6
  have hlt := hv.lt
  have hx := hW.at (getD_at (S := S) (r := ow p) (by omega))
  have ew : (wrR (ow p) (S.getD (ow p) rs0) p t).2 = ⟨nxG (ow p) (S.getD (ow p) rs0).cm, keepE (nxG (ow p) (S.getD (ow p) rs0).cm) p (writtenG (ow p) ((S.getD (ow p) rs0).cm (ow p) + 1) t (vw (ow p) (S.getD (ow p) rs0) p)) (S.getD (ow p) rs0).E⟩ := by
    unfold wrR
    have hc : (decide (1000000000 ≤ (S.getD (ow p) rs0).cm (ow p)) || noRoom (recG (ow p) (S.getD (ow p) rs0).cm (getE p (S.getD (ow p) rs0).E)) (S.getD (ow p) rs0).E) = false := by
      rw [hx.room, Bool.or_false]
      exact decide_eq_false (by have := hx.hi (ow p); omega)
    rw [hc, if_neg (by simp)]
    rfl
  rw [ew]
  have hw := hv.write hW t
  generalize hRn : writtenG (ow p) ((S.getD (ow p) rs0).cm (ow p) + 1) t (vw (ow p) (S.getD (ow p) rs0) p) = Rn at *
  refine ⟨fun q hq => ?_, fun q hq => ?_⟩
  · by_cases e : q = p
    · subst e; exact hw.1
    · obtain ⟨vq, hvq⟩ := h q hq
      by_cases eo : ow p = ow q
      · rw [eo]; exact hvq.away hW e Rn
      · exact ⟨vq, hvq.other hW hlt eo e Rn⟩
  · by_cases e : q = p
    · subst e
      rw [if_pos rfl]
      unfold rdO
      rw [getD_set_self (by omega)]
      exact hw.2
    · rw [if_neg e]
      unfold rdO
      by_cases eo : ow p = ow q
      · rw [← eo, getD_set_self (by omega), rdR_rec, rdR_rec]
        obtain ⟨v1, _, _⟩ := vw_other hx (i := ow p) (by omega) e Rn
        exact rdRec_of (c := vw (ow p) (S.getD (ow p) rs0) q) (.inr v1) (thereS.refl _)
      · rw [getD_set_ne eo]
theorem SpS.remove (h : SpS n ow S) (h0 : 0 ≤ B) (hB : B < 1000000000) (hW : Wf B S) {p : ByteArray} (hp : p ∈ PATHS) : SpS n ow (S.set (ow p) (rmR (ow p) (S.getD (ow p) rs0) p).2) ∧ (∀ q ∈ PATHS, rdO ow (S.set (ow p) (rmR (ow p) (S.getD (ow p) rs0) p).2) q = if q = p then (⟨#[]⟩, 4) else rdO ow S q) ∧ ((rmR (ow p) (S.getD (ow p) rs0) p).1 = 0 ↔ (rdO ow S p).2 = 0) ∧ ((rmR (ow p) (S.getD (ow p) rs0) p).1 = 0 ∨ (rmR (ow p) (S.getD (ow p) rs0) p).1 = 4) := by
  obtain ⟨ver, hv⟩ := h p hp
  have hl := hv.len
  have h6 := hv.n6
  have hlt := hv.lt
  have hx := hW.at (getD_at (S := S) (r := ow p) (by omega))
  have hrd : rdO ow S p = rdRec (vw (ow p) (S.getD (ow p) rs0) p) := rfl
  by_cases hb : 0 < (vw (ow p) (S.getD (ow p) rs0) p).bn
  · have ew : rmR (ow p) (S.getD (ow p) rs0) p = (0, ⟨nxG (ow p) (S.getD (ow p) rs0).cm, keepE (nxG (ow p) (S.getD (ow p) rs0).cm) p (removedG (ow p) ((S.getD (ow p) rs0).cm (ow p) + 1) (vw (ow p) (S.getD (ow p) rs0) p)) (S.getD (ow p) rs0).E⟩) := by
      unfold rmR
      have hc : decide (0 < (recG (ow p) (S.getD (ow p) rs0).cm (getE p (S.getD (ow p) rs0).E)).bn) = true := decide_eq_true hb
      have hd : decide (1000000000 ≤ (S.getD (ow p) rs0).cm (ow p)) = false := decide_eq_false (by have := hx.hi (ow p); omega)
      rw [hc, hd, if_neg (by simp), if_neg (by simp)]
      rfl
    rw [ew]
    have hw := hv.remove hW
    generalize hRn : removedG (ow p) ((S.getD (ow p) rs0).cm (ow p) + 1) (vw (ow p) (S.getD (ow p) rs0) p) = Rn at *
    refine ⟨fun q hq => ?_, fun q hq => ?_, ⟨fun _ => ?_, fun _ => rfl⟩, .inl rfl⟩
    · by_cases e : q = p
      · subst e; exact hw.1
      · obtain ⟨vq, hvq⟩ := h q hq
        by_cases eo : ow p = ow q
        · rw [eo]; exact hvq.away hW e Rn
        · exact ⟨vq, hvq.other hW hlt eo e Rn⟩
    · by_cases e : q = p
      · subst e
        rw [if_pos rfl]
        unfold rdO
        rw [getD_set_self (by omega)]
        exact hw.2
      · rw [if_neg e]
        unfold rdO
        by_cases eo : ow p = ow q
        · rw [← eo, getD_set_self (by omega), rdR_rec, rdR_rec]
          obtain ⟨v1, _, _⟩ := vw_other hx (i := ow p) (by omega) e Rn
          exact rdRec_of (c := vw (ow p) (S.getD (ow p) rs0) q) (.inr v1) (thereS.refl _)
        · rw [getD_set_ne eo]
    · rw [hrd]; unfold rdRec; rw [if_pos (by simpa using hb)]
  · have ew : rmR (ow p) (S.getD (ow p) rs0) p = (4, S.getD (ow p) rs0) := by
      unfold rmR
      have hc : decide (0 < (recG (ow p) (S.getD (ow p) rs0).cm (getE p (S.getD (ow p) rs0).E)).bn) = false := decide_eq_false hb
      rw [hc, if_pos rfl]
    rw [ew]
    have es : S.set (ow p) (S.getD (ow p) rs0) = S := set_self (getD_at (by omega))
    have hr4 : rdO ow S p = (⟨#[]⟩, 4) := by rw [hrd]; unfold rdRec; rw [if_neg (by simpa using hb)]
    refine ⟨by rw [es]; exact h, fun q hq => ?_, ⟨fun q => by simp at q, fun q => by rw [hr4] at q; simp at q⟩, .inr rfl⟩
    rw [es]
    by_cases e : q = p
    · subst e; rw [if_pos rfl, hr4]
    · rw [if_neg e]
theorem SpS.read (h : SpS n ow S) {p : ByteArray} (hp : p ∈ PATHS) {i : Nat} (hi : i < n) (hk : CS S (ow p) ≤ (vw i (S.getD i rs0) p).kn (ow p)) : rdR i (S.getD i rs0) p = rdO ow S p := by
  obtain ⟨ver, hv⟩ := h p hp
  have hf := (hv.fit i hi).file
  have hle := hv.le i hi
  rw [show (vw i (S.getD i rs0) p).kn (ow p) = CS S (ow p) by omega] at hf
  exact rdRec_of hf hv.cur
theorem SpS.knows (h : SpS n ow S) (h0 : 0 ≤ B) (hW : Wf B S) {r f : Nat} (hr : r < n) (hf : f < n) {p : ByteArray} (hp : p ∈ PATHS) : CS (pullS S r f) (ow p) = CS S (ow p) ∧ (∀ i < n, CS S (ow p) ≤ (vw i (S.getD i rs0) p).kn (ow p) → CS S (ow p) ≤ (vw i ((pullS S r f).getD i rs0) p).kn (ow p)) ∧ (f = ow p → CS S (ow p) ≤ (vw r ((pullS S r f).getD r rs0) p).kn (ow p)) := by
  obtain ⟨ver, hv⟩ := h p hp
  obtain ⟨q1, q2, q3, q4⟩ := hv.pull h0 hW hr hf
  have hl := hv.len
  refine ⟨q2, fun i hi hk => ?_, fun e => ?_⟩
  · by_cases e : r = i
    · subst e
      have hx := hW.at (getD_at (S := S) (r := r) (by omega))
      have hy := hW.at (getD_at (S := S) (r := f) (by omega))
      have f3 := (fit_pull hv.V (hv.fit r hr) (hv.fit f hf)).2.2
      obtain ⟨_, w2, w3, _, _⟩ := vw_pull hx hy h0 r f p
      rw [pullS_self (by omega)]
      by_cases eo : r = ow p
      · rw [← eo] at hk ⊢
        rw [w3, gboth_max (hx.lo r)]
        have : CS S r = (S.getD r rs0).cm r := rfl
        omega
      · have h6 := hv.n6
        have hlt := hv.lt
        rw [w2 (ow p) (by omega) (fun z => eo z.symm), f3]
        omega
    · rw [pullS_ne e]; exact hk
  · subst e
    have : (vw (ow p) (S.getD (ow p) rs0) p).kn (ow p) = CS S (ow p) := vw_own _ _ _
    omega
end
end Go.Proofs.YtaelaldmibgibaaGreat

namespace Go.Proofs.YtaelaldmibgibaaGreat
open Go.RowKit Go.Sim

theorem q_func24 : (twin Tryz.prog pl).funcs[24]? = some Tryz.f24 := tw_func Tryz.func24 (by decide) (by kernel_rfl)
theorem chv_get (s : Nat) : ∀ (l : List (ByteArray × Int)) (i : Nat) (x : ByteArray × Int), l[i]? = some x → (chv s l)[i * 3 + 2]? = some (.int .i64 x.2)
  | [], i, x, h => by simp at h
  | y :: l, 0, x, h => by
    simp at h
    subst h
    rfl
  | y :: l, i + 1, x, h => by
    have ih := chv_get s l i x (by simpa using h)
    have e : chv s (y :: l) = [Value.int .i64 s, .string y.1, .int .i64 y.2] ++ chv s l := rfl
    rw [e, List.getElem?_append_right (by simp; omega)]
    simp only [List.length_cons, List.length_nil]
    have e3 : (i + 1) * 3 + 2 - 3 = i * 3 + 2 := by omega
    simp only [Nat.zero_add, Nat.reduceAdd, e3]
    exact ih
set_option maxRecDepth 100000 in
set_option maxHeartbeats 1000000 in
theorem conf_zero {base r : Nat} {l : List (ByteArray × Int)} {c1 : Option Addr} {c3 : Nat} {w : World} (h : w.ownsRow base 66 3 (.slice c1 l.length c3) l.length (chv r l)) (hl : l.length ≤ 1000) (hz : ∀ x ∈ l, x.2 ≠ 3) :
    Calls (twin Tryz.prog pl) 24 #[.slice c1 l.length c3] w fun e w' => e = .returned (.int .i64 0) ∧ w' = w := by
  have HO := hide h
  have HZ := hide hz
  clear h hz
  go_enter q_func24, Tryz.ntmps24
  go_wp2_with fail
  go_loopw [3, 4] (fun nv iv wr => ∃ i : Nat, i ≤ l.length ∧ iv = .int .i64 i ∧ nv = .int .i64 0 ∧ wr = w) (fun _ iv _ => l.length - (intOf iv).toNat)
  case atStart => exact ⟨0, Nat.zero_le _, rfl, rfl, rfl⟩
  case round =>
    obtain ⟨i, hi, rfl, rfl, rfl⟩ := hrel
    by_cases hil : i < l.length
    · have d1 : decide ((i : Int) < (l.length : Int)) = true := by simp; omega
      obtain ⟨ch, hch⟩ : ∃ ch, l[i]? = some ch := ⟨_, List.getElem?_eq_getElem hil⟩
      obtain ⟨g, rfl, hc⟩ : ∃ g, c1 = some ⟨g, 0, none⟩ ∧ wr.cell? ⟨g, i * 3 + 2, none⟩ = some (.int .i64 ch.2) := by
        rcases HO.out.2 with ⟨e, q⟩ | ⟨g, cap, cur, e, _⟩
        · omega
        · cases e
          exact ⟨g, rfl, (World.ownsRow.cellAt HO.out _ (by omega)).trans (chv_get r l i ch hch)⟩
      have d2 : (ch.2 == 3) = false := by simpa using HZ.out ch (List.mem_of_getElem? hch)
      clear hch
      go_wp2
      go_roundw
      case rel => exact ⟨i + 1, by omega, by go_num, rfl, by first | rfl | trivial⟩
      case measure => simp [intOf]; omega
    · have ei : i = l.length := by omega
      subst ei
      have d1 : decide ((l.length : Int) < (l.length : Int)) = false := by simp
      go_wp2
      go_ret
      exact ⟨rfl, rfl⟩
def Tied (_ : Nat) (P : Prop) : Prop := P
structure Rk (w0 w wr : World) (nb n : Nat) (B : Int) (K : List Nat) (S : List RS) : Prop where
  rn : Rn w0 wr nb n B K S
  ks : Keeps K w wr
theorem rk_pull {w0 w wr : World} {nb n : Nat} {B : Int} {K : List Nat} {S : List RS} (h : Rk w0 w wr nb n B K S) (h6 : n ≤ 6) (h0 : 0 ≤ B) {r f : Nat} (hr : r < n) (hf : f < n) (hrf : r ≠ f) :
    Calls (twin Tryz.prog pl) 22 #[.pointer (some ⟨nb, 0, none⟩), .int .i64 r, .int .i64 f] wr fun e w' => ∃ c1 c3, e = .returned (.tuple #[.slice c1 (pullL S r f).length c3, .int .i64 0]) ∧ Rk w0 w w' nb n B K (pullS S r f) := by
  have hl := h.rn.len
  have hx := getD_at (S := S) (r := r) (by omega)
  have hy := getD_at (S := S) (r := f) (by omega)
  have wx := h.rn.wf.at hx
  have wy := h.rn.wf.at hy
  refine (ePull h.rn.ne r f hrf hx hy).mono ?_
  rintro e w' ⟨rv, rfl, h1, h2, h3⟩
  obtain ⟨c1, c3, rfl⟩ : ∃ c1 c3, rv = .slice c1 (pullL S r f).length c3 := by
    rcases h3.2 with ⟨e, q⟩ | ⟨g, cap, cur, e, _⟩
    · exact ⟨none, 0, by rw [e]; unfold pullL; rw [q]⟩
    · exact ⟨_, _, e⟩
  rw [(pl_wf wx wy h0).1]
  exact ⟨c1, c3, rfl, ⟨h1, by rw [pullS_len]; exact hl, h.rn.wf.set r (pl_wf wx wy h0).2.1, ivs_pull (by omega) h.rn.iv h0 h.rn.wf (by omega) (by omega)⟩, h.ks.trans h2⟩
set_option maxRecDepth 100000 in
set_option maxHeartbeats 2000000 in
theorem round_gen {w0 w : World} {nb n : Nat} {B : Int} {K : List Nat} {S : List RS} (h : Rn w0 w nb n B K S) (hn : 2 ≤ n) (h6 : n ≤ 6) (h0 : 0 ≤ B) (Pr : List RS → Nat → Nat → Prop) (p0 : Pr S 0 0)
    (pskip : ∀ S r, r < n → Pr S r r → Pr S r (r + 1)) (pstep : ∀ w S r f, Rn w0 w nb n B K S → r < n → f < n → r ≠ f → Pr S r f → Pr (pullS S r f) r (f + 1)) (pnext : ∀ S r, r < n → Pr S r n → Pr S (r + 1) 0) :
    Calls (twin Tryz.prog pl) 17 #[.pointer (some ⟨nb, 0, none⟩), .int .i64 n, .int .i64 1] w fun e w' => ∃ (sm : Nat) (S' : List RS), e = .returned (.tuple #[.int .i64 sm, .bool true]) ∧ Rk w0 w w' nb n B K S' ∧ Tied sm (Pr S' n 0) := by
  have H0 : Hid (Rk w0 w w nb n B K S) := ⟨h, Keeps.refl K w⟩
  have HP0 := hide p0
  have PK := hide pskip
  have PS := hide pstep
  have PN := hide pnext
  clear h p0 pskip pstep pnext
  go_enter q_func17, Tryz.ntmps17
  go_wp2_with fail
  go_loopw [8, 9] (fun sv kv wr => ∃ (k sm : Nat) (S' : List RS), k ≤ 1 ∧ sm ≤ 2000 ∧ kv = .int .i64 k ∧ sv = .int .i64 sm ∧ Hid (Rk w0 w wr nb n B K S') ∧ Hid (Tied sm (k = 0 → Pr S' 0 0)) ∧ Hid (Tied sm (k = 1 → Pr S' n 0))) (fun _ kv _ => 1 - (intOf kv).toNat)
  case atStart => exact ⟨0, 0, S, Nat.zero_le _, Nat.zero_le _, rfl, rfl, H0, fun _ => HP0.out, fun q => by omega⟩
  case round =>
    clear H0 HP0
    obtain ⟨k, sm, S1, hk, hsm, rfl, rfl, hR, hA, hE⟩ := hrel
    by_cases hkt : k < 1
    · have P0 : Hid (Pr S1 0 0) := hA.out (by omega)
      have d1 : decide ((k : Int) < 1) = true := by simp; omega
      clear hA hE
      go_wp2_with fail
      go_loopw [8, 10] (fun sv rv wr2 => ∃ (r sm : Nat) (S' : List RS), r ≤ n ∧ sm ≤ 120 * r ∧ rv = .int .i64 r ∧ sv = .int .i64 sm ∧ Hid (Rk w0 w wr2 nb n B K S') ∧ Hid (Tied sm (Pr S' r 0))) (fun _ rv _ => n - (intOf rv).toNat)
      case atStart => exact ⟨0, 0, S1, Nat.zero_le _, Nat.zero_le _, rfl, rfl, hR, P0⟩
      case round =>
        clear P0 hR
        obtain ⟨r, sm, S2, hr, hsm2, rfl, rfl, hR, hP⟩ := hrel
        by_cases hrn : r < n
        · have d2 : decide ((r : Int) < (n : Int)) = true := by simp; omega
          go_wp2_with fail
          go_loopw [8, 11] (fun sv fv wr3 => ∃ (f sm : Nat) (S' : List RS), f ≤ n ∧ sm ≤ 120 * r + 20 * f ∧ fv = .int .i64 f ∧ sv = .int .i64 sm ∧ Hid (Rk w0 w wr3 nb n B K S') ∧ Hid (Tied sm (Pr S' r f))) (fun _ fv _ => n - (intOf fv).toNat)
          case atStart => exact ⟨0, sm, S2, Nat.zero_le _, by omega, rfl, rfl, hR, hP⟩
          case round =>
            clear hP hR
            obtain ⟨f, sm, S3, hf, hsm3, rfl, rfl, hR, hP⟩ := hrel
            by_cases hfn : f < n
            · have d3 : decide ((f : Int) < (n : Int)) = true := by simp; omega
              by_cases hfr : f = r
              · subst hfr
                have P4 : Hid (Pr S3 f (f + 1)) := PK.out S3 f hrn hP.out
                go_wp2
                go_roundw
                case rel => exact ⟨f + 1, sm, S3, by omega, by omega, by go_num, rfl, hR, P4⟩
                case measure => simp [intOf]; omega
              · have d4 : ((f : Int) == (r : Int)) = false := by simp; omega
                have RP := hide (rk_pull hR.out h6 h0 hrn hfn (fun e => hfr e.symm))
                have LL := hide (pull_len (r := r) (f := f) (hR.out.rn.wf.at (getD_at (S := S3) (r := r) (by have := hR.out.rn.len; omega))) (hR.out.rn.wf.at (getD_at (S := S3) (r := f) (by have := hR.out.rn.len; omega))) h0)
                have P4 : Hid (Pr (pullS S3 r f) r (f + 1)) := PS.out _ S3 r f hR.out.rn hrn hfn (fun e => hfr e.symm) hP.out
                have LM : (pullL S3 r f).length ≤ 20 := LL.out
                clear LL
                generalize (pullL S3 r f).length = m at *
                go_wp2_with (go_at_call 22; refine RP.out.mono ?_; rintro e w5 ⟨c1, c3, rfl, hR5⟩; have R5 := hide hR5; clear hR5)
                go_roundw
                case rel => exact ⟨f + 1, sm + m, pullS S3 r f, by omega, by omega, by go_num, by go_num, R5, P4⟩
                case measure => simp [intOf]; omega
            · have ef : f = n := by omega
              subst ef
              have d3 : decide ((f : Int) < (f : Int)) = false := by simp
              have P4 : Hid (Pr S3 (r + 1) 0) := PN.out S3 r hrn hP.out
              go_wp2
              go_roundw
              case rel => exact ⟨r + 1, sm, S3, by omega, by omega, by go_num, rfl, hR, P4⟩
              case measure => simp [intOf]; omega
        · have er : r = n := by omega
          subst er
          have d2 : decide ((r : Int) < (r : Int)) = false := by simp
          have E4 : Hid (Tied sm (k + 1 = 1 → Pr S2 r 0)) := fun _ => hP.out
          have A4 : Hid (Tied sm (k + 1 = 0 → Pr S2 0 0)) := fun q => by omega
          go_wp2
          go_roundw
          case rel => exact ⟨k + 1, sm, S2, by omega, by omega, by go_num, rfl, hR, A4, E4⟩
          case measure => simp [intOf]; omega
    · have E1 : Hid (Pr S1 n 0) := hE.out (by omega)
      have d1 : decide ((k : Int) < 1) = false := by simp; omega
      go_wp2
      go_ret2
      first
        | exact ⟨sm, S1, rfl, hR.out, E1.out⟩
        | exact ⟨sm, rfl, S1, hR.out, E1.out⟩
end Go.Proofs.YtaelaldmibgibaaGreat

namespace Go.Proofs.YtaelaldmibgibaaGreat
open Go.RowKit Go.Sim

theorem begS_wf (n : Nat) : Wf 1 (begS n) := by
  have z0 : Wf1 0 zero0 := ⟨List.Pairwise.nil, fun x hx => by simp [zero0] at hx, fun i => Int.le_refl 0, fun i => Int.le_refl 0⟩
  have b0 : Wf1 1 beg0 := (wr_wf z0 (by decide) (by decide) (by decide) in_first _).2
  have b1 : Wf1 1 beg1 := (pl_wf (z0.mono (by decide)) b0 (by decide)).2.1
  have hn : Wf 1 (newS n) := fun s hs => by
    obtain ⟨_, rfl⟩ := List.mem_replicate.1 hs
    exact z0.mono (by decide)
  exact (hn.set 0 b0).set 1 b1
theorem begS_len (n : Nat) : (begS n).length = n := by simp [begS, newS]
end Go.Proofs.YtaelaldmibgibaaGreat
