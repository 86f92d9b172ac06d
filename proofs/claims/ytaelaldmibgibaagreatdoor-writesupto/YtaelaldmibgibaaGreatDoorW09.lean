/- The law's book: ownsPaths. -/
import Derived.Test.YtaelaldmibgibaaGreatDoorW08

set_option linter.unusedVariables false
set_option linter.unusedSimpArgs false

namespace Go.Proofs.YtaelaldmibgibaaGreatDoor
open Go.RowKit

theorem ownsRow_setAt {w : World} {base : Nat} {e : TypeId} {g n cap : Nat} {xs : List Value} (h : w.ownsRow base e 1 (.slice (some ⟨g, 0, none⟩) n cap) n xs) (i : Nat) (u : Value) : (w.setCell ⟨g, i, none⟩ u).ownsRow base e 1 (.slice (some ⟨g, 0, none⟩) n cap) n (xs.set i u) := by
  refine ⟨by rw [List.length_set]; exact h.1, ?_⟩
  rcases h.2 with ⟨h0, _⟩ | ⟨g', cap', cur, hv, hb, hg, hnc, hcm, hcs, ht⟩
  · cases h0
  · cases hv
    refine .inr ⟨g, cap, _, rfl, hb, heap_setCell_same w g i _ _ u hg, hnc, hcm, by simp [hcs], ?_⟩
    rw [← ht]
    simp only [Array.toList_setIfInBounds]
    rw [List.take_set]
theorem marks_set (m : ByteArray) (l : List Value) (i : Nat) (hi : i < l.length) : (marks i m ++ l.drop i).set i (.string m) = marks (i + 1) m ++ l.drop (i + 1) := by
  have e : l.drop i = l[i] :: l.drop (i + 1) := List.drop_eq_getElem_cons hi
  rw [e, List.set_append_right _ _ (by simp [marks])]
  have : i - (marks i m).length = 0 := by simp [marks]
  rw [this]
  simp only [List.set_cons_zero, marks, List.replicate_succ']
  simp

theorem wpList_app_marks {ops : Array Oper} {rest : List Oper} {o : Oper} {a : Act} {Q : Exit → Act → World → Prop} (w : World) (hgd : o.guard = none) (s x : Operand) (ho : o.op = .call { callee := .builtin .append, args := #[s, x], argTypes := #[25, 25] })
    (base : Nat) (v : Value) (n : Nat) (m : ByteArray) (hs : a.eval s = v) (hown : w.ownsRow base 9 1 v n (marks n m)) (k j c : Nat) (hx : a.eval x = .slice (some ⟨k, 0, none⟩) j c) (hj : 0 < j) (hnews : ∀ i, i < j → w.cell? ⟨k, i, none⟩ = some (.string m)) (hn : n + j ≤ 1000000000000) (hb : base ≤ w.heap.size)
    (h : ∀ g cap w', Marked w w' v m → (∀ i, i < n + j → w'.cell? ⟨g, i, none⟩ = some (.string m)) → (v.ownBlock = some g ∨ g = w.heap.size) → g < w'.heap.size → w'.ownsRow base 9 1 v n (marks n m) → wpList Tryz.prog ops Q rest (a.put o.dst (.slice (some ⟨g, 0, none⟩) (n + j) cap)) w') :
    wpList Tryz.prog ops Q (o :: rest) a w := by
  refine wpList_plain hgd fun K hK => ?_
  obtain ⟨g, cap, w', hr, h1, h2, h3, h4, h5⟩ := run_app_marks w o.type base v n m hown k j c hj hnews hn hb
  unfold Oper.wp execOp
  simp only [ho, resolve, invoke, builtin, Sem.run_bind, Sem.run_pure, Result.andThen_ok, List.map_toArray, List.map_cons, List.map_nil, hs, hx, hr]
  exact hK _ _ (h g cap w' h1 h2 h3 h4 h5)

/-- while the book takes a list -/
structure Ow (w V : World) (bb : Nat) (ρ : Nat → Nat) (B : Bk) (v : Value) (n : Nat) (xs : List Value) : Prop where
  bk : BookAt V bb ρ B
  row : V.ownsRow 0 9 1 v n xs
  fr : Fr (fun k => ρ k ≠ 0 ∨ v.ownBlock = some k) w V
  free : ∀ k, v.ownBlock = some k → ρ k = 0
/-- a list that is all marks -/
def MkAt (w V : World) (v : Value) (m : ByteArray) (a : Option Addr) (len : Nat) : Prop := ∀ k, k < len → ∃ g, a = some ⟨g, 0, none⟩ ∧ (v.ownBlock = some g ∨ w.heap.size ≤ g) ∧ g < V.heap.size ∧ V.cell? ⟨g, k, none⟩ = some (.string m)

section
variable {w V V' : World} {bb : Nat} {ρ : Nat → Nat} {B : Bk} {v : Value} {n : Nat} {m : ByteArray}

theorem Ow.app {xs : List Value} (S : Ow w V bb ρ B v n xs) {o : Obj} (hM : Marked (V.alloc o) V' v m) (hrow : V'.ownsRow 0 9 1 v n (marks n m)) : Ow w V' bb ρ B v n (marks n m) := by
  have hb : Below V.heap.size V (V.alloc o) := (Below.refl _ _).alloc (Nat.le_refl _) o
  refine ⟨(S.bk.below hb).keep hM.grow.size (fun k hk => hM.grow.block k ((S.bk.below hb).lt k hk) (fun e => hk (S.free k e.symm))), hrow, (S.fr.alloc o).grown hM.grow (fun k e => .inl (.inr e)), S.free⟩
theorem MkAt.app {a : Option Addr} {len : Nat} (h : MkAt w V v m a len) {o : Obj} (hM : Marked (V.alloc o) V' v m) : MkAt w V' v m a len := by
  intro k hk
  obtain ⟨g, ea, hg, hl, hc⟩ := h k hk
  have hz := hM.grow.size
  simp at hz
  refine ⟨g, ea, hg, by omega, ?_⟩
  have h0 : (V.alloc o).cell? ⟨g, k, none⟩ = some (.string m) := by
    rw [World.cell?_of_block (w := V) (Below.heap_alloc _ _ _ hl)]; exact hc
  by_cases e : v.ownBlock = some g
  · rcases hM.cell g k e (by simp; omega) with q | q
    · rw [q]; exact h0
    · exact q
  · rw [World.cell?_of_block (w := V.alloc o) (hM.grow.block g (by simp; omega) (fun e' => e e'.symm))]
    exact h0
theorem MkAt.new {g : Nat} {o : Obj} {j : Nat} (hw : w.heap.size ≤ V.heap.size) (hc : ∀ i, i < n + j → V'.cell? ⟨g, i, none⟩ = some (.string m)) (hat : v.ownBlock = some g ∨ g = (V.alloc o).heap.size) (hl : g < V'.heap.size) : MkAt w V' v m (some ⟨g, 0, none⟩) (n + j) := by
  intro k hk
  refine ⟨g, rfl, ?_, hl, hc k hk⟩
  rcases hat with q | q
  · exact .inl q
  · right; rw [q]; simp; omega
theorem MkAt.self (S : Ow w V bb ρ B v n (marks n m)) : ∃ a cap, v = .slice a n cap ∧ MkAt w V v m a n := by
  rcases S.row.2 with ⟨rfl, h0⟩ | ⟨g, cap, cur, rfl, _, hg, _⟩
  · exact ⟨none, 0, by rw [h0], fun k hk => by omega⟩
  · refine ⟨some ⟨g, 0, none⟩, cap, rfl, fun k hk => ⟨g, rfl, .inl rfl, (Array.getElem?_eq_some_iff.1 hg).1, ?_⟩⟩
    rw [World.ownsRow.cellAt S.row k (by omega)]
    unfold marks
    rw [List.getElem?_replicate, if_pos hk]

/-- the blocks of lists that are all marks -/
def blkOf (a : Option Addr) : List Nat := match a with | some x => [x.block] | none => []
theorem MkAt.ent {a : Option Addr} {len cap : Nat} (h : MkAt w V v m a len) (hs : len ≤ 1000000000) {G : List Nat} (hG : ∀ g ∈ blkOf a, g ∈ G) : EntAt V (labs ρ G) ⟨.slice a len cap, len, m⟩ := by
  refine ⟨⟨a, cap, rfl, fun k hk => ?_⟩, hs⟩
  obtain ⟨g, ea, _, _, hc⟩ := h k hk
  refine ⟨g, ea, ?_, hc⟩
  unfold Go.Proofs.YtaelaldmibgibaaGreatDoor.labs
  rw [if_pos (hG g (by rw [ea]; simp [blkOf]))]
end

theorem BookAt.netP {w : World} {bb : Nat} {ρ : Nat → Nat} {B : Bk} (h : BookAt w bb ρ B) {o : Obj} {w1 : World} (hg : (w.alloc o).grownBy w1 B.pv.ownBlock) : w1.cell? ⟨bb, 0, none⟩ = some B.pv ∧ w1.cell? ⟨bb, 1, none⟩ = some B.mv ∧ w1.frozen? ⟨bb, 0, none⟩ = false ∧ w1.frozen? ⟨bb, 1, none⟩ = false := by
  have e : w1.heap[bb]? = w.heap[bb]? := by
    rw [hg.block bb (by have := h.blt; simp; omega) (fun e => by have := h.rp bb e.symm; rw [h.rb] at this; cases this), Below.heap_alloc _ _ _ h.blt]
  obtain ⟨c0, c1, _, _, fz⟩ := h.cells
  exact ⟨(World.cell?_of_block (w := w) e).trans c0, (World.cell?_of_block (w := w) e).trans c1, (World.frozen?_of_block (w := w) e).trans (fz 0), (World.frozen?_of_block (w := w) e).trans (fz 1)⟩
theorem BookAt.netM {w : World} {bb : Nat} {ρ : Nat → Nat} {B : Bk} (h : BookAt w bb ρ B) {o : Obj} {w1 : World} (hg : (w.alloc o).grownBy w1 B.mv.ownBlock) : w1.cell? ⟨bb, 1, none⟩ = some B.mv ∧ w1.frozen? ⟨bb, 1, none⟩ = false := by
  have e : w1.heap[bb]? = w.heap[bb]? := by
    rw [hg.block bb (by have := h.blt; simp; omega) (fun e => by have := h.rm bb e.symm; rw [h.rb] at this; cases this), Below.heap_alloc _ _ _ h.blt]
  obtain ⟨c0, c1, _, _, fz⟩ := h.cells
  exact ⟨(World.cell?_of_block (w := w) e).trans c1, (World.frozen?_of_block (w := w) e).trans (fz 1)⟩

/-- the four lists join the book -/
theorem Ow.join {w V : World} {bb : Nat} {ρ : Nat → Nat} {B : Bk} {a : Option Addr} {n cap : Nat} {m : ByteArray} (S : Ow w V bb ρ B (.slice a n cap) n (marks n m)) (hlt : ∀ k, ρ k ≠ 0 → k < w.heap.size) (hn : n ≤ 1000000) {g1 g2 g3 c1 c2 c3 : Nat}
    (K1 : MkAt w V (.slice a n cap) m (some ⟨g1, 0, none⟩) (n + 1)) (K2 : MkAt w V (.slice a n cap) m (some ⟨g2, 0, none⟩) (n + 2)) (K3 : MkAt w V (.slice a n cap) m (some ⟨g3, 0, none⟩) (n + 3)) :
    BookAt V bb (labs ρ (blkOf a ++ [g1, g2, g3])) B ∧ (∀ e ∈ [(⟨.slice a n cap, n, m⟩ : BEnt), ⟨.slice (some ⟨g1, 0, none⟩) (n + 1) c1, n + 1, m⟩, ⟨.slice (some ⟨g2, 0, none⟩) (n + 2) c2, n + 2, m⟩, ⟨.slice (some ⟨g3, 0, none⟩) (n + 3) c3, n + 3, m⟩], EntAt V (labs ρ (blkOf a ++ [g1, g2, g3])) e) ∧
      (∀ k, k ∈ blkOf a ++ [g1, g2, g3] → (Value.slice a n cap).ownBlock = some k ∨ w.heap.size ≤ k) := by
  have hz : ∀ g, ((Value.slice a n cap).ownBlock = some g ∨ w.heap.size ≤ g) → ρ g = 0 := fun g hg => by
    rcases hg with q | q
    · exact S.free g q
    · by_cases e : ρ g = 0
      · exact e
      · have := hlt g e; omega
  have hone : ∀ (g len : Nat), 0 < len → MkAt w V (.slice a n cap) m (some ⟨g, 0, none⟩) len → ((Value.slice a n cap).ownBlock = some g ∨ w.heap.size ≤ g) ∧ g < V.heap.size := fun g len hl hK => by
    obtain ⟨q, eq, h1, h2, _⟩ := hK 0 hl
    cases eq
    exact ⟨h1, h2⟩
  obtain ⟨p1, q1⟩ := hone g1 _ (by omega) K1
  obtain ⟨p2, q2⟩ := hone g2 _ (by omega) K2
  obtain ⟨p3, q3⟩ := hone g3 _ (by omega) K3
  have hin : ∀ k, k ∈ blkOf a ++ [g1, g2, g3] → ((Value.slice a n cap).ownBlock = some k ∨ w.heap.size ≤ k) ∧ k < V.heap.size := by
    intro k hk
    rcases List.mem_append.1 hk with hk | hk
    · cases a with
      | none => simp [blkOf] at hk
      | some x =>
        simp [blkOf] at hk
        subst hk
        exact ⟨.inl rfl, (World.ownsRow.lt S.row x.block rfl).2⟩
    · simp at hk
      rcases hk with rfl | rfl | rfl
      · exact ⟨p1, q1⟩
      · exact ⟨p2, q2⟩
      · exact ⟨p3, q3⟩
  obtain ⟨a', cap', ea, K0⟩ := MkAt.self S
  cases ea
  refine ⟨S.bk.labs _ (fun g hg => ⟨hz g (hin g hg).1, (hin g hg).2⟩), ?_, fun k hk => (hin k hk).1⟩
  intro e he
  simp only [List.mem_cons, List.not_mem_nil, or_false] at he
  rcases he with rfl | rfl | rfl | rfl
  · exact K0.ent (by omega) (fun g hg => List.mem_append.2 (.inl hg))
  · exact K1.ent (by omega) (fun g hg => List.mem_append.2 (.inr (by simp [blkOf] at hg; simp [hg])))
  · exact K2.ent (by omega) (fun g hg => List.mem_append.2 (.inr (by simp [blkOf] at hg; simp [hg])))
  · exact K3.ent (by omega) (fun g hg => List.mem_append.2 (.inr (by simp [blkOf] at hg; simp [hg])))

/-- append of four lists -/
theorem info_strs : (Tryz.prog.info? 25).map (fun i => (i.zero, i.size, i.bytes)) = some (some (.slice none 0 0), 1, 24) := by kernel_rfl
theorem app_four {ops : Array Oper} {rest : List Oper} {o : Oper} {a : Act} {Q : Exit → Act → World → Prop} (w : World) (hgd : o.guard = none) (s x : Operand) (ho : o.op = .call { callee := .builtin .append, args := #[s, x], argTypes := #[56, 56] }) (v : Value) (n : Nat) (xs : List Value) (hs : a.eval s = v) (hown : w.ownsRow 0 25 1 v n xs)
    (k : Nat) (a0 a1 a2 a3 : Option Addr) (n0 n1 n2 n3 c0 c1 c2 c3 : Nat) (hx : a.eval x = .slice (some ⟨k, 0, none⟩) 4 4) (h0 : w.cell? ⟨k, 0, none⟩ = some (.slice a0 n0 c0)) (h1 : w.cell? ⟨k, 1, none⟩ = some (.slice a1 n1 c1)) (h2 : w.cell? ⟨k, 2, none⟩ = some (.slice a2 n2 c2)) (h3 : w.cell? ⟨k, 3, none⟩ = some (.slice a3 n3 c3)) (hn : n ≤ 100000000000)
    (h : ∀ g cap w1, w1.ownsRow 0 25 1 (.slice (some ⟨g, 0, none⟩) (n + 4) cap) (n + 4) (xs ++ [.slice a0 n0 c0, .slice a1 n1 c1, .slice a2 n2 c2, .slice a3 n3 c3]) → w.grownBy w1 v.ownBlock → (v.ownBlock = some g ∨ g = w.heap.size) → g < w1.heap.size → wpList Tryz.prog ops Q rest (a.put o.dst (.slice (some ⟨g, 0, none⟩) (n + 4) cap)) w1) :
    wpList Tryz.prog ops Q (o :: rest) a w := by
  obtain ⟨i0, hi, hz0, hz1, hz2⟩ := info_parts info_strs
  refine wpList_append_lies w hgd s x 56 ho 0 25 i0 _ 1 24 Tryz.underlying56 hi hz0 hz1 hz2 rfl (by decide) v n xs hs hown ⟨k, 0, none⟩ 4 4 [.slice a0 n0 c0, .slice a1 n1 c1, .slice a2 n2 c2, .slice a3 n3 c3] hx rfl ?_ ?_ (by omega) (by unfold maxLen; omega) (by omega) (Nat.zero_le _) _ rfl h
  · intro j u hj
    rw [add_lit0]
    match j, hj with
    | 0, hj => cases hj; exact h0
    | 1, hj => cases hj; exact h1
    | 2, hj => cases hj; exact h2
    | 3, hj => cases hj; exact h3
  · intro u hu
    simp at hu
    rcases hu with rfl | rfl | rfl | rfl <;> rfl
theorem cell_new4 (V : World) (m : ByteArray) (t : TypeId) (k : Nat) (hk : k = V.heap.size) (j : Nat) (hj : j < 4) : (V.alloc (.cells #[.string m, .string m, .string m, .string m] t)).cell? ⟨k, j, none⟩ = some (.string m) := by
  subst hk
  simp only [World.cell?, heap_alloc_new]
  match j, hj with
  | 0, _ | 1, _ | 2, _ | 3, _ => rfl
/-- append of a mark four times -/
theorem app_mark4 {ops : Array Oper} {rest : List Oper} {o : Oper} {a : Act} {Q : Exit → Act → World → Prop} (w : World) (hgd : o.guard = none) (s x : Operand) (ho : o.op = .call { callee := .builtin .append, args := #[s, x], argTypes := #[25, 25] }) (v : Value) (n : Nat) (xs : List Value) (hs : a.eval s = v) (hown : w.ownsRow 0 9 1 v n xs)
    (k : Nat) (m : ByteArray) (hx : a.eval x = .slice (some ⟨k, 0, none⟩) 4 4) (h0 : w.cell? ⟨k, 0, none⟩ = some (.string m)) (h1 : w.cell? ⟨k, 1, none⟩ = some (.string m)) (h2 : w.cell? ⟨k, 2, none⟩ = some (.string m)) (h3 : w.cell? ⟨k, 3, none⟩ = some (.string m)) (hn : n ≤ 100000000000)
    (h : ∀ g cap w1, w1.ownsRow 0 9 1 (.slice (some ⟨g, 0, none⟩) (n + 4) cap) (n + 4) (xs ++ svs [m, m, m, m]) → w.grownBy w1 v.ownBlock → (v.ownBlock = some g ∨ g = w.heap.size) → g < w1.heap.size → wpList Tryz.prog ops Q rest (a.put o.dst (.slice (some ⟨g, 0, none⟩) (n + 4) cap)) w1) :
    wpList Tryz.prog ops Q (o :: rest) a w := by
  obtain ⟨i0, hi, hz0, hz1, hz2⟩ := info_parts info_string
  refine wpList_append_lies w hgd s x 25 ho 0 9 i0 _ 1 16 Tryz.underlying25 hi hz0 hz1 hz2 rfl (by decide) v n xs hs hown ⟨k, 0, none⟩ 4 4 (svs [m, m, m, m]) hx rfl ?_ ?_ (by omega) (by unfold maxLen; omega) (by omega) (Nat.zero_le _) _ rfl h
  · intro j u hj
    rw [add_lit0]
    match j, hj with
    | 0, hj => cases hj; exact h0
    | 1, hj => cases hj; exact h1
    | 2, hj => cases hj; exact h2
    | 3, hj => cases hj; exact h3
  · intro u hu
    simp [svs] at hu
    subst hu
    rfl

set_option maxRecDepth 100000 in
set_option maxHeartbeats 1000000 in
theorem owns_any (bb : Nat) (ρ : Nat → Nat) (B : Bk) (w : World) (h : BookAt w bb ρ B) (v : Value) (n : Nat) (xs : List Value) (hv : w.ownsRow 0 9 1 v n xs) (hfree : ∀ k, v.ownBlock = some k → ρ k = 0) (hn : n ≤ 1000000) (hnx : B.next < 1000000000000) (hps : B.ps.length ≤ 10000000000) (hms : B.ms.length ≤ 10000000000) :
    Calls Tryz.prog 97 #[.pointer (some ⟨bb, 0, none⟩), v] w fun e w' => e = .returned (.tuple #[]) ∧ ∃ ρ' m pv' mv' new, new.map BEnt.mark = [m, m, m, m] ∧ BookAt w' bb ρ' ⟨pv', mv', B.ps ++ new, B.ms ++ [m, m, m, m], B.next + 1⟩ ∧ Fr (fun k => ρ k ≠ 0 ∨ v.ownBlock = some k) w w' ∧ (∀ k, ρ' k ≠ 0 → ρ k ≠ 0 ∨ v.ownBlock = some k ∨ w.heap.size ≤ k) := by
  obtain ⟨c0, c1, c2, c4, fz⟩ := h.cells
  have hbl := h.blt
  have f4 := fz 4
  have hxl : xs.length = n := by have := hv.1; omega
  have hw : IntKind.i64.wrap ((B.next : Int) + 1) = ((B.next + 1 : Nat) : Int) := by rw [IntKind.wrap_i64]; omega
  have S0 : Hid (Ow w (w.setCell ⟨bb, 4, none⟩ (.int .i64 ((B.next + 1 : Nat) : Int))) bb ρ { B with next := B.next + 1 } v n xs) := by
    refine ⟨h.count (B.next + 1), ownsRow_keep hv (fun k e => heap_set_other (by rintro rfl; have := hfree k e; rw [h.rb] at this; cases this)), (Fr.refl _ _).setCell (.inl (.inl (by rw [h.rb]; decide))) _, hfree⟩
  have cs : (w.setCell ⟨bb, 4, none⟩ (.int .i64 ((B.next + 1 : Nat) : Int))).cell? ⟨bb, 4, none⟩ = some (.int .i64 ((B.next + 1 : Nat) : Int)) := S0.out.bk.cells.2.2.2.1
  have DC := hide (fun V => Decimal_any 12 (B.next + 1) (by omega) (by omega) V)
  have hxn : Hid (xs.length = n) := hxl
  have ec : ((B.next + 1 : Nat) : Int) = (B.next : Int) + 1 := by omega
  rw [ec] at S0 cs hw
  clear ec
  obtain ⟨a, cap, rfl⟩ : ∃ a cap, v = .slice a n cap := by
    rcases hv.2 with ⟨rfl, h0⟩ | ⟨g, cap, _, rfl, _⟩
    · exact ⟨none, 0, by rw [h0]⟩
    · exact ⟨_, _, rfl⟩
  have LT := hide h.lt
  clear h hv hfree hxl fz c0 c1 c2
  go_enter Tryz.func97, Tryz.ntmps97
  go_wp2_with (go_at_call 54; refine (DC.out _).mono ?_; rintro e w1 ⟨d, rfl, hd, rfl⟩)
  generalize hm : ({ data := #[35] } : ByteArray) ++ d = m
  clear hm hd hw cs c4 f4
  go_loopw [5] (fun iv wr => ∃ i : Nat, i ≤ n ∧ iv = .int .i64 i ∧ Hid (Ow w wr bb ρ { B with next := B.next + 1 } (.slice a n cap) n (marks i m ++ xs.drop i))) (fun iv _ => n - (intOf iv).toNat)
  case atStart => exact ⟨0, Nat.zero_le _, rfl, S0⟩
  case round =>
    obtain ⟨i, hi, rfl, S1⟩ := hrel
    by_cases hlt : i < n
    · obtain ⟨g, cap', ev, _, hgl⟩ := World.ownsRow.form S1.out.row (by omega)
      cases ev
      have ci : ∃ u, wr.cell? ⟨g, i, none⟩ = some u := by
        have := World.ownsRow.cellAt S1.out.row i (by omega)
        rw [this, List.getElem?_append_right (by simp [marks])]
        simp only [marks, List.length_replicate, Nat.sub_self, List.getElem?_drop, Nat.add_zero]
        exact ⟨_, List.getElem?_eq_getElem (by rw [hxn.out]; exact hlt)⟩
      obtain ⟨u, ci⟩ := ci
      have fi := World.ownsRow.frozenAt S1.out.row i
      have S2 : Hid (Ow w (wr.setCell ⟨g, i, none⟩ (.string m)) bb ρ { B with next := B.next + 1 } (.slice (some ⟨g, 0, none⟩) n cap) n (marks (i + 1) m ++ xs.drop (i + 1))) := by
        have hfr := S1.out.free g rfl
        refine ⟨S1.out.bk.keep (by simp [World.setCell]) (fun k hk => heap_set_other (by rintro rfl; exact hk hfr)), ?_, S1.out.fr.setCell (p := ⟨g, i, none⟩) (.inl (.inr rfl)) _, S1.out.free⟩
        have := ownsRow_setAt S1.out.row i (.string m)
        rw [marks_set m xs i (by rw [hxn.out]; exact hlt)] at this
        exact this
      go_wp2
      go_roundw
      case rel => exact ⟨i + 1, by omega, by go_num, S2⟩
      case measure => simp [intOf]; omega
    · have ei : i = n := by omega
      subst ei
      have S2 : Hid (Ow w wr bb ρ { B with next := B.next + 1 } (.slice a i cap) i (marks i m)) := by
        have := S1.out
        rw [List.drop_eq_nil_of_le (by rw [hxn.out]; exact Nat.le_refl _), List.append_nil] at this
        exact this
      have hz := S2.out.fr.size
      clear S1 S0 hlt hi
      go_wp2_with (first
        | (at_builtin; refine wpList_app_marks _ rfl (.tmp 32) (.tmp 34) rfl 0 _ i m rfl (S2.out.row.alloc _) wr.heap.size 1 1 rfl (by omega) (by intro q hq; have : q = 0 := (by omega); subst this; simp) (by omega) (Nat.zero_le _) ?_; intro g1 c1 w1 hM1 hc1 hat1 hl1 hr1; have S3 := hide (S2.out.app hM1 hr1); have K1 := hide (MkAt.new (w := w) hz hc1 hat1 hl1); have hz1 := S3.out.fr.size; clear hM1 hr1 hc1 hat1 hl1)
        | (at_builtin; refine wpList_app_marks _ rfl (.tmp 36) (.tmp 39) rfl 0 _ i m rfl (S3.out.row.alloc _) w1.heap.size 2 2 rfl (by omega) (by intro q hq; have : q = 0 ∨ q = 1 := (by omega); rcases this with rfl | rfl <;> simp) (by omega) (Nat.zero_le _) ?_; intro g2 c2 w2 hM2 hc2 hat2 hl2 hr2; have S4 := hide (S3.out.app hM2 hr2); have K1b := hide (K1.out.app hM2); have K2 := hide (MkAt.new (w := w) hz1 hc2 hat2 hl2); have hz2 := S4.out.fr.size; clear hM2 hr2 hc2 hat2 hl2)
        | (at_builtin; refine wpList_app_marks _ rfl (.tmp 41) (.tmp 45) rfl 0 _ i m rfl (S4.out.row.alloc _) w2.heap.size 3 3 rfl (by omega) (by intro q hq; have : q = 0 ∨ q = 1 ∨ q = 2 := (by omega); rcases this with rfl | rfl | rfl <;> simp) (by omega) (Nat.zero_le _) ?_; intro g3 c3 w3 hM3 hc3 hat3 hl3 hr3; have S5 := hide (S4.out.app hM3 hr3); have J := hide (S5.out.join (c1 := c1) (c2 := c2) (c3 := c3) LT.out hn (K1b.out.app hM3) (K2.out.app hM3) (MkAt.new (w := w) hz2 hc3 hat3 hl3)); obtain ⟨e0, e1, _, _, fz⟩ := J.out.1.cells; clear hM3 hr3 hc3 hat3 hl3)
        | (at_builtin; refine app_four _ rfl (.tmp 51) (.tmp 56) rfl _ B.ps.length _ rfl (J.out.1.p.alloc _) _ a (some ⟨g1, 0, none⟩) (some ⟨g2, 0, none⟩) (some ⟨g3, 0, none⟩) i (i + 1) (i + 2) (i + 3) cap c1 c2 c3 rfl (by simp) (by simp) (by simp) (by simp) (by omega) ?_; intro g4 c4 w4 ho4 hgr4 hat4 hl4; obtain ⟨k0, k1, kf0, kf1⟩ := J.out.1.netP hgr4; have BP := hide (J.out.1.addP _ J.out.2.1 (n := B.ps.length + 4) rfl ho4 hgr4 hat4); have E4 := hide (And.intro hgr4 hat4); obtain ⟨_, e1', _, _, fz'⟩ := BP.out.cells; clear ho4 hgr4 hat4 hl4)
        | (at_builtin; refine app_mark4 _ rfl (.tmp 64) (.tmp 69) rfl _ B.ms.length _ rfl (BP.out.m.alloc _) _ m rfl (cell_new4 _ m _ _ (by simp [World.setCell]) 0 (by omega)) (cell_new4 _ m _ _ (by simp [World.setCell]) 1 (by omega)) (cell_new4 _ m _ _ (by simp [World.setCell]) 2 (by omega)) (cell_new4 _ m _ _ (by simp [World.setCell]) 3 (by omega)) (by omega) ?_; intro g5 c5 w5 ho5 hgr5 hat5 hl5; obtain ⟨l1, lf1⟩ := BP.out.netM hgr5; have BM := hide (BP.out.addM [m, m, m, m] (n := B.ms.length + 4) rfl ho5 hgr5 hat5); have E5 := hide (And.intro hgr5 hat5); clear ho5 hgr5 hat5 hl5))
      go_end0
      refine ⟨rfl, _, m, _, _, _, rfl, BM.out, ?_, ?_⟩
      · have f3 := S5.out.fr
        have r1 := S5.out.bk.rb
        have f4 := ((f3.alloc _).grown E4.out.1 (fun k e => .inl (.inl (by rw [S5.out.bk.rp k e]; decide)))).setCell (p := ⟨bb, 0, none⟩) (.inl (.inl (by rw [r1]; decide))) (.slice (some ⟨g4, 0, none⟩) (B.ps.length + 4) c4)
        exact ((f4.alloc _).grown E5.out.1 (fun k e => .inl (.inl (by rw [S5.out.bk.rm k e]; decide)))).setCell (p := ⟨bb, 1, none⟩) (.inl (.inl (by rw [r1]; decide))) _
      · intro k hk
        have hz3 := S5.out.fr.size
        have hz4 := E4.out.1.size
        simp at hz4
        by_cases h5 : k = g5
        · subst h5
          rcases E5.out.2 with q | q
          · left; rw [S5.out.bk.rm k q]; decide
          · right; right; rw [q]; simp [World.setCell]; omega
        · rw [lab_other h5] at hk
          by_cases h4 : k = g4
          · subst h4
            rcases E4.out.2 with q | q
            · left; rw [S5.out.bk.rp k q]; decide
            · right; right; rw [q]; simp; omega
          · rw [lab_other h4] at hk
            unfold Go.Proofs.YtaelaldmibgibaaGreatDoor.labs at hk
            split at hk
            · exact .inr (J.out.2.2 k (by assumption))
            · exact .inl hk

end Go.Proofs.YtaelaldmibgibaaGreatDoor
