/- The law's book in memory (BookAt): what hangs together, and how entries are put into it. -/
import Derived.Test.YtaelaldmibgibaaGreatDoorW06
import Derived.Test.YtaelaldmibgibaaGreatDoorW07

set_option linter.unusedVariables false
set_option linter.unusedSimpArgs false

namespace Go.Proofs.YtaelaldmibgibaaGreatDoor
open Go.RowKit

/-- an entry: a list, its length, the mark that its owner wrote it full with -/
structure BEnt where
  v : Value
  len : Nat
  mark : ByteArray
structure Bk where
  pv : Value
  mv : Value
  ps : List BEnt
  ms : List ByteArray
  next : Nat
structure EntAt (w : World) (ρ : Nat → Nat) (e : BEnt) : Prop where
  form : ∃ a cap, e.v = .slice a e.len cap ∧ ∀ k, k < e.len → ∃ g, a = some ⟨g, 0, none⟩ ∧ ρ g = 4 ∧ w.cell? ⟨g, k, none⟩ = some (.string e.mark)
  small : e.len ≤ 1000000000

structure BookAt (w : World) (bb : Nat) (ρ : Nat → Nat) (B : Bk) : Prop where
  blk : w.heap[bb]? = some (.cells #[B.pv, B.mv, .slice none 0 0, .slice none 0 0, .int .i64 B.next] 60 (0, 0))
  p : w.ownsRow 0 25 1 B.pv B.ps.length (B.ps.map (·.v))
  m : w.ownsRow 0 9 1 B.mv B.ms.length (svs B.ms)
  ent : ∀ e ∈ B.ps, EntAt w ρ e
  rb : ρ bb = 1
  rp : ∀ k, B.pv.ownBlock = some k → ρ k = 2
  rm : ∀ k, B.mv.ownBlock = some k → ρ k = 3
  lt : ∀ k, ρ k ≠ 0 → k < w.heap.size

section
variable {w w' : World} {bb : Nat} {ρ : Nat → Nat} {B : Bk}

theorem EntAt.keep {e : BEnt} (h : EntAt w ρ e) (hk : ∀ k, ρ k = 4 → w'.heap[k]? = w.heap[k]?) : EntAt w' ρ e := by
  obtain ⟨a, cap, e1, h1⟩ := h.form
  refine ⟨⟨a, cap, e1, fun k hk' => ?_⟩, h.small⟩
  obtain ⟨g, ea, hr, hc⟩ := h1 k hk'
  exact ⟨g, ea, hr, by rw [World.cell?_of_block (w := w) (hk g hr)]; exact hc⟩
theorem BookAt.keep (h : BookAt w bb ρ B) (hs : w.heap.size ≤ w'.heap.size) (hk : ∀ k, ρ k ≠ 0 → w'.heap[k]? = w.heap[k]?) : BookAt w' bb ρ B where
  blk := by rw [hk bb (by rw [h.rb]; decide)]; exact h.blk
  p := ownsRow_keep h.p (fun k e => hk k (by rw [h.rp k e]; decide))
  m := ownsRow_keep h.m (fun k e => hk k (by rw [h.rm k e]; decide))
  ent := fun e he => (h.ent e he).keep (fun k e => hk k (by rw [e]; decide))
  rb := h.rb
  rp := h.rp
  rm := h.rm
  lt := fun k hk' => Nat.lt_of_lt_of_le (h.lt k hk') hs
theorem BookAt.below (h : BookAt w bb ρ B) (hb : Below w.heap.size w w') : BookAt w' bb ρ B := h.keep hb.size (fun k hk => hb.block k (h.lt k hk))
theorem BookAt.fr {F : Nat → Prop} (h : BookAt w bb ρ B) (hf : Fr F w w') (hd : ∀ k, ρ k ≠ 0 → ¬ F k) : BookAt w' bb ρ B := h.keep hf.size (fun k hk => hf.block k (h.lt k hk) (hd k hk))
theorem BookAt.blt (h : BookAt w bb ρ B) : bb < w.heap.size := h.lt bb (by rw [h.rb]; decide)
theorem BookAt.cells (h : BookAt w bb ρ B) : w.cell? ⟨bb, 0, none⟩ = some B.pv ∧ w.cell? ⟨bb, 1, none⟩ = some B.mv ∧ w.cell? ⟨bb, 2, none⟩ = some (.slice none 0 0) ∧ w.cell? ⟨bb, 4, none⟩ = some (.int .i64 B.next) ∧ (∀ j, w.frozen? ⟨bb, j, none⟩ = false) :=
  ⟨by simp [World.cell?, h.blk], by simp [World.cell?, h.blk], by simp [World.cell?, h.blk], by simp [World.cell?, h.blk], fun j => by simp [World.frozen?, h.blk]⟩

theorem BookAt.count (h : BookAt w bb ρ B) (x : Nat) : BookAt (w.setCell ⟨bb, 4, none⟩ (.int .i64 x)) bb ρ { B with next := x } where
  blk := by
    have h1 := heap_setCell_same w bb 4 _ _ (.int .i64 x) h.blk
    simpa using h1
  p := ownsRow_keep h.p (fun k e => heap_set_other (by rintro rfl; have := h.rp k e; rw [h.rb] at this; cases this))
  m := ownsRow_keep h.m (fun k e => heap_set_other (by rintro rfl; have := h.rm k e; rw [h.rb] at this; cases this))
  ent := fun e he => (h.ent e he).keep (fun k e => heap_set_other (by rintro rfl; rw [h.rb] at e; cases e))
  rb := h.rb
  rp := h.rp
  rm := h.rm
  lt := fun k hk => by simpa [World.setCell] using h.lt k hk

/-- k is one more of the book's blocks, or was of that kind -/
def lab (ρ : Nat → Nat) (k x : Nat) : Nat → Nat := fun q => if q = k then x else ρ q
def labs (ρ : Nat → Nat) (G : List Nat) : Nat → Nat := fun q => if q ∈ G then 4 else ρ q

theorem lab_other {k x q : Nat} (h : q ≠ k) : lab ρ k x q = ρ q := by unfold lab; rw [if_neg h]
theorem lab_same {k x : Nat} : lab ρ k x k = x := by unfold lab; rw [if_pos rfl]

/-- lists that are marked full join the book's blocks -/
theorem BookAt.labs (h : BookAt w bb ρ B) (G : List Nat) (hG : ∀ g ∈ G, ρ g = 0 ∧ g < w.heap.size) : BookAt w bb (labs ρ G) B := by
  have ho : ∀ k, ρ k ≠ 0 → Go.Proofs.YtaelaldmibgibaaGreatDoor.labs ρ G k = ρ k := fun k hk => by
    unfold Go.Proofs.YtaelaldmibgibaaGreatDoor.labs
    rw [if_neg (fun hg => hk (hG k hg).1)]
  refine ⟨h.blk, h.p, h.m, fun e he => ?_, by rw [ho bb (by rw [h.rb]; decide)]; exact h.rb, fun k hk => by rw [ho k (by rw [h.rp k hk]; decide)]; exact h.rp k hk, fun k hk => by rw [ho k (by rw [h.rm k hk]; decide)]; exact h.rm k hk, fun k hk => ?_⟩
  · obtain ⟨a, cap, e1, h1⟩ := (h.ent e he).form
    refine ⟨⟨a, cap, e1, fun k hk' => ?_⟩, (h.ent e he).small⟩
    obtain ⟨g, ea, hr, hc⟩ := h1 k hk'
    exact ⟨g, ea, by rw [ho g (by rw [hr]; decide)]; exact hr, hc⟩
  · unfold Go.Proofs.YtaelaldmibgibaaGreatDoor.labs at hk
    split at hk
    · exact (hG k (by assumption)).2
    · exact h.lt k hk

/-- four lists more -/
theorem BookAt.addP (h : BookAt w bb ρ B) (new : List BEnt) (hnew : ∀ e ∈ new, EntAt w ρ e) {o : Obj} {w1 : World} {g cap n : Nat} (hn : n = B.ps.length + new.length)
    (hrow : w1.ownsRow 0 25 1 (.slice (some ⟨g, 0, none⟩) n cap) n (B.ps.map (·.v) ++ new.map (·.v))) (hg : (w.alloc o).grownBy w1 B.pv.ownBlock) (hat : B.pv.ownBlock = some g ∨ g = (w.alloc o).heap.size) :
    BookAt (w1.setCell ⟨bb, 0, none⟩ (.slice (some ⟨g, 0, none⟩) n cap)) bb (lab ρ g 2) { B with pv := .slice (some ⟨g, 0, none⟩) n cap, ps := B.ps ++ new } := by
  have hgf : ρ g = 2 ∨ (w.heap.size < g ∧ ρ g = 0) := by
    rcases hat with q | q
    · exact .inl (h.rp g q)
    · right
      have : w.heap.size < g := by rw [q]; simp
      refine ⟨this, ?_⟩
      by_cases e : ρ g = 0
      · exact e
      · have := h.lt g e; omega
  have hgb : bb ≠ g := by
    rintro rfl
    rcases hgf with q | q
    · rw [h.rb] at q; cases q
    · rw [h.rb] at q; cases q.2
  have hk : ∀ k, ρ k ≠ 0 → ρ k ≠ 2 → w1.heap[k]? = w.heap[k]? := fun k h1 h2 => by
    have := h.lt k h1
    rw [hg.block k (by simp; omega) (fun e => h2 (h.rp k e.symm)), Below.heap_alloc _ _ _ this]
  have hnb : w1.heap[bb]? = w.heap[bb]? := hk bb (by rw [h.rb]; decide) (by rw [h.rb]; decide)
  have hol : ∀ k, ρ k ≠ 0 → ρ k ≠ 2 → lab ρ g 2 k = ρ k := fun k h1 h2 => lab_other (by
    rintro rfl
    rcases hgf with q | q
    · exact h2 q
    · exact h1 q.2)
  have hent : ∀ e, EntAt w ρ e → EntAt (w1.setCell ⟨bb, 0, none⟩ (.slice (some ⟨g, 0, none⟩) n cap)) (lab ρ g 2) e := fun e he => by
    obtain ⟨a, cp, e1, h1⟩ := he.form
    refine ⟨⟨a, cp, e1, fun k hk' => ?_⟩, he.small⟩
    obtain ⟨q, ea, hr, hc⟩ := h1 k hk'
    refine ⟨q, ea, by rw [hol q (by rw [hr]; decide) (by rw [hr]; decide)]; exact hr, ?_⟩
    have : (w1.setCell ⟨bb, 0, none⟩ (.slice (some ⟨g, 0, none⟩) n cap)).heap[q]? = w.heap[q]? := by
      rw [heap_set_other (by rintro rfl; rw [h.rb] at hr; cases hr)]
      exact hk q (by rw [hr]; decide) (by rw [hr]; decide)
    rw [World.cell?_of_block (w := w) this]
    exact hc
  refine ⟨?_, ?_, ?_, ?_, by rw [lab_other hgb]; exact h.rb, ?_, ?_, ?_⟩
  · have h1 := heap_setCell_same w1 bb 0 _ _ (.slice (some ⟨g, 0, none⟩) n cap) (hnb.trans h.blk)
    simpa using h1
  · simp only [List.length_append, List.map_append]
    rw [← hn]
    exact ownsRow_keep hrow (fun k e => heap_set_other (by simp [Value.ownBlock] at e; subst e; exact Ne.symm hgb))
  · exact ownsRow_keep h.m (fun k e => by
      have hr := h.rm k e
      rw [heap_set_other (by rintro rfl; rw [h.rb] at hr; cases hr)]
      exact hk k (by rw [hr]; decide) (by rw [hr]; decide))
  · intro e he
    rcases List.mem_append.1 he with he | he
    · exact hent e (h.ent e he)
    · exact hent e (hnew e he)
  · intro k hk'
    simp [Value.ownBlock] at hk'
    subst hk'
    exact lab_same
  · intro k hk'
    have hr := h.rm k hk'
    rw [hol k (by rw [hr]; decide) (by rw [hr]; decide)]
    exact hr
  · intro k hk'
    have hs : (w1.setCell ⟨bb, 0, none⟩ (.slice (some ⟨g, 0, none⟩) n cap)).heap.size = w1.heap.size := by simp [World.setCell]
    rw [hs]
    by_cases e : k = g
    · subst e
      exact (World.ownsRow.lt hrow k rfl).2
    · rw [lab_other e] at hk'
      have := h.lt k hk'
      have := hg.size
      simp at this
      omega

/-- their marks -/
theorem BookAt.addM (h : BookAt w bb ρ B) (new : List ByteArray) {o : Obj} {w1 : World} {g cap n : Nat} (hn : n = B.ms.length + new.length)
    (hrow : w1.ownsRow 0 9 1 (.slice (some ⟨g, 0, none⟩) n cap) n (svs B.ms ++ svs new)) (hg : (w.alloc o).grownBy w1 B.mv.ownBlock) (hat : B.mv.ownBlock = some g ∨ g = (w.alloc o).heap.size) :
    BookAt (w1.setCell ⟨bb, 1, none⟩ (.slice (some ⟨g, 0, none⟩) n cap)) bb (lab ρ g 3) { B with mv := .slice (some ⟨g, 0, none⟩) n cap, ms := B.ms ++ new } := by
  have hgf : ρ g = 3 ∨ (w.heap.size < g ∧ ρ g = 0) := by
    rcases hat with q | q
    · exact .inl (h.rm g q)
    · right
      have : w.heap.size < g := by rw [q]; simp
      refine ⟨this, ?_⟩
      by_cases e : ρ g = 0
      · exact e
      · have := h.lt g e; omega
  have hgb : bb ≠ g := by
    rintro rfl
    rcases hgf with q | q
    · rw [h.rb] at q; cases q
    · rw [h.rb] at q; cases q.2
  have hk : ∀ k, ρ k ≠ 0 → ρ k ≠ 3 → w1.heap[k]? = w.heap[k]? := fun k h1 h2 => by
    have := h.lt k h1
    rw [hg.block k (by simp; omega) (fun e => h2 (h.rm k e.symm)), Below.heap_alloc _ _ _ this]
  have hnb : w1.heap[bb]? = w.heap[bb]? := hk bb (by rw [h.rb]; decide) (by rw [h.rb]; decide)
  have hol : ∀ k, ρ k ≠ 0 → ρ k ≠ 3 → lab ρ g 3 k = ρ k := fun k h1 h2 => lab_other (by
    rintro rfl
    rcases hgf with q | q
    · exact h2 q
    · exact h1 q.2)
  refine ⟨?_, ?_, ?_, ?_, by rw [lab_other hgb]; exact h.rb, ?_, ?_, ?_⟩
  · have h1 := heap_setCell_same w1 bb 1 _ _ (.slice (some ⟨g, 0, none⟩) n cap) (hnb.trans h.blk)
    simpa using h1
  · exact ownsRow_keep h.p (fun k e => by
      have hr := h.rp k e
      rw [heap_set_other (by rintro rfl; rw [h.rb] at hr; cases hr)]
      exact hk k (by rw [hr]; decide) (by rw [hr]; decide))
  · simp only [List.length_append, svs_append]
    rw [← hn]
    exact ownsRow_keep hrow (fun k e => heap_set_other (by simp [Value.ownBlock] at e; subst e; exact Ne.symm hgb))
  · intro e he
    obtain ⟨a, cp, e1, h1⟩ := (h.ent e he).form
    refine ⟨⟨a, cp, e1, fun k hk' => ?_⟩, (h.ent e he).small⟩
    obtain ⟨q, ea, hr, hc⟩ := h1 k hk'
    refine ⟨q, ea, by rw [hol q (by rw [hr]; decide) (by rw [hr]; decide)]; exact hr, ?_⟩
    have : (w1.setCell ⟨bb, 1, none⟩ (.slice (some ⟨g, 0, none⟩) n cap)).heap[q]? = w.heap[q]? := by
      rw [heap_set_other (by rintro rfl; rw [h.rb] at hr; cases hr)]
      exact hk q (by rw [hr]; decide) (by rw [hr]; decide)
    rw [World.cell?_of_block (w := w) this]
    exact hc
  · intro k hk'
    have hr := h.rp k hk'
    rw [hol k (by rw [hr]; decide) (by rw [hr]; decide)]
    exact hr
  · intro k hk'
    simp [Value.ownBlock] at hk'
    subst hk'
    exact lab_same
  · intro k hk'
    have hs : (w1.setCell ⟨bb, 1, none⟩ (.slice (some ⟨g, 0, none⟩) n cap)).heap.size = w1.heap.size := by simp [World.setCell]
    rw [hs]
    by_cases e : k = g
    · subst e
      exact (World.ownsRow.lt hrow k rfl).2
    · rw [lab_other e] at hk'
      have := h.lt k hk'
      have := hg.size
      simp at this
      omega
end

end Go.Proofs.YtaelaldmibgibaaGreatDoor
