/- begun; asked. -/
import Derived.Test.YtaelaldmibgibaaGreatDoorW31

set_option linter.unusedVariables false
set_option linter.unusedSimpArgs false

namespace Go.Proofs.YtaelaldmibgibaaGreatDoor
open Go.RowKit

section
variable {w w' W : World} {pb nb b : Nat} {P : PN} {ρ ρ' : Nat → Nat × Nat} {S S' : RS} {A A' : Abs} {bb : Nat} {β β' : Nat → Nat} {B B' : Bk}

set_option maxHeartbeats 400000 in
theorem begun_bad (n : Int) (w : World) (hn : n < 1 ∨ 6 < n) :
    Calls Tryz.prog 11 #[.int .i64 n] w fun e w' => e = .returned (.tuple #[.pointer none, .bool true]) ∧ w' = w := by
  have C1 := hide (netNew_bad n w hn)
  have C2 := hide (refNew_bad n w hn)
  clear hn
  go_enter Tryz.func11, Tryz.ntmps11
  go_wp2_with (first | (go_at_call 25; refine C1.out.mono ?_; rintro e w ⟨rfl, rfl⟩) | (go_at_call 26; refine C2.out.mono ?_; rintro e w ⟨rfl, rfl⟩) | (go_at_call 27; refine (lnum_any _ _).mono ?_; rintro e w ⟨rfl, rfl⟩))
  go_ret2
  exact ⟨rfl, rfl⟩

set_option maxHeartbeats 400000 in
theorem begun_ok (n : Nat) (w : World) (h1 : 1 ≤ n) (h6 : n ≤ 6) :
    Calls Tryz.prog 11 #[.int .i64 n] w fun e w' => ∃ pb nb b P ρ S, e = .returned (.tuple #[.pointer (some ⟨pb, 0, none⟩), .bool true]) ∧ PairAt w' pb nb b P ρ S (newAbs n) ∧ S.paths = [] ∧ (∀ k, pmem pb nb P ρ k → w.heap.size ≤ k) ∧ Below w.heap.size w w' := by
  have C1 := hide (netNew_ok n w h1 h6)
  have C2 := hide (fun V => refNew_ok n V h1 h6)
  go_enter Tryz.func11, Tryz.ntmps11
  go_wp2_with (first | (go_at_call 25; refine C1.out.mono ?_; rintro e w1 ⟨rfl, P, hN, hlo, hb1⟩; have HN := hide hN; have HL := hide hlo; have B1 := hide hb1; clear hN hlo hb1) | (go_at_call 26; refine (C2.out w1).mono ?_; rintro e w2 ⟨ρ, S, rfl, hR, hI, hn, hp, hl, hb2⟩; have HR := hide hR; have HI := hide hI; have HP := hide hp; have HLR := hide hl; have B2 := hide hb2; clear hR hI hn hp hl hb2) | (go_at_call 27; refine (lnum_any _ _).mono ?_; rintro e w2 ⟨rfl, rfl⟩))
  go_ret2
  have hb3 : Below w2.heap.size w2 (w2.alloc (.cells #[.pointer (some ⟨w.heap.size, 0, none⟩), .pointer (some ⟨w1.heap.size, 0, none⟩)] 72)) := (Below.refl _ _).alloc (Nat.le_refl _) _
  have hz1 := B1.out.size
  have hz2 := B2.out.size
  refine ⟨_, _, _, P, ρ, S, rfl, ⟨heap_alloc_new _ _, (HN.out.below B2.out).below hb3, HR.out.below hb3, HI.out, fun k hk => ?_, fun hk => ?_, ?_⟩, HP.out, fun k hk => ?_, (B1.out.trans (B2.out.mono hz1)).trans (hb3.mono (by omega))⟩
  · have := HN.out.lt k hk
    by_cases e : (ρ k).1 = 0
    · exact e
    · have := HLR.out k e; omega
  · have := HN.out.lt _ hk; omega
  · by_cases e : (ρ w2.heap.size).1 = 0
    · exact e
    · have := HR.out.lt _ e; omega
  · rcases hk with rfl | hk | hk
    · omega
    · exact HL.out k hk
    · have := HLR.out k hk; omega

/-- a path that was spoken of is at its place -/
theorem atOf_in {ps : List ByteArray} (hs : Sorted ps) {i : Nat} {p : ByteArray} (h : ps[i]? = some p) : ps[atOf ps p]? = some p := by
  have : atOf ps p = i := by
    obtain ⟨hi, rfl⟩ := List.getElem?_eq_some_iff.1 h
    refine atOf_eq ps _ i (by omega) (fun q hq => ?_) (fun q hq => ?_)
    · obtain ⟨j, hj, rfl⟩ := List.mem_iff_getElem.1 hq
      simp only [List.length_take] at hj
      rw [List.getElem_take]
      exact List.pairwise_iff_getElem.1 hs j i (by omega) hi (by omega)
    · rw [h] at hq
      cases hq
      exact slt_irrefl _
  rw [this]
  exact h

/-- while everything is asked -/
structure Ask (w V : World) (pb nb b : Nat) (P : PN) (ρ : Nat → Nat × Nat) (S : RS) (A : Abs) (bb : Nat) (β β' : Nat → Nat) (B' : Bk) : Prop where
  pair : PairAt V pb nb b P ρ S A
  book : Bok V bb β' B'
  dis : ∀ k, pmem pb nb P ρ k → β' k = 0
  fr : Fr (fun k => β k ≠ 0) w V
  growB : ∀ k, β' k ≠ 0 → β k ≠ 0 ∨ w.heap.size ≤ k
theorem Ask.below {V V' : World} (h : Ask w V pb nb b P ρ S A bb β β' B') (hb : Below V.heap.size V V') : Ask w V' pb nb b P ρ S A bb β β' B' :=
  ⟨h.pair.below hb, h.book.below hb, h.dis, h.fr.trans (Fr.of_below hb), h.growB⟩
theorem Ask.list {V V' : World} (h : Ask w V pb nb b P ρ S A bb β β' B') (hlt : ∀ k, pmem pb nb P ρ k → k < w.heap.size) {β2 : Nat → Nat} {B2 : Bk} (hP : PairAt V' pb nb b P ρ S A) (hB : Bok V' bb β2 B2) (hF : Fr (fun k => β' k ≠ 0) V V') (hG : ∀ k, β2 k ≠ 0 → β' k ≠ 0 ∨ V.heap.size ≤ k) : Ask w V' pb nb b P ρ S A bb β β2 B2 := by
  have hz := h.fr.size
  refine ⟨hP, hB, fun k hk => ?_, h.fr.trans' hF (fun i hi e => ?_), fun k hk => ?_⟩
  · by_cases e : β2 k = 0
    · exact e
    · rcases hG k e with q | q
      · exact absurd (h.dis k hk) q
      · have := hlt k hk; omega
  · rcases h.growB i e with q | q
    · exact q
    · omega
  · rcases hG k hk with q | q
    · exact h.growB k q
    · right; omega

def lookOp (r : Int) : OpV := ⟨5, r, 0, ⟨#[]⟩, ⟨#[]⟩, false, .slice none 0 0⟩
def readOp (r : Int) (p : ByteArray) : OpV := ⟨3, r, 0, p, ⟨#[]⟩, false, .slice none 0 0⟩

set_option maxRecDepth 100000 in
set_option maxHeartbeats 1000000 in
theorem asked_all (pb nb b : Nat) (P : PN) (ρ : Nat → Nat × Nat) (S : RS) (A : Abs) (bb : Nat) (β : Nat → Nat) (B : Bk) (w : World) (h : PairAt w pb nb b P ρ S A) (hB : Bok w bb β B) (hd : ∀ k, pmem pb nb P ρ k → β k = 0) (hm : S.paths.length ≤ 100000000) (hps : ∀ p ∈ S.paths, p.size ≤ 1000000000) (hnx : B.next < 90000000) :
    Calls Tryz.prog 24 #[.pointer (some ⟨pb, 0, none⟩), .pointer (some ⟨bb, 0, none⟩)] w fun e w' => e = .returned (.bool true) ∧ ∃ β' B', Ask w w' pb nb b P ρ S A bb β β' B' ∧ B'.next ≤ B.next + 12 := by
  have A0 : Hid (Ask w w pb nb b P ρ S A bb β β B) := ⟨h, hB, hd, Fr.refl _ _, fun k hk => .inl hk⟩
  have hlt : ∀ k, pmem pb nb P ρ k → k < w.heap.size := fun k hk => h.lt hk
  have HLT := hide hlt
  have hn6 := h.ref.n6
  have hsort := hide h.inv.sorted
  obtain ⟨hml, ap, cp, ep, hcp⟩ := strRow_form h.ref.p
  have EP := hide ep
  have HPS := hide hps
  have CE := hide (fun (V : World) (hP : PairAt V pb nb b P ρ S A) => (⟨hP.cells.2, hP.ref.c0, hP.ref.c1⟩ : V.cell? ⟨pb, 1, none⟩ = some (.pointer (some ⟨b, 0, none⟩)) ∧ V.cell? ⟨b, 0, none⟩ = some (.int .i64 S.n) ∧ V.cell? ⟨b, 1, none⟩ = some S.pv))
  rw [ep] at CE
  clear h hB hd hlt hcp ep hps
  unfold maxLen at hml
  go_enter Tryz.func24, Tryz.ntmps24
  go_wp2
  go_loopw [5] (fun rv wr => ∃ r : Nat, r ≤ S.n ∧ rv = .int .i64 r ∧ ∃ β' B', Hid (Ask w wr pb nb b P ρ S A bb β β' B') ∧ B'.next ≤ B.next + 2 * r) (fun rv _ => S.n - (intOf rv).toNat)
  case atStart => exact ⟨0, Nat.zero_le _, rfl, β, B, A0, by omega⟩
  case round =>
    obtain ⟨r, hr, rfl, β1, B1, A1, hnx1⟩ := hrel
    obtain ⟨c1, c2, c3⟩ := CE.out wr A1.out.pair
    by_cases hrl : r < S.n
    · have LI := hide (list_any pb nb b P ρ S A bb β1 B1 r wr A1.out.pair A1.out.book A1.out.dis hm (by omega))
      have LK := hide (fun V (hP : PairAt V pb nb b P ρ S A) => local_look pb nb b P ρ S A bb (lookOp r) V hP rfl hm)
      unfold lookOp at LK
      go_wp2_with (first
        | (go_at_call 47; refine LI.out.mono ?_; rintro e w1 ⟨rfl, hP1, β2, B2, hB2, hn2, hF2, hG2⟩; have A2 := hide (A1.out.list HLT.out hP1 hB2 hF2 hG2); have HN2 := hide hn2; clear hP1 hB2 hF2 hG2 hn2)
        | (go_at_call 44; refine (LK.out w1 A2.out.pair).mono ?_; rintro e w2 ⟨rfl, hb2⟩; have A3 := hide (A2.out.below hb2); clear hb2))
      have RI := hide (fun V (hP : PairAt V pb nb b P ρ S A) (i : Nat) (p : ByteArray) (hp : S.paths[i]? = some p) => local_read_in pb nb b P ρ S A bb (readOp r p) V hP rfl (HPS.out p (List.mem_of_getElem? hp)) (atOf_in hsort.out hp))
      unfold readOp at RI
      clear LI LK
      go_loopw [8] (fun iv wr2 => ∃ i : Nat, i ≤ S.paths.length ∧ iv = .int .i64 i ∧ Hid (Ask w wr2 pb nb b P ρ S A bb β β2 B2)) (fun iv _ => S.paths.length - (intOf iv).toNat)
      case atStart => exact ⟨0, Nat.zero_le _, rfl, A3⟩
      case round =>
        obtain ⟨i, hi, rfl, A4⟩ := hrel
        obtain ⟨d1, d2, d3⟩ := CE.out _ A4.out.pair
        by_cases hil : i < S.paths.length
        · obtain ⟨p, hp⟩ : ∃ p, S.paths[i]? = some p := ⟨S.paths[i], List.getElem?_eq_getElem hil⟩
          obtain ⟨_, ap', cp', ep', hcp'⟩ := strRow_form A4.out.pair.ref.p
          rw [EP.out] at ep'
          obtain ⟨g, eg, hg, hcg⟩ := hcp' i p hp
          cases ep'
          subst eg
          have RD := hide (RI.out _ A4.out.pair i p hp)
          clear hcp'
          go_wp2_with (go_at_call 44; refine RD.out.mono ?_; rintro e w4 ⟨rfl, hb4⟩; have A5 := hide (A4.out.below hb4); clear hb4)
          go_roundw
          case rel => exact ⟨i + 1, by omega, by go_num, A5⟩
          case measure => simp [intOf]; omega
        · have ei : i = S.paths.length := by omega
          subst ei
          go_wp2
          go_roundw
          case rel => exact ⟨r + 1, by omega, by go_num, β2, B2, A4, by have := HN2.out; omega⟩
          case measure => simp [intOf]; omega
    · have er : r = S.n := by omega
      subst er
      go_wp2
      go_ret
      exact ⟨rfl, β1, B1, A1.out, by omega⟩
end

end Go.Proofs.YtaelaldmibgibaaGreatDoor
