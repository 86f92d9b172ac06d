/- The program's readFile at three fields. -/
import Derived.Test.YtaelaldmibgibaaGreatDoorU35

set_option linter.unusedVariables false
set_option linter.unusedSimpArgs false

namespace Go.Proofs.YtaelaldmibgibaaGreatDoor
open Go.RowKit Go.Lib

/-- what stands ahead of readFile's last row: its answer's cells, the birth, the changes -/
structure F2 (w W : World) (eb tb : Nat) (er ek : Int) (f : Nat → Int) : Prop where
  mine : Mine w w.heap.size 9 W
  e : W.heap[eb]? = some (.cells #[.int .i64 er, .int .i64 ek] 191 (0, 0))
  t : W.heap[tb]? = some (.cells #[.int .i64 (f 0), .int .i64 (f 1), .int .i64 (f 2), .int .i64 (f 3), .int .i64 (f 4), .int .i64 (f 5)] 186 (0, 0))
theorem F2.below {w W W' : World} {eb tb : Nat} {er ek : Int} {f : Nat → Int} (h : F2 w W eb tb er ek f) (hb : Below W.heap.size W W') : F2 w W' eb tb er ek f :=
  ⟨Mine.call (p := True) ⟨h.mine, trivial⟩ hb, by rw [hb.block eb (Array.getElem?_eq_some_iff.1 h.e).1]; exact h.e, by rw [hb.block tb (Array.getElem?_eq_some_iff.1 h.t).1]; exact h.t⟩
theorem F2.made {w w1 w3 : World} (M : Mine w w.heap.size 9 w1) (er ek : Int) (f : Nat → Int) (hb : Below (w1.alloc (.cells #[.int .i64 er, .int .i64 ek] 191)).heap.size (w1.alloc (.cells #[.int .i64 er, .int .i64 ek] 191)) w3) :
    F2 w (w3.alloc (.cells #[.int .i64 (f 0), .int .i64 (f 1), .int .i64 (f 2), .int .i64 (f 3), .int .i64 (f 4), .int .i64 (f 5)] 186)) w1.heap.size w3.heap.size er ek f := by
  refine ⟨(Mine.call (p := True) ⟨M.alloc _, trivial⟩ hb).alloc _, ?_, heap_alloc_new _ _⟩
  have hz := hb.size
  rw [Below.heap_alloc _ _ _ (by simp at hz; omega), hb.block _ (by simp)]
  exact heap_alloc_new _ _
theorem F2.cells {w W : World} {eb tb : Nat} {er ek : Int} {f : Nat → Int} (h : F2 w W eb tb er ek f) : W.cell? ⟨eb, 0, none⟩ = some (.int .i64 er) ∧ W.cell? ⟨eb, 1, none⟩ = some (.int .i64 ek) ∧ W.cell? ⟨tb, 0, none⟩ = some (.int .i64 (f 0)) ∧ W.cell? ⟨tb, 1, none⟩ = some (.int .i64 (f 1)) ∧ W.cell? ⟨tb, 2, none⟩ = some (.int .i64 (f 2)) ∧ W.cell? ⟨tb, 3, none⟩ = some (.int .i64 (f 3)) ∧ W.cell? ⟨tb, 4, none⟩ = some (.int .i64 (f 4)) ∧ W.cell? ⟨tb, 5, none⟩ = some (.int .i64 (f 5)) := by
  refine ⟨?_, ?_, ?_, ?_, ?_, ?_, ?_, ?_⟩ <;> (simp only [World.cell?, h.e, h.t]; rfl)

attribute [local go_sem ↓] stFile
attribute [local go_sem] run_stFile
set_option maxHeartbeats 4000000 in
theorem readFile_three (B o C : Nat) (a b c : Bs) (ha : a.length ≤ 10000000) (hb : b.length ≤ 10000000) (hc : c.length ≤ 10000000) (n : Nat) (h1 : 1 ≤ n) (h6 : n ≤ 6) (w : World) (hF : FldO w B o [a, b, c]) (hg : Glob w) :
    Calls Tryz.prog 222 #[.slice (some ⟨B, o, none⟩) 3 C, .int .i64 n] w fun e w' => ∃ R : Rec, e = .returned (.tuple #[fileVal R, .bool (fileR n [a, b, c]).isSome]) ∧ (∀ f, fileR n [a, b, c] = some f → fIs R f) ∧ Below w.heap.size w w' := by
  have M0 := hide (Mine.made' w #[.string ⟨#[]⟩, .int .i64 0, .int .i64 0, .int .i64 0, .int .i64 0, .int .i64 0, .int .i64 0, .int .i64 0, .int .i64 0] 193 (n := 9) rfl)
  have CE : Hid (∀ W, Mine w w.heap.size 9 W → Calls Tryz.prog 251 #[.string (ofBs a), .int .i64 n] W fun e w' => e = .returned (.tuple #[.agg #[.int .i64 ((eventR n a).getD (0, 0)).1, .int .i64 ((eventR n a).getD (0, 0)).2], .bool (eventR n a).isSome]) ∧ Mine w w.heap.size 9 w' ∧ Below W.heap.size W w') := fun W hW => by
    have := ReadEvent_any (ofBs a) (by rw [ofBs_size]; exact ha) n h6 W (hg.below hW.below)
    rw [bs_ofBs] at this
    exact this.mono (fun e w' ⟨q, r⟩ => ⟨q, Mine.call (p := True) ⟨hW, trivial⟩ r, r⟩)
  have CT : Hid (∀ W, Mine w w.heap.size 9 W → Calls Tryz.prog 146 #[.string (ofBs b), .int .i64 n] W fun e w' => e = .returned (.tuple #[timeVal (lfn ((timeR n b).getD [])), .bool (timeR n b).isSome]) ∧ Mine w w.heap.size 9 w' ∧ Below W.heap.size W w') := fun W hW => by
    have := ReadTime_any (ofBs b) (by rw [ofBs_size]; exact hb) n h1 h6 W (hg.below hW.below)
    rw [bs_ofBs] at this
    exact this.mono (fun e w' ⟨q, r⟩ => ⟨q, Mine.call (p := True) ⟨hW, trivial⟩ r, r⟩)
  have CH : Hid (∀ W, Calls Tryz.prog 252 #[.string (ofBs c)] W fun e w' => e = .returned (.tuple #[.string (ofBs ((hexR c).getD [])), .bool (hexR c).isSome]) ∧ Below W.heap.size W w') := fun W => by
    have := ReadHex_any (ofBs c) (by rw [ofBs_size]; exact hc) W
    rw [bs_ofBs] at this
    exact this
  have FL : Hid (∀ W, Mine w w.heap.size 9 W → FldO W B o [a, b, c]) := fun W hW => hF.below hW.below
  have hr6 : ((eventR n a).getD (0, 0)).1 < 6 := by
    cases he : eventR n a with
    | none => simp
    | some x => have := (eventR_iff n h6 a x.1 x.2).1 he; simp only [Option.getD_some]; omega
  have HP : Hid (fileR n [a, b, c] = (eventR n a).bind fun e => (timeR n b).bind fun l => (hexR c).bind fun t => if e.2 ≤ l.getD e.1 0 then some (some ⟨t, e.1, e.2, l⟩) else none) := rfl
  have RT : Hid (∀ (W : World) (z : Bool), Below w.heap.size w W → z = ((eventR n a).isSome && ((timeR n b).isSome && ((hexR c).isSome && decide ((((eventR n a).getD (0, 0)).2 : Int) ≤ lfn ((timeR n b).getD []) ((eventR n a).getD (0, 0)).1)))) → ∃ R : Rec, Ending.returned (.tuple #[.agg #[.string (ofBs ((hexR c).getD [])), .int .i64 ((eventR n a).getD (0, 0)).1, .int .i64 ((eventR n a).getD (0, 0)).2, .int .i64 (lfn ((timeR n b).getD []) 0), .int .i64 (lfn ((timeR n b).getD []) 1), .int .i64 (lfn ((timeR n b).getD []) 2), .int .i64 (lfn ((timeR n b).getD []) 3), .int .i64 (lfn ((timeR n b).getD []) 4), .int .i64 (lfn ((timeR n b).getD []) 5)], .bool z]) = .returned (.tuple #[fileVal R, .bool (fileR n [a, b, c]).isSome]) ∧ (∀ f, fileR n [a, b, c] = some f → fIs R f) ∧ Below w.heap.size w W) := fun W z hW hz => by
    refine ⟨⟨ofBs ((hexR c).getD []), ((eventR n a).getD (0, 0)).1, ((eventR n a).getD (0, 0)).2, lfn ((timeR n b).getD []), fun _ => 0⟩, ?_, ?_, hW⟩
    · have : z = (fileR n [a, b, c]).isSome := by
        rw [hz, HP.out]
        cases eventR n a with
        | none => rfl
        | some x =>
          cases timeR n b with
          | none => rfl
          | some l =>
            cases hexR c with
            | none => rfl
            | some t =>
              simp only [Option.bind_some, Option.getD_some, Option.isSome_some, Bool.true_and]
              have e : ((x.2 : Int) ≤ lfn l x.1) ↔ x.2 ≤ l.getD x.1 0 := by unfold lfn; omega
              by_cases hq : x.2 ≤ l.getD x.1 0
              · rw [if_pos hq, decide_eq_true (e.2 hq)]; rfl
              · rw [if_neg hq, decide_eq_false (fun q => hq (e.1 q))]; rfl
      rw [this]
      rfl
    · intro f hf
      rw [HP.out] at hf
      cases he : eventR n a with
      | none => rw [he] at hf; cases hf
      | some x =>
        cases ht : timeR n b with
        | none => rw [he, ht] at hf; cases hf
        | some l =>
          cases hx : hexR c with
          | none => rw [he, ht, hx] at hf; cases hf
          | some t =>
            rw [he, ht, hx] at hf
            simp only [Option.bind_some] at hf
            split at hf
            · cases hf
              exact ⟨rfl, rfl, rfl, rfl⟩
            · cases hf
  clear hF hg HP
  generalize (eventR n a).isSome = z1 at *
  generalize (timeR n b).isSome = z2 at *
  generalize (hexR c).isSome = z3 at *
  generalize ((eventR n a).getD (0, 0)).1 = er at *
  generalize ((eventR n a).getD (0, 0)).2 = ek at *
  generalize lfn ((timeR n b).getD []) = f at *
  generalize ofBs ((hexR c).getD []) = tx at *
  generalize fileR n [a, b, c] = FR at *
  have HA : Hid (∀ W, Calls Tryz.prog 224 #[.agg #[.int .i64 (f 0), .int .i64 (f 1), .int .i64 (f 2), .int .i64 (f 3), .int .i64 (f 4), .int .i64 (f 5)], .agg #[.int .i64 er, .int .i64 ek]] W fun e w' => e = .returned (.bool (decide ((ek : Int) ≤ f er))) ∧ Below W.heap.size W w') := fun W => Has_any f er ek hr6 W
  unfold timeVal at CT
  have ga := (FL.out _ M0.out).pc 0 a rfl
  rw [Nat.add_zero] at ga
  have FB : Hid (∀ W, Mine w w.heap.size 9 W → ∀ o', (W.alloc o').cell? ⟨B, o + 1, none⟩ = some (.string (ofBs b))) := fun W hW o' => by
    rw [World.cell?_alloc_old _ _ _ (Nat.ne_of_lt (FL.out W hW).lt)]
    exact (FL.out W hW).pc 1 b rfl
  have FC : Hid (∀ W, Mine w w.heap.size 9 W → ∀ o', (W.alloc o').cell? ⟨B, o + 2, none⟩ = some (.string (ofBs c))) := fun W hW o' => by
    rw [World.cell?_alloc_old _ _ _ (Nat.ne_of_lt (FL.out W hW).lt)]
    exact (FL.out W hW).pc 2 c rfl
  generalize ofBs a = sa at *
  generalize ofBs b = sb at *
  generalize ofBs c = sc at *
  clear FL
  go_enter Tryz.func222, Tryz.ntmps222
  go_wp2_with (first
    | (go_at_call 251; refine (CE.out _ M0.out).mono ?_; rintro e w1 ⟨rfl, hm1, _⟩; have M1 := hide hm1; clear hm1; have fb := FB.out w1 M1.out)
    | (go_at_call 146; refine (CT.out _ (M1.out.alloc _)).mono ?_; rintro e w3 ⟨rfl, hm3, hb3⟩; have M3 := hide hm3; clear hm3; have G3 := hide (F2.made M1.out er ek f hb3); clear hb3; have fc := FC.out w3 M3.out)
    | (go_at_call 252; refine (CH.out _).mono ?_; rintro e w5 ⟨rfl, hb5⟩; have G5 := hide (G3.out.below hb5); clear hb5))
  obtain ⟨k0, k1, k2, k3, k4, k5, k6, k7⟩ := G5.out.cells
  have th5 := G5.out.mine.there
  have th6 := G5.out.mine.drew.there
  clear CE CT CH FB FC fb fc ga M1 M3 G3
  cases z1 with
  | false =>
    go_region
    all_goals
      go_wp2
      exact bodyPost_ret (ret_cell_tmp Tryz.results222 (a := ⟨w.heap.size, 0, none⟩) rfl (load_stored (cs := [_, _, _, _, _, _, _, _, _]) th6 Tryz.underlying193 rfl size_file)) rfl (RT.out _ _ (Mine.setCells (p := True) ⟨G5.out.mine.drew, trivial⟩ 0 _).below rfl)
  | true =>
    cases z2 with
    | false =>
      go_region
      all_goals
        go_wp2
        exact bodyPost_ret (ret_cell_tmp Tryz.results222 (a := ⟨w.heap.size, 0, none⟩) rfl (load_stored (cs := [_, _, _, _, _, _, _, _, _]) th6 Tryz.underlying193 rfl size_file)) rfl (RT.out _ _ (Mine.setCells (p := True) ⟨G5.out.mine.drew, trivial⟩ 0 _).below rfl)
    | true =>
      cases z3 with
      | false =>
        go_region
        all_goals
          go_wp2
          exact bodyPost_ret (ret_cell_tmp Tryz.results222 (a := ⟨w.heap.size, 0, none⟩) rfl (load_stored (cs := [_, _, _, _, _, _, _, _, _]) th6 Tryz.underlying193 rfl size_file)) rfl (RT.out _ _ (Mine.setCells (p := True) ⟨G5.out.mine.drew, trivial⟩ 0 _).below rfl)
      | true =>
        go_region_law (first
          | (go_simp; go_at_call 224; refine (HA.out _).mono ?_; rintro e w6 ⟨rfl, hb6⟩; have M6 := hide (Mine.call (p := True) ⟨G5.out.mine.drew, trivial⟩ hb6); have th7 := M6.out.there; have G6 := hide (G5.out.below ⟨hb6.os, hb6.tape, hb6.output, hb6.size, hb6.block⟩); obtain ⟨q0, q1, q2, q3, q4, q5, q6, q7⟩ := G6.out.cells; clear hb6; dsimp only))
        all_goals
          go_wp2
          exact bodyPost_ret (ret_cell_tmp Tryz.results222 (a := ⟨w.heap.size, 0, none⟩) rfl (load_stored (cs := [_, _, _, _, _, _, _, _, _]) M6.out.there Tryz.underlying193 rfl size_file)) rfl (RT.out _ _ (Mine.setCells (p := True) ⟨M6.out, trivial⟩ 0 _).below rfl)

/-- readFile, of however many fields -/
theorem readFile_any (B o C : Nat) (fs : List Bs) (hl : fs.length ≤ 6) (hs : ∀ p ∈ fs, p.length ≤ 10000000) (n : Nat) (h1 : 1 ≤ n) (h6 : n ≤ 6) (w : World) (hF : FldO w B o fs) (hg : Glob w) :
    Calls Tryz.prog 222 #[.slice (some ⟨B, o, none⟩) fs.length C, .int .i64 n] w fun e w' => ∃ R : Rec, e = .returned (.tuple #[fileVal R, .bool (fileR n fs).isSome]) ∧ (∀ f, fileR n fs = some f → fIs R f) ∧ Below w.heap.size w w' := by
  match fs, hl, hs, hF with
  | [a, b, c], _, hs, hF => exact readFile_three B o C a b c (hs a (by simp)) (hs b (by simp)) (hs c (by simp)) n h1 h6 w hF hg
  | [a], _, _, hF => exact readFile_one B o C [a] rfl n w hF
  | [], hl, _, _ => exact readFile_else B o C [] (by simp) (by simp) hl n w
  | [a, b], hl, _, _ => exact readFile_else B o C [a, b] (by simp) (by simp) hl n w
  | a :: b :: c :: d :: r, hl, _, _ => exact readFile_else B o C (a :: b :: c :: d :: r) (by simp) (by simp) hl n w

end Go.Proofs.YtaelaldmibgibaaGreatDoor
