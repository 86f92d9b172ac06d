/- The program's readRecord. -/
import Derived.Test.YtaelaldmibgibaaGreatDoorU36
import Derived.Test.YtaelaldmibgibaaGreatDoorU37

set_option linter.unusedVariables false
set_option linter.unusedSimpArgs false

namespace Go.Proofs.YtaelaldmibgibaaGreatDoor
open Go.RowKit Go.Lib

theorem size_record : (Tryz.prog.info? 197).map (·.size) = some 15 := by kernel_rfl
theorem stRecord (p v : Value) : Instr.storeAt 197 p v = stM 197 p v := rfl
theorem run_stRecord (w : World) (b o : Nat) (t : ByteArray) (x0 x1 x2 x3 x4 x5 x6 x7 x8 x9 x10 x11 x12 x13 : Int) (ht : w.there b o 15) :
    (stM 197 (.pointer (some ⟨b, o, none⟩)) (.agg #[.string t, .int .i64 x0, .int .i64 x1, .int .i64 x2, .int .i64 x3, .int .i64 x4, .int .i64 x5, .int .i64 x6, .int .i64 x7, .int .i64 x8, .int .i64 x9, .int .i64 x10, .int .i64 x11, .int .i64 x12, .int .i64 x13])).run Tryz.prog w = .ok () (w.setCells b o [.string t, .int .i64 x0, .int .i64 x1, .int .i64 x2, .int .i64 x3, .int .i64 x4, .int .i64 x5, .int .i64 x6, .int .i64 x7, .int .i64 x8, .int .i64 x9, .int .i64 x10, .int .i64 x11, .int .i64 x12, .int .i64 x13]) :=
  run_storeAt_mid w b o _ #[.string t, .int .i64 x0, .int .i64 x1, .int .i64 x2, .int .i64 x3, .int .i64 x4, .int .i64 x5, .int .i64 x6, .int .i64 x7, .int .i64 x8, .int .i64 x9, .int .i64 x10, .int .i64 x11, .int .i64 x12, .int .i64 x13] ht size_record (by simp [Value.oneCell'])
theorem lfn_zero (n : Nat) : lfn (List.replicate n 0) = fun _ => 0 := by
  funext j
  unfold lfn
  rw [List.getD_eq_getElem?_getD, List.getElem?_replicate]
  split <;> rfl
/-- a file and a time make a record -/
theorem fIs_rec {n : Nat} {k : List Nat} {f : Option FileR} {R : Rec} (h : fIs R f) : (⟨R.text, R.br, R.bn, R.ch, lfn k⟩ : Rec) = toRec (dsOf n k f) := by
  cases f with
  | none =>
    obtain ⟨h1, h2, h3, h4⟩ := h
    unfold toRec dsOf
    simp only [h1, h2, h3, h4, lfn_zero]
    rfl
  | some f =>
    obtain ⟨h1, h2, h3, h4⟩ := h
    unfold toRec dsOf
    simp only [h1, h2, h3, h4]

theorem keep6 {w1 w3 : World} {f : Nat → Int} {ty : TypeId} (hb : Below (w1.alloc (.cells #[.int .i64 (f 0), .int .i64 (f 1), .int .i64 (f 2), .int .i64 (f 3), .int .i64 (f 4), .int .i64 (f 5)] ty)).heap.size (w1.alloc (.cells #[.int .i64 (f 0), .int .i64 (f 1), .int .i64 (f 2), .int .i64 (f 3), .int .i64 (f 4), .int .i64 (f 5)] ty)) w3) (j : Nat) (hj : j < 6) (o' : Obj) : (w3.alloc o').cell? ⟨w1.heap.size, j, none⟩ = some (.int .i64 (f j)) := by
  have hz := hb.size
  simp at hz
  rw [World.cell?_alloc_old _ _ _ (by simp only; omega), hb.cell (by simp)]
  exact built6 w1 f ty j hj
attribute [local go_sem ↓] stRecord
attribute [local go_sem] run_stRecord
set_option maxRecDepth 100000 in
set_option maxHeartbeats 1000000 in
theorem readRecord_any (B o C : Nat) (a : Bs) (fs : List Bs) (hl : fs.length ≤ 5) (hl1 : 1 ≤ fs.length) (hC : fs.length + 1 ≤ C) (hs : ∀ p ∈ a :: fs, p.length ≤ 10000000) (n : Nat) (h1 : 1 ≤ n) (h6 : n ≤ 6) (w : World) (hF : FldO w B o (a :: fs)) (hg : Glob w) :
    Calls Tryz.prog 196 #[.slice (some ⟨B, o, none⟩) (fs.length + 1) C, .int .i64 n] w fun e w' => ∃ R : Rec, e = .returned (.tuple #[recVal R, .bool (recR n (a :: fs)).isSome]) ∧ (∀ d, recR n (a :: fs) = some d → R = toRec d) ∧ Below w.heap.size w w' := by
  have M0 := hide (Mine.made' w #[.string ⟨#[]⟩, .int .i64 0, .int .i64 0, .int .i64 0, .int .i64 0, .int .i64 0, .int .i64 0, .int .i64 0, .int .i64 0, .int .i64 0, .int .i64 0, .int .i64 0, .int .i64 0, .int .i64 0, .int .i64 0] 197 (n := 15) rfl)
  have CT : Hid (∀ W, Mine w w.heap.size 15 W → Calls Tryz.prog 146 #[.string (ofBs a), .int .i64 n] W fun e w' => e = .returned (.tuple #[timeVal (lfn ((timeR n a).getD [])), .bool (timeR n a).isSome]) ∧ Mine w w.heap.size 15 w') := fun W hW => by
    have := ReadTime_any (ofBs a) (by rw [ofBs_size]; exact hs a (by simp)) n h1 h6 W (hg.below hW.below)
    rw [bs_ofBs] at this
    exact this.mono (fun e w' ⟨q, r⟩ => ⟨q, Mine.call (p := True) ⟨hW, trivial⟩ r⟩)
  have CF : Hid (∀ W, Mine w w.heap.size 15 W → Calls Tryz.prog 222 #[.slice (some ⟨B, o + 1, none⟩) fs.length (C - 1), .int .i64 n] W fun e w' => ∃ R : Rec, e = .returned (.tuple #[fileVal R, .bool (fileR n fs).isSome]) ∧ (∀ f, fileR n fs = some f → fIs R f) ∧ Mine w w.heap.size 15 w' ∧ Below W.heap.size W w') := fun W hW => by
    have hF' : FldO W B (o + 1) fs := ⟨fun j p hp => by
      have := (hF.below hW.below).pc (j + 1) p (by simpa using hp)
      rw [show o + 1 + j = o + (j + 1) by omega]
      exact this, (hF.below hW.below).lt⟩
    refine (readFile_any B (o + 1) (C - 1) fs (by omega) (fun p hp => hs p (List.mem_cons_of_mem _ hp)) n h1 h6 W hF' (hg.below hW.below)).mono ?_
    rintro e w' ⟨R, rfl, h2, h3⟩
    exact ⟨R, rfl, h2, Mine.call (p := True) ⟨hW, trivial⟩ h3, h3⟩
  have RT : Hid (∀ (W : World) (R : Rec), Below w.heap.size w W → (∀ f, fileR n fs = some f → fIs R f) → ∃ R' : Rec, Ending.returned (.tuple #[.agg #[.string R.text, .int .i64 R.br, .int .i64 R.bn, .int .i64 (R.ch 0), .int .i64 (R.ch 1), .int .i64 (R.ch 2), .int .i64 (R.ch 3), .int .i64 (R.ch 4), .int .i64 (R.ch 5), .int .i64 (lfn ((timeR n a).getD []) 0), .int .i64 (lfn ((timeR n a).getD []) 1), .int .i64 (lfn ((timeR n a).getD []) 2), .int .i64 (lfn ((timeR n a).getD []) 3), .int .i64 (lfn ((timeR n a).getD []) 4), .int .i64 (lfn ((timeR n a).getD []) 5)], .bool ((timeR n a).isSome && (fileR n fs).isSome)]) = .returned (.tuple #[recVal R', .bool (recR n (a :: fs)).isSome]) ∧ (∀ d, recR n (a :: fs) = some d → R' = toRec d) ∧ Below w.heap.size w W) := fun W R hW hR => by
    have e : recR n (a :: fs) = (timeR n a).bind fun k => (fileR n fs).bind fun f => some (dsOf n k f) := rfl
    refine ⟨⟨R.text, R.br, R.bn, R.ch, lfn ((timeR n a).getD [])⟩, ?_, fun d hd => ?_, hW⟩
    · rw [e]
      cases timeR n a with
      | none => rfl
      | some k => cases fileR n fs <;> rfl
    · rw [e] at hd
      obtain ⟨k, hk, hd⟩ := Option.bind_eq_some_iff.1 hd
      obtain ⟨f, hf, hd⟩ := Option.bind_eq_some_iff.1 hd
      cases hd
      rw [hk]
      exact fIs_rec (hR f hf)
  have ga := (hF.below M0.out.below).pc 0 a rfl
  rw [Nat.add_zero] at ga
  clear hF hg
  generalize (timeR n a).isSome = z1 at *
  generalize lfn ((timeR n a).getD []) = f at *
  generalize recR n (a :: fs) = RR at *
  generalize hz2 : (fileR n fs).isSome = z2 at *
  generalize ofBs a = sa at *
  clear hz2
  unfold timeVal at CT
  unfold fileVal at CF
  have hC1 : ¬ C = 1 := by omega
  generalize hL : fs.length = L at *
  clear hL
  cases z1
  all_goals
    go_enter Tryz.func196, Tryz.ntmps196
    go_wp2_with (first
      | (go_at_call 146; refine (CT.out _ M0.out).mono ?_; rintro e w1 ⟨rfl, hm1⟩; have M1 := hide hm1; clear hm1)
      | (go_at_call 222; refine (CF.out _ (M1.out.alloc _)).mono ?_; rintro e w3 ⟨R, rfl, hR, hm3, hb3⟩; have M3 := hide hm3; have HR := hide hR; have t0 := keep6 hb3 0 (by omega); have t1 := keep6 hb3 1 (by omega); have t2 := keep6 hb3 2 (by omega); have t3 := keep6 hb3 3 (by omega); have t4 := keep6 hb3 4 (by omega); have t5 := keep6 hb3 5 (by omega); have th3 := fun o' => (M3.out.alloc o').there; clear hm3 hR hb3))
    all_goals
      exact bodyPost_ret (ret_cell_tmp Tryz.results196 (a := ⟨w.heap.size, 0, none⟩) rfl (load_stored (cs := [_, _, _, _, _, _, _, _, _, _, _, _, _, _, _]) (M3.out.alloc _).there Tryz.underlying197 rfl size_record)) rfl (RT.out _ R (Mine.setCells (p := True) ⟨M3.out.alloc _, trivial⟩ 0 _).below HR.out)

end Go.Proofs.YtaelaldmibgibaaGreatDoor
