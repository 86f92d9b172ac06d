/- The program's readRecord. The program's cutLine, with the list's room. The program's readRecords: what stands at each round. -/
import Derived.Test.YtaelaldmibgibaaGreatDoorU23
import Derived.Test.YtaelaldmibgibaaGreatDoorU34
import Derived.Test.YtaelaldmibgibaaGreatDoorU12
import Derived.Test.YtaelaldmibgibaaGreatDoorU33

set_option linter.unusedVariables false
set_option linter.unusedSimpArgs false

namespace Go.Proofs.YtaelaldmibgibaaGreatDoor
open Go.RowKit Go.Lib

theorem size_record : (Tryz.prog.info? 197).map (·.size) = some 15 := by kernel_rfl
theorem stRecord (p v : Value) : Instr.storeAt 197 p v = stM 197 p v := rfl
theorem run_stRecord (w : World) (b o : Nat) (t : ByteArray) (x0 x1 x2 x3 x4 x5 x6 x7 x8 x9 x10 x11 x12 x13 : Int) (ht : w.there b o 15) :
    (stM 197 (.pointer (some ⟨b, o, none⟩)) (.agg #[.string t, .int .i64 x0, .int .i64 x1, .int .i64 x2, .int .i64 x3, .int .i64 x4, .int .i64 x5, .int .i64 x6, .int .i64 x7, .int .i64 x8, .int .i64 x9, .int .i64 x10, .int .i64 x11, .int .i64 x12, .int .i64 x13])).run Tryz.prog w = .ok () (w.setCells b o [.string t, .int .i64 x0, .int .i64 x1, .int .i64 x2, .int .i64 x3, .int .i64 x4, .int .i64 x5, .int .i64 x6, .int .i64 x7, .int .i64 x8, .int .i64 x9, .int .i64 x10, .int .i64 x11, .int .i64 x12, .int .i64 x13]) :=
  run_storeAt_mid w b o _ #[.string t, .int .i64 x0, .int .i64 x1, .int .i64 x2, .int .i64 x3, .int .i64 x4, .int .i64 x5, .int .i64 x6, .int .i64 x7, .int .i64 x8, .int .i64 x9, .int .i64 x10, .int .i64 x11, .int .i64 x12, .int .i64 x13] ht size_record (by simp [Value.oneCell'])
theorem lfn_zero (n : Nat) : lfn (List.replicate n 0) = fun _ => 0 := by
  funext j
  unfold lfn
  rw [List.getD_eq_getElem?_getD, List.getElem?_replicate]
  split <;> rfl
/-- a file and a time make a record -/
theorem fIs_rec {n : Nat} {k : List Nat} {f : Option FileR} {R : Rec} (h : fIs R f) : (⟨R.text, R.br, R.bn, R.ch, lfn k⟩ : Rec) = toRec (dsOf n k f) := by
  cases f with
  | none =>
    obtain ⟨h1, h2, h3, h4⟩ := h
    unfold toRec dsOf
    simp only [h1, h2, h3, h4, lfn_zero]
    rfl
  | some f =>
    obtain ⟨h1, h2, h3, h4⟩ := h
    unfold toRec dsOf
    simp only [h1, h2, h3, h4]

theorem keep6 {w1 w3 : World} {f : Nat → Int} {ty : TypeId} (hb : Below (w1.alloc (.cells #[.int .i64 (f 0), .int .i64 (f 1), .int .i64 (f 2), .int .i64 (f 3), .int .i64 (f 4), .int .i64 (f 5)] ty)).heap.size (w1.alloc (.cells #[.int .i64 (f 0), .int .i64 (f 1), .int .i64 (f 2), .int .i64 (f 3), .int .i64 (f 4), .int .i64 (f 5)] ty)) w3) (j : Nat) (hj : j < 6) (o' : Obj) : (w3.alloc o').cell? ⟨w1.heap.size, j, none⟩ = some (.int .i64 (f j)) := by
  have hz := hb.size
  simp at hz
  rw [World.cell?_alloc_old _ _ _ (by simp only; omega), hb.cell (by simp)]
  exact built6 w1 f ty j hj
attribute [local go_sem ↓] stRecord
attribute [local go_sem] run_stRecord
set_option maxRecDepth 100000 in
set_option maxHeartbeats 1000000 in
theorem readRecord_any (B o C : Nat) (a : Bs) (fs : List Bs) (hl : fs.length ≤ 5) (hl1 : 1 ≤ fs.length) (hC : fs.length + 1 ≤ C) (hs : ∀ p ∈ a :: fs, p.length ≤ 10000000) (n : Nat) (h1 : 1 ≤ n) (h6 : n ≤ 6) (w : World) (hF : FldO w B o (a :: fs)) (hg : Glob w) :
    Calls Tryz.prog 196 #[.slice (some ⟨B, o, none⟩) (fs.length + 1) C, .int .i64 n] w fun e w' => ∃ R : Rec, e = .returned (.tuple #[recVal R, .bool (recR n (a :: fs)).isSome]) ∧ (∀ d, recR n (a :: fs) = some d → R = toRec d) ∧ Below w.heap.size w w' := by
  have M0 := hide (Mine.made' w #[.string ⟨#[]⟩, .int .i64 0, .int .i64 0, .int .i64 0, .int .i64 0, .int .i64 0, .int .i64 0, .int .i64 0, .int .i64 0, .int .i64 0, .int .i64 0, .int .i64 0, .int .i64 0, .int .i64 0, .int .i64 0] 197 (n := 15) rfl)
  have CT : Hid (∀ W, Mine w w.heap.size 15 W → Calls Tryz.prog 146 #[.string (ofBs a), .int .i64 n] W fun e w' => e = .returned (.tuple #[timeVal (lfn ((timeR n a).getD [])), .bool (timeR n a).isSome]) ∧ Mine w w.heap.size 15 w') := fun W hW => by
    have := ReadTime_any (ofBs a) (by rw [ofBs_size]; exact hs a (by simp)) n h1 h6 W (hg.below hW.below)
    rw [bs_ofBs] at this
    exact this.mono (fun e w' ⟨q, r⟩ => ⟨q, Mine.call (p := True) ⟨hW, trivial⟩ r⟩)
  have CF : Hid (∀ W, Mine w w.heap.size 15 W → Calls Tryz.prog 222 #[.slice (some ⟨B, o + 1, none⟩) fs.length (C - 1), .int .i64 n] W fun e w' => ∃ R : Rec, e = .returned (.tuple #[fileVal R, .bool (fileR n fs).isSome]) ∧ (∀ f, fileR n fs = some f → fIs R f) ∧ Mine w w.heap.size 15 w' ∧ Below W.heap.size W w') := fun W hW => by
    have hF' : FldO W B (o + 1) fs := ⟨fun j p hp => by
      have := (hF.below hW.below).pc (j + 1) p (by simpa using hp)
      rw [show o + 1 + j = o + (j + 1) by omega]
      exact this, (hF.below hW.below).lt⟩
    refine (readFile_any B (o + 1) (C - 1) fs (by omega) (fun p hp => hs p (List.mem_cons_of_mem _ hp)) n h1 h6 W hF' (hg.below hW.below)).mono ?_
    rintro e w' ⟨R, rfl, h2, h3⟩
    exact ⟨R, rfl, h2, Mine.call (p := True) ⟨hW, trivial⟩ h3, h3⟩
  have RT : Hid (∀ (W : World) (R : Rec), Below w.heap.size w W → (∀ f, fileR n fs = some f → fIs R f) → ∃ R' : Rec, Ending.returned (.tuple #[.agg #[.string R.text, .int .i64 R.br, .int .i64 R.bn, .int .i64 (R.ch 0), .int .i64 (R.ch 1), .int .i64 (R.ch 2), .int .i64 (R.ch 3), .int .i64 (R.ch 4), .int .i64 (R.ch 5), .int .i64 (lfn ((timeR n a).getD []) 0), .int .i64 (lfn ((timeR n a).getD []) 1), .int .i64 (lfn ((timeR n a).getD []) 2), .int .i64 (lfn ((timeR n a).getD []) 3), .int .i64 (lfn ((timeR n a).getD []) 4), .int .i64 (lfn ((timeR n a).getD []) 5)], .bool ((timeR n a).isSome && (fileR n fs).isSome)]) = .returned (.tuple #[recVal R', .bool (recR n (a :: fs)).isSome]) ∧ (∀ d, recR n (a :: fs) = some d → R' = toRec d) ∧ Below w.heap.size w W) := fun W R hW hR => by
    have e : recR n (a :: fs) = (timeR n a).bind fun k => (fileR n fs).bind fun f => some (dsOf n k f) := rfl
    refine ⟨⟨R.text, R.br, R.bn, R.ch, lfn ((timeR n a).getD [])⟩, ?_, fun d hd => ?_, hW⟩
    · rw [e]
      cases timeR n a with
      | none => rfl
      | some k => cases fileR n fs <;> rfl
    · rw [e] at hd
      obtain ⟨k, hk, hd⟩ := Option.bind_eq_some_iff.1 hd
      obtain ⟨f, hf, hd⟩ := Option.bind_eq_some_iff.1 hd
      cases hd
      rw [hk]
      exact fIs_rec (hR f hf)
  have ga := (hF.below M0.out.below).pc 0 a rfl
  rw [Nat.add_zero] at ga
  clear hF hg
  generalize (timeR n a).isSome = z1 at *
  generalize lfn ((timeR n a).getD []) = f at *
  generalize recR n (a :: fs) = RR at *
  generalize hz2 : (fileR n fs).isSome = z2 at *
  generalize ofBs a = sa at *
  clear hz2
  unfold timeVal at CT
  unfold fileVal at CF
  have hC1 : ¬ C = 1 := by omega
  generalize hL : fs.length = L at *
  clear hL
  cases z1
  all_goals
    go_enter Tryz.func196, Tryz.ntmps196
    go_wp2_with (first
      | (go_at_call 146; refine (CT.out _ M0.out).mono ?_; rintro e w1 ⟨rfl, hm1⟩; have M1 := hide hm1; clear hm1)
      | (go_at_call 222; refine (CF.out _ (M1.out.alloc _)).mono ?_; rintro e w3 ⟨R, rfl, hR, hm3, hb3⟩; have M3 := hide hm3; have HR := hide hR; have t0 := keep6 hb3 0 (by omega); have t1 := keep6 hb3 1 (by omega); have t2 := keep6 hb3 2 (by omega); have t3 := keep6 hb3 3 (by omega); have t4 := keep6 hb3 4 (by omega); have t5 := keep6 hb3 5 (by omega); have th3 := fun o' => (M3.out.alloc o').there; clear hm3 hR hb3))
    all_goals
      exact bodyPost_ret (ret_cell_tmp Tryz.results196 (a := ⟨w.heap.size, 0, none⟩) rfl (load_stored (cs := [_, _, _, _, _, _, _, _, _, _, _, _, _, _, _]) (M3.out.alloc _).there Tryz.underlying197 rfl size_record)) rfl (RT.out _ R (Mine.setCells (p := True) ⟨M3.out.alloc _, trivial⟩ 0 _).below HR.out)

end Go.Proofs.YtaelaldmibgibaaGreatDoor

namespace Go.Proofs.YtaelaldmibgibaaGreatDoor
open Go.RowKit Go.Lib

theorem split_cap (c : UInt8) (s : ByteArray) (m : Nat) (hm : 1 ≤ m) (hm6 : m ≤ 1000) (hs : s.size ≤ 10000000) (w : World) (hg : Glob w) :
    Calls Tryz.prog 195 #[.string s, .string ⟨#[c]⟩, .int .i64 m] w fun e w' => ∃ C, e = .returned (.slice (some ⟨w.heap.size, 0, none⟩) (splitN (bs s) [c] m).length C) ∧ (∀ (j : Nat) p, (splitN (bs s) [c] m)[j]? = some p → w'.cell? ⟨w.heap.size, j, none⟩ = some (.string (ofBs p))) ∧ w.heap.size < w'.heap.size ∧ Below w.heap.size w w' ∧ (splitN (bs s) [c] m).length ≤ C := by
  obtain ⟨mx, hmx⟩ := hg.max
  refine (Tryz.strings_SplitN s ⟨#[c]⟩ m mx w (by omega) hmx (Nat.le_refl 1) hm (by omega)).mono ?_
  rintro e w' ⟨rfl, rfl⟩
  have hd := splitB_data (⟨#[c]⟩ : ByteArray) 0 (min m (s.size + 1) - 1) s
  have hd' : (splitB ⟨#[c]⟩ 0 (min m (s.size + 1) - 1) s).map (·.data.toList) = splitN (bs s) [c] m := by
    rw [hd]
    unfold splitN
    rw [bs_len]
    rfl
  have hle := splitB_length_le (⟨#[c]⟩ : ByteArray) 0 (min m (s.size + 1) - 1) s
  generalize splitB ⟨#[c]⟩ 0 (min m (s.size + 1) - 1) s = ps at *
  refine ⟨min m (s.size + 1), ?_, fun j p hp => ?_, by simp, (Below.refl _ _).alloc (Nat.le_refl _) _, ?_⟩
  · rw [← hd', List.length_map]
  · rw [← hd', List.getElem?_map] at hp
    obtain ⟨q, hq, rfl⟩ := Option.map_eq_some_iff.1 hp
    have hj := (List.getElem?_eq_some_iff.1 hq).1
    simp only [World.cell?, heap_alloc_new, cellsOf]
    rw [List.getElem?_toArray, List.getElem?_append_left (by simpa using hj), List.getElem?_map, hq]
    rfl
  · rw [← hd', List.length_map]
    omega

set_option maxHeartbeats 400000 in
theorem cutLine_cap (t : ByteArray) (ht : t.size ≤ 10000000) (w : World) (hg : Glob w) :
    Calls Tryz.prog 145 #[.string t] w fun e w' => ∃ B C, e = .returned (.tuple #[.slice (some ⟨B, 0, none⟩) (fieldsR (bs t)).length C, .string (ofBs (restR (bs t)))]) ∧ Flds w' B (fieldsR (bs t)) ∧ w.heap.size ≤ B ∧ Below w.heap.size w w' ∧ (fieldsR (bs t)).length ≤ C := by
  have CU : Hid (Calls Tryz.prog 79 #[.string t, .string ⟨#[10]⟩] w fun e w' => e = .returned (.tuple #[.string (ofBs (lineR (bs t))), .string (ofBs (restR (bs t))), .bool (Lib.cut (bs t) [10]).2.2]) ∧ ∃ n, w' = w.drewN n) := cut_any 10 t ht w hg
  have SP : Hid (∀ m, Calls Tryz.prog 195 #[.string (ofBs (lineR (bs t))), .string ⟨#[32]⟩, .int .i64 6] (w.drewN m) fun e w' => ∃ C, e = .returned (.slice (some ⟨w.heap.size, 0, none⟩) (fieldsR (bs t)).length C) ∧ Flds w' w.heap.size (fieldsR (bs t)) ∧ Below w.heap.size w w' ∧ (fieldsR (bs t)).length ≤ C) := fun m => by
    have hb : Below w.heap.size w (w.drewN m) := ⟨rfl, rfl, rfl, Nat.le_refl _, fun _ _ => rfl⟩
    have hsz := (cut_size 10 (bs t)).1
    rw [bs_len] at hsz
    refine (split_cap 32 (ofBs (lineR (bs t))) 6 (by omega) (by omega) (by rw [← bs_len, bs_ofBs]; unfold lineR; omega) (w.drewN m) (hg.below hb)).mono ?_
    rintro e w' ⟨C, rfl, hpc, hlt, hb', hcp⟩
    rw [bs_ofBs] at hpc hcp ⊢
    exact ⟨C, rfl, ⟨hpc, hlt⟩, below_step hb hb', hcp⟩
  generalize (Lib.cut (bs t) [10]).2.2 = f at *
  generalize fieldsR (bs t) = fs at *
  generalize ofBs (lineR (bs t)) = ln at *
  generalize ofBs (restR (bs t)) = rs at *
  clear hg
  go_enter Tryz.func145, Tryz.ntmps145
  go_wp2_with (first
    | (go_at_call 79; refine (CU.out).mono ?_; rintro e w1 ⟨rfl, m, rfl⟩)
    | (go_at_call 195; refine (SP.out m).mono ?_; rintro e w2 ⟨C, rfl, hF, hb, hcp⟩))
  go_ret2
  exact ⟨_, _, rfl, hF, Nat.le_refl _, hb, hcp⟩

end Go.Proofs.YtaelaldmibgibaaGreatDoor

namespace Go.Proofs.YtaelaldmibgibaaGreatDoor
open Go.RowKit Go.Lib Go.Maps

theorem rest_sh {t : Bs} (h : t ≠ []) : (restR t).length < t.length := by
  have h0 : 0 < t.length := List.length_pos_iff.2 h
  rcases line_cases t with ⟨_, q, _⟩ | ⟨q, _⟩
  · rw [q]; exact h0
  · have := congrArg List.length q
    simp at this
    omega
theorem fields_nil {t : Bs} (h : ¬ (fieldsR t).length < 3) : t ≠ [] := by
  rintro rfl
  have := fields_len []
  simp [blanks] at this
  omega
theorem recsR_fuel (n s : Nat) (cm : Nat → Int) : ∀ (f g : Nat) (t : Bs) (last : ByteArray), t.length < f → t.length < g → recsR n s cm f t last = recsR n s cm g t last := by
  intro f
  induction f with
  | zero => intro g t last h; omega
  | succ f ih =>
    intro g t last hf hg
    cases g with
    | zero => omega
    | succ g =>
      unfold recsR
      by_cases h3 : (fieldsR t).length < 3
      · rw [if_pos h3, if_pos h3]
      · rw [if_neg h3, if_neg h3]
        have hr := rest_sh (fields_nil h3)
        rw [ih g (restR t) _ (by omega) (by omega)]
theorem recsR_step (n s : Nat) (cm : Nat → Int) (x : ByteArray) (last : ByteArray) (h3 : ¬ (fieldsR (bs x)).length < 3) : recsR n s cm (x.size + 1) (bs x) last =
    (recR n (fieldsR (bs x)).tail).bind fun d => if (pathOk (ofBs ((fieldsR (bs x)).headD [])) && slt last (ofBs ((fieldsR (bs x)).headD [])) && couldB s cm (toRec d)) = true then
        (recsR n s cm ((ofBs (restR (bs x))).size + 1) (bs (ofBs (restR (bs x)))) (ofBs ((fieldsR (bs x)).headD []))).map fun y => (y.1, (ofBs ((fieldsR (bs x)).headD []), d) :: y.2) else none := by
  have hr := rest_sh (fields_nil h3)
  rw [bs_len] at hr
  conv => lhs; unfold recsR
  rw [if_neg h3, bs_ofBs, ofBs_size, recsR_fuel n s cm x.size ((restR (bs x)).length + 1) (restR (bs x)) _ (by omega) (by omega)]

theorem recsR_one (n s : Nat) (cm : Nat → Int) (x : ByteArray) (last : ByteArray) {p a : Bs} {fs : List Bs} (hf : fieldsR (bs x) = p :: a :: fs) (h3 : 1 ≤ fs.length) : recsR n s cm (x.size + 1) (bs x) last =
    (recR n (a :: fs)).bind fun d => if (pathOk (ofBs p) && slt last (ofBs p) && couldB s cm (toRec d)) = true then
        (recsR n s cm ((ofBs (restR (bs x))).size + 1) (bs (ofBs (restR (bs x)))) (ofBs p)).map fun y => (y.1, (ofBs p, d) :: y.2) else none := by
  have := recsR_step n s cm x last (by rw [hf]; simp; omega)
  rw [hf] at this
  exact this

/-- while records are read: the text that is left, the last path, what was read -/
structure RI (w wr : World) (rb s : Nat) (cm : Nat → Int) (mb n : Nat) (A : Option (Bs × Drs)) (x last : ByteArray) (D : Drs) : Prop where
  rp : Rp wr rb s cm mb (toE D)
  fr : Fr (fun k => k = mb) w wr
  eq : A = (recsR n s cm (x.size + 1) (bs x) last).map (fun y => (y.1, D ++ y.2))
  len : D.length + x.size ≤ 10000000
  ord : ∀ y ∈ D, y.1 = last ∨ slt y.1 last = true
  rise : D.Pairwise (fun x y => slt x.1 y.1 = true)
section
variable {w wr : World} {rb s mb n : Nat} {cm : Nat → Int} {A : Option (Bs × Drs)} {x last : ByteArray} {D : Drs}
theorem RI.done (h : RI w wr rb s cm mb n A x last D) (h3 : (fieldsR (bs x)).length < 3) : A = some (bs x, D) := by
  rw [h.eq]
  unfold recsR
  rw [if_pos h3]
  simp
theorem RI.stop (h : RI w wr rb s cm mb n A x last D) {p a : Bs} {fs : List Bs} (hf : fieldsR (bs x) = p :: a :: fs) (h3 : 1 ≤ fs.length)
    (hbad : recR n (a :: fs) = none ∨ ∃ d, recR n (a :: fs) = some d ∧ (pathOk (ofBs p) && slt last (ofBs p) && couldB s cm (toRec d)) = false) : A = none := by
  rw [h.eq, recsR_one n s cm x last hf h3]
  rcases hbad with e | ⟨d, e, hc⟩
  · rw [e]; rfl
  · rw [e]
    simp only [Option.bind_some]
    rw [if_neg (by rw [hc]; simp)]
    rfl
theorem RI.paths (h : RI w wr rb s cm mb n A x last D) {q : ByteArray} (hq : slt last q = true) : ∀ y ∈ D, slt y.1 q = true := fun y hy => by
  rcases h.ord y hy with e | e
  · rw [e]; exact hq
  · exact slt_trans e hq
theorem RI.next (h : RI w wr rb s cm mb n A x last D) {w5 : World} {p a : Bs} {fs : List Bs} {d : DS} (hf : fieldsR (bs x) = p :: a :: fs) (h3 : 1 ≤ fs.length) (hd : recR n (a :: fs) = some d)
    (hp : pathOk (ofBs p) = true) (hs : slt last (ofBs p) = true) (hc : couldB s cm (toRec d) = true) (h5 : Rp w5 rb s cm mb (putE (ofBs p) (toRec d) (toE D))) (hfr : Fr (fun k => k = mb) w w5) :
    RI w w5 rb s cm mb n A (ofBs (restR (bs x))) (ofBs p) (D ++ [(ofBs p, d)]) := by
  have h3' : ¬ (fieldsR (bs x)).length < 3 := by rw [hf]; simp; omega
  have hr := rest_sh (fields_nil h3')
  rw [bs_len] at hr
  rw [toE_put D _ d (h.paths hs)] at h5
  refine ⟨h5, hfr, ?_, ?_, ?_, ?_⟩
  · rw [h.eq, recsR_one n s cm x last hf h3]
    rw [hd]
    simp only [Option.bind_some]
    rw [if_pos (by rw [hp, hs, hc]; rfl), Option.map_map]
    congr 1
    funext y
    simp
  · have := h.len
    rw [ofBs_size]
    simp
    omega
  · intro y hy
    rcases List.mem_append.1 hy with hy | hy
    · exact .inr (h.paths hs y hy)
    · simp only [List.mem_singleton] at hy
      rw [hy]
      exact .inl rfl
  · rw [List.pairwise_append]
    refine ⟨h.rise, List.pairwise_singleton _ _, fun a ha b hb => ?_⟩
    simp only [List.mem_singleton] at hb
    rw [hb]
    exact h.paths hs a ha
end
/-- what readRecords answers -/
def RAns (A : Option (Bs × Drs)) (w' : World) (rb s : Nat) (cm : Nat → Int) (mb : Nat) (e : Ending) : Prop := match A with
  | none => e = .returned (.tuple #[.string ⟨#[]⟩, .bool false])
  | some y => e = .returned (.tuple #[.string (ofBs y.1), .bool true]) ∧ Rp w' rb s cm mb (toE y.2)
def strSz : Value → Nat
  | .string s => s.size
  | _ => 0

end Go.Proofs.YtaelaldmibgibaaGreatDoor
