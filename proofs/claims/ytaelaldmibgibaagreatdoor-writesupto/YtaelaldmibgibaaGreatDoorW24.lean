/- The program's replica as a whole (PRep); Look. The program's replica: recordOf, Read; file.write, hear, remove in a record's block. The program's replica: how it stands while a record is written (St); each call of Write and Remove carries it on. The program's replica: Write. -/
import Derived.Test.YtaelaldmibgibaaGreatDoorW21
import Derived.Test.YtaelaldmibgibaaGreatDoorW23

set_option linter.unusedVariables false
set_option linter.unusedSimpArgs false

namespace Go.Proofs.YtaelaldmibgibaaGreatDoor
open Go.RowKit Go.Maps
attribute [local go_sem ↓] stState
attribute [local go_sem] run_stState

/-- a replica of the program's: its number, its map's block, its count, its records -/
structure PRep (w : World) (rb s mb : Nat) (c : Int) (E : Recs) : Prop where
  rep : RepAt w rb s (tf s c) mb
  own : w.ownsMap Tryz.prog 9 recElem mb E.length (datOf E)
  ris : RisingE E
  bn : ∀ x ∈ E, 0 < x.2.bn
  kn : ∀ x ∈ E, ∀ j, j < 6 → j ≠ s → x.2.kn j = 0
  len : E.length ≤ 20
  c0 : 0 ≤ c
theorem PRep.keep {w w' : World} {rb s mb : Nat} {c : Int} {E : Recs} (h : PRep w rb s mb c E) (h1 : w'.heap[rb]? = w.heap[rb]?) (h2 : w'.heap[mb]? = w.heap[mb]?) : PRep w' rb s mb c E :=
  ⟨h.rep.keep h1, ownsMap_keep h.own h2, h.ris, h.bn, h.kn, h.len, h.c0⟩
theorem PRep.below {w w' : World} {rb s mb : Nat} {c : Int} {E : Recs} (h : PRep w rb s mb c E) (hb : Below w.heap.size w w') : PRep w' rb s mb c E := h.keep (hb.block _ h.rep.lt) (hb.block _ h.own.lt)
theorem tf_self (s : Nat) (c : Int) (hs : s < 6) : tf s c s = c := by
  unfold tf one
  match s, hs with
  | 0, _ | 1, _ | 2, _ | 3, _ | 4, _ | 5, _ => rfl
theorem tf_other (s : Nat) (c : Int) (j : Nat) (hj : j ≠ s) : tf s c j = 0 := by
  unfold tf one
  rw [List.getD_eq_getElem?_getD, List.getElem?_set_ne (fun e => hj e.symm)]
  by_cases h : j < 6
  · rw [List.getElem?_replicate, if_pos h]; rfl
  · rw [List.getElem?_replicate, if_neg h]; rfl

/-- len(m) as a step of a region that draws -/
theorem step_len_own {ops : Array Oper} {o : Oper} {a : Act} {w : World} {K : Act → World → Prop} {Q : Exit → Act → World → Prop} {G : Prop}
    (hg : o.guard = none) (m : Operand) (t : TypeId) (hop : o.op = Op.call { callee := Callee.builtin Builtin.len, args := #[m], argTypes := #[t] })
    (k e : TypeId) (ht : Tryz.prog.underlying t = some (.map k e)) (R : Value → Option (DataW Unit × List MemPlace)) (b n : Nat) (D : DataW Unit) (hm : a.eval m = .map (some b)) (hown : w.ownsMap Tryz.prog k R b n D) (z : Nat) (hz : Maps.size D = z)
    (hK : K (a.put o.dst (.int .i64 z)) w) : if Region.wanted o (yielded ops a.tmps) = true then Oper.wp Tryz.prog o a w K Q else G := by
  have hw : Region.wanted o (yielded ops a.tmps) = true := by simp [Region.wanted, hg]
  rw [if_pos hw]
  subst hz
  unfold Oper.wp
  simp [execOp, hop, resolve, invoke, builtin, hm, hown.len ht o.type, Result.andThen]
  exact hK

set_option maxRecDepth 100000 in
set_option maxHeartbeats 1000000 in
theorem plook_any (rb s mb : Nat) (c : Int) (E : Recs) (w : World) (h : PRep w rb s mb c E) :
    Calls Tryz.prog 148 #[.pointer (some ⟨rb, 0, none⟩)] w fun e w' => e = .returned (.agg #[.int .i64 c, .int .i64 E.length, .int .i64 E.length]) ∧ Below w.heap.size w w' := by
  have MB : Hid (Mine w w.heap.size 3 ((w.alloc (.cells #[.int .i64 0, .int .i64 0, .int .i64 0] 166)).drewN 1)) := mine_drewN (Mine.made' w #[.int .i64 0, .int .i64 0, .int .i64 0] 166 (n := 3) rfl) 1
  have CN : Hid (∀ V, Mine w w.heap.size 3 V → Calls Tryz.prog 168 #[.pointer (some ⟨rb, 0, none⟩)] V fun e w' => e = .returned (.int .i64 c) ∧ Mine w w.heap.size 3 w') := by
    intro V hM
    have := count_any rb s (tf s c) mb V (h.below hM.below).rep
    rw [tf_self s c h.rep.hs] at this
    refine this.mono ?_
    rintro e w' ⟨rfl, nq, rfl⟩
    exact ⟨rfl, mine_drewN hM nq⟩
  have FN : Hid (∀ V, Mine w w.heap.size 3 V → Calls Tryz.prog 129 #[.pointer (some ⟨rb, 0, none⟩)] V fun e w' => e = .returned (.int .i64 E.length) ∧ Mine w w.heap.size 3 w') := by
    intro V hM
    have hV := h.below hM.below
    refine (pfiles_any rb s _ mb V hV.rep E h.ris (by have := h.len; omega) h.bn hV.own).mono ?_
    rintro e w' ⟨rfl, hb⟩
    exact ⟨rfl, Mine.call (p := True) ⟨hM, trivial⟩ hb⟩
  have ON : Hid (∀ V, Mine w w.heap.size 3 V → V.ownsMap Tryz.prog 9 recElem mb E.length (datOf E)) := fun V hM => (h.below hM.below).own
  have C7 : Hid (∀ V, Mine w w.heap.size 3 V → V.cell? ⟨rb, 7, none⟩ = some (.map (some mb))) := fun V hM => (h.below hM.below).rep.c7
  have hlt := h.rep.lt
  have hne : rb ≠ w.heap.size := by omega
  have c7 := h.rep.c7
  have ez := size_datOf E
  have EZ := hide ez
  clear h ez
  go_enter Tryz.func148, Tryz.ntmps148
  go_wp2
  go_region_law (first
    | (go_simp; go_at_call 168; refine (CN.out _ (by first | exact MF.out | exact MB.out)).mono ?_; rintro e w1 ⟨rfl, M1r⟩; have MC := hide M1r; have d7 := C7.out w1 M1r; have dth := M1r.there; clear M1r; dsimp only)
    | (go_simp; go_at_call 129; refine (FN.out _ (by first | exact MC.out | exact MB.out)).mono ?_; rintro e w2 ⟨rfl, M2r⟩; have MF := hide M2r; have f7 := C7.out w2 M2r; have fth := M2r.there; clear M2r; dsimp only)
    | (refine step_len_own rfl _ _ rfl 9 197 Tryz.underlying184 recElem mb E.length (datOf E) rfl (by first | exact ON.out _ MB.out | exact ON.out _ MC.out | exact ON.out _ MF.out) _ EZ.out ?_; dsimp only))
  all_goals
    go_wp2
    first
      | exact bodyPost_ret (ret_cell1 Tryz.results148 (a := ⟨w.heap.size, 0, none⟩) rfl (load_stored (cs := [_, _, _]) MF.out.there Tryz.underlying166 rfl size_State)) rfl ⟨rfl, (Mine.setCells (p := True) ⟨MF.out, trivial⟩ 0 _).below⟩
      | exact bodyPost_ret (ret_cell1 Tryz.results148 (a := ⟨w.heap.size, 0, none⟩) rfl (load_stored (cs := [_, _, _]) MC.out.there Tryz.underlying166 rfl size_State)) rfl ⟨rfl, (Mine.setCells (p := True) ⟨MC.out, trivial⟩ 0 _).below⟩

end Go.Proofs.YtaelaldmibgibaaGreatDoor

namespace Go.Proofs.YtaelaldmibgibaaGreatDoor
open Go.RowKit Go.Maps

/-- what recordOf answers -/
def recOf (s : Nat) (c : Int) : Option Rec → Rec
  | some R => ⟨R.text, R.br, R.bn, R.ch, upT R.kn s c⟩
  | none => ⟨⟨#[]⟩, 0, 0, fun _ => 0, tf s c⟩

theorem recordOf_any (rb s mb : Nat) (c : Int) (E : Recs) (w : World) (h : PRep w rb s mb c E) (p : ByteArray) (hp : p.size ≤ maxLen) :
    Calls Tryz.prog 104 #[.pointer (some ⟨rb, 0, none⟩), .string p] w fun e w' => e = .returned (recVal (recOf s c (getE p E))) ∧ Below w.heap.size w w' := by
  cases hg : getE p E with
  | some R =>
    have := recordOf_kept rb s (tf s c) mb w h.rep E.length (datOf E) h.own p hp R (by have := has_datOf p E; rw [hg] at this; exact this) (by have := atKey_datOf p E (recDat rec0); rw [hg] at this; exact this)
    rw [tf_self s c h.rep.hs] at this
    exact this
  | none =>
    exact recordOf_new rb s (tf s c) mb w h.rep E.length (datOf E) h.own p hp (by have := has_datOf p E; rw [hg] at this; exact this) (by have := atKey_datOf p E (recDat rec0); rw [hg] at this; exact this)

theorem getE_bn {w : World} {rb s mb : Nat} {c : Int} {E : Recs} (h : PRep w rb s mb c E) {p : ByteArray} {R : Rec} (hg : getE p E = some R) : 0 < R.bn := h.bn _ (mem_getE hg)

set_option maxRecDepth 100000 in
set_option maxHeartbeats 800000 in
theorem pread_some (rb s mb : Nat) (c : Int) (E : Recs) (w : World) (h : PRep w rb s mb c E) (p : ByteArray) (hp : p.size ≤ maxLen) (R : Rec) (hg : getE p E = some R) :
    Calls Tryz.prog 63 #[.pointer (some ⟨rb, 0, none⟩), .string p] w fun e w' => e = .returned (.tuple #[.string R.text, .int .i64 0]) ∧ Below w.heap.size w w' := by
  have C := recordOf_any rb s mb c E w h p hp
  rw [hg] at C
  have hd0 : decide (0 < R.bn) = true := by simp [getE_bn h hg]
  simp only [recOf, recVal] at C
  have CH := hide C
  clear C hg h
  go_enter Tryz.func63, Tryz.ntmps63
  go_wp2_with (first
    | (go_at_call 104; refine CH.out.mono ?_; rintro e w1 ⟨rfl, hb1r⟩; have hb1 := hide hb1r; clear hb1r)
    | (go_at_call 113; refine (isThere_any _ _ _ _ _ _ _ _ _ _).mono ?_; rintro e w2 ⟨rfl, hb2r⟩; have t0 : w2.cell? ⟨w1.heap.size, 0, none⟩ = some (.string R.text) := (hb2r.cell (p := ⟨w1.heap.size, 0, none⟩) (by simp)).trans (by simp [go_sem]); have hb2 := hide (below_more hb1.out hb2r); clear hb2r))
  go_ret2
  exact ⟨rfl, hb2.out⟩

set_option maxRecDepth 100000 in
set_option maxHeartbeats 800000 in
theorem pread_none (rb s mb : Nat) (c : Int) (E : Recs) (w : World) (h : PRep w rb s mb c E) (p : ByteArray) (hp : p.size ≤ maxLen) (hg : getE p E = none) :
    Calls Tryz.prog 63 #[.pointer (some ⟨rb, 0, none⟩), .string p] w fun e w' => e = .returned (.tuple #[.string ⟨#[]⟩, .int .i64 4]) ∧ Below w.heap.size w w' := by
  have C := recordOf_any rb s mb c E w h p hp
  rw [hg] at C
  simp only [recOf, recVal] at C
  have CH := hide C
  clear C hg h
  go_enter Tryz.func63, Tryz.ntmps63
  go_wp2_with (first
    | (go_at_call 104; refine CH.out.mono ?_; rintro e w1 ⟨rfl, hb1r⟩; have hb1 := hide hb1r; clear hb1r)
    | (go_at_call 113; refine (isThere_any _ _ _ _ _ _ _ _ _ _).mono ?_; rintro e w2 ⟨rfl, hb2r⟩; have hb2 := hide (below_more hb1.out hb2r); clear hb2r))
  go_ret2
  exact ⟨rfl, hb2.out⟩

theorem RecAt.lt {w b R} (h : RecAt w b R) : b < w.heap.size := (Array.getElem?_eq_some_iff.1 h.blk).1
theorem RecAt.keep {w w' b R} (h : RecAt w b R) (hk : w'.heap[b]? = w.heap[b]?) : RecAt w' b R := ⟨by rw [hk]; exact h.blk⟩
theorem RecAt.more {w w' b R} (h : RecAt w b R) (hb : Below w.heap.size w w') : RecAt w' b R := h.keep (hb.block _ h.lt)
theorem RecAt.file {w b R} (h : RecAt w b R) : File0 w b R.text R.br R.bn R.ch := by
  obtain ⟨k0, k1, k2, k3, k4, k5, k6, k7, k8, _⟩ := h.cells
  exact ⟨k0, k1, k2, k3, k4, k5, k6, k7, k8, h.fz, h.lt⟩
theorem RecAt.at9 {w b R} (h : RecAt w b R) : At9 w b R.kn := by
  obtain ⟨_, _, _, _, _, _, _, _, _, k9, k10, k11, k12, k13, k14⟩ := h.cells
  exact ⟨k9, k10, k11, k12, k13, k14, h.fz, h.lt⟩
theorem RecAt.setText {w b R} (h : RecAt w b R) (t : ByteArray) : RecAt (w.setCell ⟨b, 0, none⟩ (.string t)) b ⟨t, R.br, R.bn, R.ch, R.kn⟩ := by
  constructor
  have h1 := heap_setCell_same w b 0 _ _ (.string t) h.blk
  simpa using h1
theorem RecAt.setBr {w b R} (h : RecAt w b R) (x : Int) : RecAt (w.setCell ⟨b, 1, none⟩ (.int .i64 x)) b ⟨R.text, x, R.bn, R.ch, R.kn⟩ := by
  constructor
  have h1 := heap_setCell_same w b 1 _ _ (.int .i64 x) h.blk
  simpa using h1
theorem RecAt.setBn {w b R} (h : RecAt w b R) (x : Int) : RecAt (w.setCell ⟨b, 2, none⟩ (.int .i64 x)) b ⟨R.text, R.br, x, R.ch, R.kn⟩ := by
  constructor
  have h1 := heap_setCell_same w b 2 _ _ (.int .i64 x) h.blk
  simpa using h1
theorem RecAt.setCh {w b R} (h : RecAt w b R) (t : Nat → Int) : RecAt (w.setCells b 3 [.int .i64 (t 0), .int .i64 (t 1), .int .i64 (t 2), .int .i64 (t 3), .int .i64 (t 4), .int .i64 (t 5)]) b ⟨R.text, R.br, R.bn, t, R.kn⟩ := by
  constructor
  simp only [World.setCells]
  have h1 := heap_setCell_same w b 3 _ _ (.int .i64 (t 0)) h.blk
  have h2 := heap_setCell_same _ b 4 _ _ (.int .i64 (t 1)) h1
  have h3 := heap_setCell_same _ b 5 _ _ (.int .i64 (t 2)) h2
  have h4 := heap_setCell_same _ b 6 _ _ (.int .i64 (t 3)) h3
  have h5 := heap_setCell_same _ b 7 _ _ (.int .i64 (t 4)) h4
  have h6 := heap_setCell_same _ b 8 _ _ (.int .i64 (t 5)) h5
  simpa using h6
theorem RecAt.setKnAll {w b R} (h : RecAt w b R) (t : Nat → Int) : RecAt (w.setCells b 9 [.int .i64 (t 0), .int .i64 (t 1), .int .i64 (t 2), .int .i64 (t 3), .int .i64 (t 4), .int .i64 (t 5)]) b ⟨R.text, R.br, R.bn, R.ch, t⟩ := by
  constructor
  simp only [World.setCells]
  have h1 := heap_setCell_same w b 9 _ _ (.int .i64 (t 0)) h.blk
  have h2 := heap_setCell_same _ b 10 _ _ (.int .i64 (t 1)) h1
  have h3 := heap_setCell_same _ b 11 _ _ (.int .i64 (t 2)) h2
  have h4 := heap_setCell_same _ b 12 _ _ (.int .i64 (t 3)) h3
  have h5 := heap_setCell_same _ b 13 _ _ (.int .i64 (t 4)) h4
  have h6 := heap_setCell_same _ b 14 _ _ (.int .i64 (t 5)) h5
  simpa using h6
theorem RecAt.cleared {w b R} (h : RecAt w b R) : RecAt (w.setCells b 0 [.string ⟨#[]⟩, .int .i64 0, .int .i64 0, .int .i64 0, .int .i64 0, .int .i64 0, .int .i64 0, .int .i64 0, .int .i64 0]) b ⟨⟨#[]⟩, 0, 0, fun _ => 0, R.kn⟩ := by
  constructor
  simp only [World.setCells]
  have h1 := heap_setCell_same w b 0 _ _ (.string ⟨#[]⟩) h.blk
  have h2 := heap_setCell_same _ b 1 _ _ (.int .i64 0) h1
  have h3 := heap_setCell_same _ b 2 _ _ (.int .i64 0) h2
  have h4 := heap_setCell_same _ b 3 _ _ (.int .i64 0) h3
  have h5 := heap_setCell_same _ b 4 _ _ (.int .i64 0) h4
  have h6 := heap_setCell_same _ b 5 _ _ (.int .i64 0) h5
  have h7 := heap_setCell_same _ b 6 _ _ (.int .i64 0) h6
  have h8 := heap_setCell_same _ b 7 _ _ (.int .i64 0) h7
  have h9 := heap_setCell_same _ b 8 _ _ (.int .i64 0) h8
  simpa using h9

/-- the record behind a write -/
def wrote (s : Nat) (x : Int) (t : ByteArray) (R : Rec) : Rec := ⟨t, if 0 < R.bn then R.br else s, if 0 < R.bn then R.bn else x, gboth R.ch (tf s x), R.kn⟩
theorem write_rec (b s : Nat) (x : Int) (t : ByteArray) (R : Rec) (hs : s < 6) (w : World) (h : RecAt w b R) (hbn : 0 ≤ R.bn) :
    Calls Tryz.prog 108 #[.pointer (some ⟨b, 0, none⟩), .string t, .agg #[.int .i64 s, .int .i64 x]] w fun e w' => e = .returned (.tuple #[]) ∧ RecAt w' b (wrote s x t R) ∧ Fr (fun k => k = b) w w' := by
  by_cases h0 : 0 < R.bn
  · refine (fwrite_old b R.text t R.br R.bn R.ch s x hs w h.file h0).mono ?_
    rintro e w' ⟨rfl, w1, w3, hb1, hb3, rfl⟩
    refine ⟨rfl, ?_, ?_⟩
    · have r1 := h.more hb1
      have r2 := r1.setText t
      have r3 := r2.keep (hb3.block b r1.lt)
      have r4 := r3.setCh (gboth R.ch (tf s x))
      unfold wrote
      rw [if_pos h0, if_pos h0]
      exact r4
    · have f1 : Fr (fun k => k = b) w w1 := Fr.of_below hb1
      have f2 := f1.setCell (p := ⟨b, 0, none⟩) (.inl rfl) (.string t)
      have f3 : Fr (fun k => k = b) w w3 := f2.trans' (S := fun k => k = b) (T := fun _ => False) (b := w1.setCell ⟨b, 0, none⟩ (.string t)) ⟨hb3.os, hb3.tape, hb3.output, hb3.size, fun k hk _ => hb3.block k (by simpa [World.setCell] using hk)⟩ (fun _ _ q => q.elim)
      exact f3.setCells b 3 _ (.inl rfl)
  · have hz : R.bn = 0 := by omega
    refine (fwrite_new b R.text t R.br R.bn R.ch s x hs w h.file hz).mono ?_
    rintro e w' ⟨rfl, w1, w3, hb1, hb3, rfl⟩
    refine ⟨rfl, ?_, ?_⟩
    · have r1 := h.more hb1
      have r2 := ((r1.setBr s).setBn x).setText t
      have r3 := r2.keep (hb3.block b r1.lt)
      have r4 := r3.setCh (gboth R.ch (tf s x))
      unfold wrote
      rw [if_neg h0, if_neg h0]
      exact r4
    · have f1 : Fr (fun k => k = b) w w1 := Fr.of_below hb1
      have f2 := ((f1.setCell (p := ⟨b, 1, none⟩) (.inl rfl) (.int .i64 s)).setCell (p := ⟨b, 2, none⟩) (.inl rfl) (.int .i64 x)).setCell (p := ⟨b, 0, none⟩) (.inl rfl) (.string t)
      have f3 : Fr (fun k => k = b) w w3 := f2.trans' (S := fun k => k = b) (T := fun _ => False) ⟨hb3.os, hb3.tape, hb3.output, by simpa [World.setCell] using hb3.size, fun k hk _ => hb3.block k (by simpa [World.setCell] using hk)⟩ (fun _ _ q => q.elim)
      exact f3.setCells b 3 _ (.inl rfl)
theorem hear_rec (b g cp : Nat) (u : Nat → Int) (R : Rec) (w : World) (h : RecAt w b R) (hg : g < w.heap.size) (hu : ∀ j, j < 6 → w.cell? ⟨g, j, none⟩ = some (.int .i64 (u j))) :
    Calls Tryz.prog 110 #[.pointer (some ⟨b, 9, none⟩), .slice (some ⟨g, 0, none⟩) 1 cp] w fun e w' => e = .returned (.tuple #[]) ∧ RecAt w' b ⟨R.text, R.br, R.bn, R.ch, gboth R.kn u⟩ ∧ Fr (fun k => k = b) w w' := by
  refine (hear_any b g cp R.kn u w h.at9 hg hu).mono ?_
  rintro e w' ⟨rfl, w1, hb1, rfl⟩
  exact ⟨rfl, (h.more hb1).setKnAll _, (Fr.of_below hb1).setCells b 9 _ (.inl rfl)⟩
theorem remove_rec (b : Nat) (R : Rec) (w : World) (h : RecAt w b R) :
    Calls Tryz.prog 114 #[.pointer (some ⟨b, 0, none⟩)] w fun e w' => e = .returned (.tuple #[]) ∧ RecAt w' b ⟨⟨#[]⟩, 0, 0, fun _ => 0, R.kn⟩ ∧ Fr (fun k => k = b) w w' := by
  obtain ⟨k0, k1, k2, k3, k4, k5, k6, k7, k8, _⟩ := h.cells
  refine (fremove_any b w ?_).mono ?_
  · intro j hj
    refine ⟨?_, h.fz _⟩
    match j, hj with
    | 0, _ => simp [k0]
    | 1, _ => simp [k1]
    | 2, _ => simp [k2]
    | 3, _ => simp [k3]
    | 4, _ => simp [k4]
    | 5, _ => simp [k5]
    | 6, _ => simp [k6]
    | 7, _ => simp [k7]
    | 8, _ => simp [k8]
  · rintro e w' ⟨rfl, rfl⟩
    exact ⟨rfl, h.cleared, (Fr.refl _ _).setCells b 0 _ (.inl rfl)⟩

end Go.Proofs.YtaelaldmibgibaaGreatDoor

namespace Go.Proofs.YtaelaldmibgibaaGreatDoor
open Go.RowKit Go.Maps

structure St (w V : World) (rb s mb b : Nat) (c : Int) (E : Recs) (R : Rec) (eb : Nat) (eo : Option Obj) : Prop where
  rc : RecAt V b R
  rep : RepAt V rb s (tf s c) mb
  own : V.ownsMap Tryz.prog 9 recElem mb E.length (datOf E)
  fr : Fr (fun k => k = rb ∨ k = mb) w V
  rlt : rb < w.heap.size
  mlt : mb < w.heap.size
  bge : w.heap.size ≤ b
  ev : ∀ o, eo = some o → V.heap[eb]? = some o ∧ eb ≠ b ∧ w.heap.size ≤ eb

section
variable {w V V' : World} {rb s mb b : Nat} {c : Int} {E : Recs} {R R' : Rec} {eb : Nat} {eo : Option Obj}

theorem St.elt (S : St w V rb s mb b c E R eb eo) (o : Obj) (ho : eo = some o) : eb < V.heap.size := (Array.getElem?_eq_some_iff.1 (S.ev o ho).1).1
theorem St.below (S : St w V rb s mb b c E R eb eo) (hb : Below V.heap.size V V') : St w V' rb s mb b c E R eb eo :=
  ⟨S.rc.more hb, S.rep.keep (hb.block _ S.rep.lt), ownsMap_keep S.own (hb.block _ S.own.lt), S.fr.trans (Fr.of_below hb), S.rlt, S.mlt, S.bge, fun o ho => ⟨by rw [hb.block _ (S.elt o ho)]; exact (S.ev o ho).1, (S.ev o ho).2⟩⟩
theorem St.drewN (S : St w V rb s mb b c E R eb eo) (k : Nat) : St w (V.drewN k) rb s mb b c E R eb eo := S.below ⟨rfl, rfl, rfl, Nat.le_refl _, fun _ _ => rfl⟩
theorem St.onRec (S : St w V rb s mb b c E R eb eo) (hf : Fr (fun k => k = b) V V') (hr : RecAt V' b R') : St w V' rb s mb b c E R' eb eo := by
  have h1 : rb ≠ b := by have := S.rlt; have := S.bge; omega
  have h2 : mb ≠ b := by have := S.mlt; have := S.bge; omega
  refine ⟨hr, S.rep.keep (hf.block _ S.rep.lt h1), ownsMap_keep S.own (hf.block _ S.own.lt h2), S.fr.trans' hf (fun i hi e => by have := S.bge; omega), S.rlt, S.mlt, S.bge, fun o ho => ?_⟩
  obtain ⟨e1, e2, e3⟩ := S.ev o ho
  exact ⟨by rw [hf.block _ (S.elt o ho) e2]; exact e1, e2, e3⟩
theorem St.alloc_ev (S : St w V rb s mb b c E R eb eo) (o : Obj) : St w (V.alloc o) rb s mb b c E R V.heap.size (some o) := by
  have hb : Below V.heap.size V (V.alloc o) := (Below.refl _ _).alloc (Nat.le_refl _) o
  refine ⟨S.rc.more hb, S.rep.keep (hb.block _ S.rep.lt), ownsMap_keep S.own (hb.block _ S.own.lt), S.fr.trans (Fr.of_below hb), S.rlt, S.mlt, S.bge, fun o' ho => ?_⟩
  cases ho
  exact ⟨heap_alloc_new _ _, by have := S.rc.lt; omega, S.fr.size⟩
theorem St.start {w1 : World} (h : PRep w rb s mb c E) (hb : Below w.heap.size w w1) (R : Rec) :
    St w (w1.alloc (.cells #[.string R.text, .int .i64 R.br, .int .i64 R.bn, .int .i64 (R.ch 0), .int .i64 (R.ch 1), .int .i64 (R.ch 2), .int .i64 (R.ch 3), .int .i64 (R.ch 4), .int .i64 (R.ch 5), .int .i64 (R.kn 0), .int .i64 (R.kn 1), .int .i64 (R.kn 2), .int .i64 (R.kn 3), .int .i64 (R.kn 4), .int .i64 (R.kn 5)] 197)) rb s mb w1.heap.size c E R 0 none := by
  have h1 := h.below hb
  have hz := hb.size
  exact ⟨⟨heap_alloc_new _ _⟩, h1.rep.keep (Below.heap_alloc _ _ _ h1.rep.lt), ownsMap_keep h1.own (Below.heap_alloc _ _ _ h1.own.lt), (Fr.of_below hb).alloc _, h.rep.lt, h.own.lt, hz, fun o ho => by cases ho⟩

theorem St.full (S : St w V rb s mb b c E R eb eo) : Calls Tryz.prog 105 #[.pointer (some ⟨rb, 0, none⟩)] V fun e w' => e = .returned (.bool (decide (1000000000 ≤ c))) ∧ St w w' rb s mb b c E R eb eo := by
  have := countIsFull_any rb s (tf s c) mb V S.rep
  rw [tf_self s c S.rep.hs] at this
  refine this.mono ?_
  rintro e w' ⟨rfl, nq, rfl⟩
  exact ⟨rfl, S.drewN nq⟩
theorem St.there (S : St w V rb s mb b c E R eb eo) : Calls Tryz.prog 113 #[.agg #[.string R.text, .int .i64 R.br, .int .i64 R.bn, .int .i64 (R.ch 0), .int .i64 (R.ch 1), .int .i64 (R.ch 2), .int .i64 (R.ch 3), .int .i64 (R.ch 4), .int .i64 (R.ch 5)]] V fun e w' => e = .returned (.bool (decide (0 < R.bn))) ∧ St w w' rb s mb b c E R eb eo := by
  refine (isThere_any _ _ _ _ _ _ _ _ _ V).mono ?_
  rintro e w' ⟨rfl, hb⟩
  exact ⟨rfl, S.below hb⟩
theorem St.files (S : St w V rb s mb b c E R eb eo) (h : PRep w rb s mb c E) : Calls Tryz.prog 129 #[.pointer (some ⟨rb, 0, none⟩)] V fun e w' => e = .returned (.int .i64 E.length) ∧ St w w' rb s mb b c E R eb eo := by
  refine (pfiles_any rb s (tf s c) mb V S.rep E h.ris (by have := h.len; omega) h.bn S.own).mono ?_
  rintro e w' ⟨rfl, hb⟩
  exact ⟨rfl, S.below hb⟩
theorem gboth_tf (s : Nat) (c : Int) (hc : 0 ≤ c) (j : Nat) : gboth (tf s c) (tf s (c + 1)) j = tf s (c + 1) j := by
  by_cases hj : j = s
  · subst hj
    by_cases h6 : j < 6
    · unfold gboth g1 zer
      rw [tf_self j c h6, tf_self j (c + 1) h6]
      (repeat' split) <;> omega
    · have e : ∀ c, tf j c j = 0 := fun c => by
        unfold tf one
        rw [List.set_eq_of_length_le (by simp; omega), List.getD_eq_getElem?_getD, List.getElem?_replicate, if_neg h6]; rfl
      unfold gboth g1 zer
      rw [e, e]; rfl
  · unfold gboth g1 zer
    rw [tf_other s c j hj, tf_other s (c + 1) j hj]; rfl
theorem St.next (S : St w V rb s mb b c E R eb eo) (h0 : 0 ≤ c) (hc : c < 1000000000) : Calls Tryz.prog 107 #[.pointer (some ⟨rb, 0, none⟩)] V fun e w' => e = .returned (.agg #[.int .i64 s, .int .i64 (c + 1)]) ∧ St w w' rb s mb b (c + 1) E R eb eo := by
  have := next_any rb s (tf s c) mb V S.rep (by rw [tf_self s c S.rep.hs]; exact h0) (by rw [tf_self s c S.rep.hs]; exact hc)
  rw [tf_self s c S.rep.hs] at this
  refine this.mono ?_
  rintro e w' ⟨rfl, hr, hf⟩
  rw [funext (gboth_tf s c h0)] at hr
  have h1 : b ≠ rb := by have := S.rlt; have := S.bge; omega
  have h2 := (S.rep.ne S.own).symm
  refine ⟨rfl, S.rc.keep (hf.block _ S.rc.lt h1), hr, ownsMap_keep S.own (hf.block _ S.own.lt h2), S.fr.trans (hf.mono (fun k _ e => .inl e)), S.rlt, S.mlt, S.bge, fun o ho => ?_⟩
  obtain ⟨e1, e2, e3⟩ := S.ev o ho
  have := S.rlt
  exact ⟨by rw [hf.block _ (S.elt o ho) (by omega)]; exact e1, e2, e3⟩
theorem St.clone (S : St w V rb s mb b c E R eb eo) (t : ByteArray) (ht : t.size ≤ 1000000000000) : Calls Tryz.prog 109 #[.string t] V fun e w' => e = .returned (.string t) ∧ St w w' rb s mb b c E R eb eo := by
  refine (clone_any t V ht).mono ?_
  rintro e w' ⟨rfl, hb⟩
  exact ⟨rfl, S.below hb⟩
theorem St.write (S : St w V rb s mb b c E R eb eo) (x : Int) (t : ByteArray) (hbn : 0 ≤ R.bn) : Calls Tryz.prog 108 #[.pointer (some ⟨b, 0, none⟩), .string t, .agg #[.int .i64 s, .int .i64 x]] V fun e w' => e = .returned (.tuple #[]) ∧ St w w' rb s mb b c E (wrote s x t R) eb eo := by
  refine (write_rec b s x t R S.rep.hs V S.rc hbn).mono ?_
  rintro e w' ⟨rfl, hr, hf⟩
  exact ⟨rfl, S.onRec hf hr⟩
theorem St.remove (S : St w V rb s mb b c E R eb eo) : Calls Tryz.prog 114 #[.pointer (some ⟨b, 0, none⟩)] V fun e w' => e = .returned (.tuple #[]) ∧ St w w' rb s mb b c E ⟨⟨#[]⟩, 0, 0, fun _ => 0, R.kn⟩ eb eo := by
  refine (remove_rec b R V S.rc).mono ?_
  rintro e w' ⟨rfl, hr, hf⟩
  exact ⟨rfl, S.onRec hf hr⟩
theorem St.alone (S : St w V rb s mb b c E R eb eo) (x : Int) : Calls Tryz.prog 111 #[.agg #[.int .i64 s, .int .i64 x]] V fun e w' => e = .returned (.agg #[.int .i64 (tf s x 0), .int .i64 (tf s x 1), .int .i64 (tf s x 2), .int .i64 (tf s x 3), .int .i64 (tf s x 4), .int .i64 (tf s x 5)]) ∧ St w w' rb s mb b c E R eb eo := by
  refine (Alone_fn s x V S.rep.hs).mono ?_
  rintro e w' ⟨rfl, hb⟩
  exact ⟨rfl, S.below hb⟩
theorem St.hear (S : St w V rb s mb b c E R eb eo) (u : Nat → Int) (ty : TypeId) : Calls Tryz.prog 110 #[.pointer (some ⟨b, 9, none⟩), .slice (some ⟨V.heap.size, 0, none⟩) 1 1] (V.alloc (.cells #[.int .i64 (u 0), .int .i64 (u 1), .int .i64 (u 2), .int .i64 (u 3), .int .i64 (u 4), .int .i64 (u 5)] ty)) fun e w' => e = .returned (.tuple #[]) ∧ St w w' rb s mb b c E ⟨R.text, R.br, R.bn, R.ch, gboth R.kn u⟩ eb eo := by
  have S' := S.below ((Below.refl _ _).alloc (Nat.le_refl _) (.cells #[.int .i64 (u 0), .int .i64 (u 1), .int .i64 (u 2), .int .i64 (u 3), .int .i64 (u 4), .int .i64 (u 5)] ty))
  refine (hear_rec b V.heap.size 1 u R _ S'.rc (by simp) (built6 V u ty)).mono ?_
  rintro e w' ⟨rfl, hr, hf⟩
  exact ⟨rfl, S'.onRec hf hr⟩
set_option maxRecDepth 100000 in
set_option maxHeartbeats 1000000 in
theorem St.room (S : St w V rb s mb b c E R eb eo) (h : PRep w rb s mb c E) (rm : Bool) (hrm : (!decide (0 < R.bn) && decide ((20 : Int) ≤ (E.length : Int))) = rm) : Calls Tryz.prog 106 #[.pointer (some ⟨rb, 0, none⟩), .agg #[.string R.text, .int .i64 R.br, .int .i64 R.bn, .int .i64 (R.ch 0), .int .i64 (R.ch 1), .int .i64 (R.ch 2), .int .i64 (R.ch 3), .int .i64 (R.ch 4), .int .i64 (R.ch 5), .int .i64 (R.kn 0), .int .i64 (R.kn 1), .int .i64 (R.kn 2), .int .i64 (R.kn 3), .int .i64 (R.kn 4), .int .i64 (R.kn 5)]] V fun e w' => e = .returned (.bool rm) ∧ St w w' rb s mb b c E R eb eo := by
  have S1 := hide (S.below ((Below.refl _ _).alloc (Nat.le_refl _) (.cells #[.string R.text, .int .i64 R.br, .int .i64 R.bn, .int .i64 (R.ch 0), .int .i64 (R.ch 1), .int .i64 (R.ch 2), .int .i64 (R.ch 3), .int .i64 (R.ch 4), .int .i64 (R.ch 5), .int .i64 (R.kn 0), .int .i64 (R.kn 1), .int .i64 (R.kn 2), .int .i64 (R.kn 3), .int .i64 (R.kn 4), .int .i64 (R.kn 5)] 197)))
  have H := hide h
  obtain ⟨k0, k1, k2, k3, k4, k5, k6, k7, k8, _⟩ := (⟨heap_alloc_new V _⟩ : RecAt (V.alloc (.cells #[.string R.text, .int .i64 R.br, .int .i64 R.bn, .int .i64 (R.ch 0), .int .i64 (R.ch 1), .int .i64 (R.ch 2), .int .i64 (R.ch 3), .int .i64 (R.ch 4), .int .i64 (R.ch 5), .int .i64 (R.kn 0), .int .i64 (R.kn 1), .int .i64 (R.kn 2), .int .i64 (R.kn 3), .int .i64 (R.kn 4), .int .i64 (R.kn 5)] 197)) V.heap.size R).cells
  clear S h
  cases hd : decide (0 < R.bn)
  all_goals
    rw [hd] at hrm
    have HR := hide hrm
    clear hrm
    go_enter Tryz.func106, Tryz.ntmps106
    go_wp2_with (first
      | (go_at_call 113; refine S1.out.there.mono ?_; rintro e w3 ⟨rfl, S3r⟩; have S3 := hide S3r; clear S3r)
      | (go_at_call 129; refine (S3.out.files H.out).mono ?_; rintro e w4 ⟨rfl, S4r⟩; have S4 := hide S4r; clear S4r))
    go_ret
    refine ⟨?_, by first | exact S4.out | exact S3.out⟩
    rw [← HR.out]
    rfl
theorem len_putE_some {E : Recs} {p : ByteArray} {R0 R : Rec} (h : RisingE E) (hg : getE p E = some R0) : (putE p R E).length = E.length := by
  have h1 := others p E h
  unfold delE at h1
  unfold putE
  have h2 : (E.filter (fun x => !seq x.1 p)).length + (E.filter (fun x => seq x.1 p)).length = E.length := by
    clear h1 h hg
    induction E with
    | nil => rfl
    | cons y E ih =>
      rw [List.filter_cons, List.filter_cons]
      cases seq y.1 p <;> simp <;> omega
  have h3 : (E.filter (fun x => seq x.1 p)).length = 1 := by
    have hm := mem_getE hg
    clear h1 h2 hg
    induction E with
    | nil => simp at hm
    | cons y E ih =>
      obtain ⟨q1, q2⟩ := List.pairwise_cons.1 h
      rcases List.mem_cons.1 hm with rfl | hm
      · have e0 : E.filter (fun x => seq x.1 p) = [] := filter_none _ _ (fun z hz => seq_false (fun e => slt_ne (q1 z hz) e.symm))
        have e1 : seq p p = true := (seq_iff _ _).2 rfl
        simp [e0, e1]
      · have e1 : seq y.1 p = false := seq_false (slt_ne (q1 _ hm))
        simp only [List.filter_cons, e1]
        exact ih q2 hm
  rw [h1] at h2
  simp only [List.length_append, List.length_cons] at *
  omega
theorem len_putE_le (E : Recs) (p : ByteArray) (R : Rec) (h : RisingE E) : (putE p R E).length ≤ E.length + 1 := by
  have h1 := others p E h
  unfold delE at h1
  unfold putE
  have h2 : (E.filter (fun x => !seq x.1 p)).length ≤ E.length := List.length_filter_le _ _
  rw [h1] at h2
  simp only [List.length_append, List.length_cons] at *
  omega
theorem len_delE_le (E : Recs) (p : ByteArray) (h : RisingE E) : (delE p E).length ≤ E.length := by
  rw [← others p E h]; exact List.length_filter_le _ _

/-- the end of Write -/
theorem St.keepIn (S : St w V rb s mb b c E R eb eo) {c0 : Int} (h : PRep w rb s mb c0 E) (p : ByteArray) (hp : p.size ≤ 1000000000000) (hbn : 0 < R.bn) (hkn : ∀ j, j < 6 → j ≠ s → R.kn j = 0) (hl : (putE p R E).length ≤ 20) (hc : 0 ≤ c) :
    Calls Tryz.prog 112 #[.pointer (some ⟨rb, 0, none⟩), .string p, .agg #[.string R.text, .int .i64 R.br, .int .i64 R.bn, .int .i64 (R.ch 0), .int .i64 (R.ch 1), .int .i64 (R.ch 2), .int .i64 (R.ch 3), .int .i64 (R.ch 4), .int .i64 (R.ch 5), .int .i64 (R.kn 0), .int .i64 (R.kn 1), .int .i64 (R.kn 2), .int .i64 (R.kn 3), .int .i64 (R.kn 4), .int .i64 (R.kn 5)]] V fun e w' => e = .returned (.tuple #[]) ∧ PRep w' rb s mb c (putE p R E) ∧ Fr (fun k => k = rb ∨ k = mb) w w' := by
  refine (keep_in rb s (tf s c) mb V S.rep E h.ris (by have := h.len; unfold maxLen; omega) S.own p hp R hbn).mono ?_
  rintro e w' ⟨rfl, hr, ho, hf⟩
  refine ⟨rfl, ⟨hr, ho, rising_put p R E h.ris, fun x hx => ?_, fun x hx => ?_, hl, hc⟩, S.fr.trans (hf.mono (fun k _ e => .inr e))⟩
  · rcases mem_putE hx with rfl | hx
    · exact hbn
    · exact h.bn x hx
  · rcases mem_putE hx with rfl | hx
    · exact hkn
    · exact h.kn x hx
/-- the end of Remove -/
theorem St.keepOut (S : St w V rb s mb b c E R eb eo) {c0 : Int} (h : PRep w rb s mb c0 E) (p : ByteArray) (hp : p.size ≤ 1000000000000) (hbn : R.bn = 0) (hkn : eqT R.kn (tf s c) = true) (hc : 0 ≤ c) :
    Calls Tryz.prog 112 #[.pointer (some ⟨rb, 0, none⟩), .string p, .agg #[.string R.text, .int .i64 R.br, .int .i64 R.bn, .int .i64 (R.ch 0), .int .i64 (R.ch 1), .int .i64 (R.ch 2), .int .i64 (R.ch 3), .int .i64 (R.ch 4), .int .i64 (R.ch 5), .int .i64 (R.kn 0), .int .i64 (R.kn 1), .int .i64 (R.kn 2), .int .i64 (R.kn 3), .int .i64 (R.kn 4), .int .i64 (R.kn 5)]] V fun e w' => e = .returned (.tuple #[]) ∧ PRep w' rb s mb c (delE p E) ∧ Fr (fun k => k = rb ∨ k = mb) w w' := by
  refine (keep_out rb s (tf s c) mb V S.rep E h.ris S.own p hp R hbn hkn).mono ?_
  rintro e w' ⟨rfl, hr, ho, hf⟩
  exact ⟨rfl, ⟨hr, ho, rising_del p E h.ris, fun x hx => h.bn x (mem_delE hx), fun x hx => h.kn x (mem_delE hx), Nat.le_trans (len_delE_le E p h.ris) h.len, hc⟩, S.fr.trans (hf.mono (fun k _ e => .inr e))⟩
end

end Go.Proofs.YtaelaldmibgibaaGreatDoor

namespace Go.Proofs.YtaelaldmibgibaaGreatDoor
open Go.RowKit Go.Maps

theorem recOf_bn {w : World} {rb s mb : Nat} {c : Int} {E : Recs} (h : PRep w rb s mb c E) (p : ByteArray) : 0 ≤ (recOf s c (getE p E)).bn ∧ decide (0 < (recOf s c (getE p E)).bn) = (getE p E).isSome := by
  cases hg : getE p E with
  | none => exact ⟨Int.le_refl 0, rfl⟩
  | some R =>
    have := getE_bn h hg
    exact ⟨Int.le_of_lt this, by show decide (0 < R.bn) = true; exact decide_eq_true this⟩
theorem recOf_kn {w : World} {rb s mb : Nat} {c : Int} {E : Recs} (h : PRep w rb s mb c E) (p : ByteArray) (j : Nat) (hj : j < 6) (hs : j ≠ s) : (recOf s c (getE p E)).kn j = 0 := by
  cases hg : getE p E with
  | none => exact tf_other s c j hs
  | some R =>
    show upT R.kn s c j = 0
    unfold upT
    rw [if_neg hs]
    exact h.kn _ (mem_getE hg) j hj hs
theorem gboth_zero (a b : Nat → Int) (j : Nat) (ha : a j = 0) (hb : b j = 0) : gboth a b j = 0 := by
  unfold gboth g1 zer
  rw [ha, hb]; rfl

set_option maxRecDepth 100000 in
set_option maxHeartbeats 1000000 in
theorem pwrite_full (rb s mb : Nat) (c : Int) (E : Recs) (w : World) (h : PRep w rb s mb c E) (p t : ByteArray) (hp : p.size ≤ 1000000000000) (hf : 1000000000 ≤ c ∨ (getE p E = none ∧ 20 ≤ E.length)) :
    Calls Tryz.prog 62 #[.pointer (some ⟨rb, 0, none⟩), .string p, .string t] w fun e w' => e = .returned (.int .i64 5) ∧ Fr (fun k => k = rb ∨ k = mb) w w' ∧ PRep w' rb s mb c E := by
  have C := recordOf_any rb s mb c E w h p (by unfold maxLen; omega)
  have fin : Hid (∀ V b R eb eo, St w V rb s mb b c E R eb eo → Fr (fun k => k = rb ∨ k = mb) w V ∧ PRep V rb s mb c E) := fun V b R eb eo S => ⟨S.fr, ⟨S.rep, S.own, h.ris, h.bn, h.kn, h.len, h.c0⟩⟩
  have H := hide h
  by_cases hc : 1000000000 ≤ c
  · have hd : decide (1000000000 ≤ c) = true := by simp [hc]
    generalize recOf s c (getE p E) = R1 at C
    simp only [recVal] at C
    have CH := hide C
    clear C h hf
    go_enter Tryz.func62, Tryz.ntmps62
    go_wp2_with (first
      | (go_at_call 104; refine CH.out.mono ?_; rintro e w1 ⟨rfl, hb1r⟩; have S1 := hide (St.start H.out hb1r R1); clear hb1r)
      | (go_at_call 105; refine S1.out.full.mono ?_; rintro e w2 ⟨rfl, S2r⟩; have S2 := hide S2r; clear S2r))
    go_ret
    exact ⟨rfl, fin.out _ _ _ _ _ S2.out⟩
  · obtain ⟨hn, h20⟩ := hf.resolve_left hc
    have hd : decide (1000000000 ≤ c) = false := by simp; omega
    have hth := (recOf_bn h p).2
    rw [hn] at hth C
    simp only [Option.isSome_none] at hth
    generalize recOf s c none = R1 at C hth
    simp only [recVal] at C
    have CH := hide C
    have hrm : (!decide (0 < R1.bn) && decide ((20 : Int) ≤ (E.length : Int))) = true := by rw [hth]; simp; omega
    clear C h hf hc hn
    go_enter Tryz.func62, Tryz.ntmps62
    go_wp2_with (first
      | (go_at_call 104; refine CH.out.mono ?_; rintro e w1 ⟨rfl, hb1r⟩; have S1 := hide (St.start H.out hb1r R1); clear hb1r)
      | (go_at_call 105; refine S1.out.full.mono ?_; rintro e w2 ⟨rfl, S2r⟩; have S2 := hide S2r; obtain ⟨k0, k1, k2, k3, k4, k5, k6, k7, k8, k9, k10, k11, k12, k13, k14⟩ := S2r.rc.cells; clear S2r)
      | (go_at_call 106; refine (S2.out.room H.out true hrm).mono ?_; rintro e w4 ⟨rfl, S4r⟩; have S4 := hide S4r; clear S4r))
    go_ret
    exact ⟨rfl, fin.out _ _ _ _ _ S4.out⟩

end Go.Proofs.YtaelaldmibgibaaGreatDoor
