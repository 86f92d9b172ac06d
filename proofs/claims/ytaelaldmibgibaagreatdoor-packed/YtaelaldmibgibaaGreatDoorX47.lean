/- Pulling all: Pulled. -/
import Derived.Deep.DeepCutAuto
import Derived.Test.YtaelaldmibgibaaGreatDoorX45

set_option linter.all false
set_option maxHeartbeats 4000000
set_option maxRecDepth 100000

namespace Go.Proofs.K
open Go.RowKit Go.Maps
attribute [local go_sem ↓] ymd
attribute [local go_sem] yeu
attribute [local go_sem ↓] Go.wp_at_zero Go.wp_at_succ
attribute [local go_sem ↓] ykp
attribute [local go_sem] ygs
theorem new_rg (s : Nat) (hs : s < 6) (w : World) :
  Calls Tryz.prog 48 #[.int .i64 s] w fun e w' => e = .returned (.pointer (some ⟨w.heap.size + 1, 0, none⟩)) ∧ Rg w' (w.heap.size + 1) s (fun _ => 0) w.heap.size [] ∧ Below w.heap.size w w' ∧ w'.heap.size = w.heap.size + 2 := by
 refine (yuz s hs w).mono ?_
 rintro e w' ⟨rfl, hP, hb, hz⟩
 have hr := hP.rep
 rw [tf_nil] at hr
 exact ⟨rfl, ⟨hr, hP.own, List.Pairwise.nil, fun x hx => by simp at hx, by simp, Int.le_refl 0⟩, hb, hz⟩
theorem Rg.common {w V : World} {ab s am : Nat} {cm : Nat → Int} {z : Nat → Int} (h : Rg w ab s z am []) (hb : Below w.heap.size w V) (cm' : Nat → Int) : Rg (V.setCells ab 1 [.int .i64 (yac cm cm' 0), .int .i64 (yac cm cm' 1), .int .i64 (yac cm cm' 2), .int .i64 (yac cm cm' 3), .int .i64 (yac cm cm' 4), .int .i64 (yac cm cm' 5)]) ab s (yac cm cm') am [] := by
 have h' := h.below hb
 have hf : Fr (fun k => k = ab) V (V.setCells ab 1 [.int .i64 (yac cm cm' 0), .int .i64 (yac cm cm' 1), .int .i64 (yac cm cm' 2), .int .i64 (yac cm cm' 3), .int .i64 (yac cm cm' 4), .int .i64 (yac cm cm' 5)]) := (Fr.refl _ _).setCells _ 1 _ (.inl rfl)
 refine ⟨h'.rep.setTime (yac cm cm'), ybf h'.own (hf.block _ h'.own.lt (h'.rep.ne h'.own).symm), List.Pairwise.nil, fun x hx => by simp at hx, by simp, ?_⟩
 unfold yac g1 zer
 (repeat' split) <;> omega
theorem pulled_any (rb s : Nat) (cm : Nat → Int) (mb : Nat) (E : yau) (rb' s' : Nat) (cm' : Nat → Int) (mb' : Nat) (E' : yau) (w : World) (h : Rg w rb s cm mb E) (h' : Rg w rb' s' cm' mb' E') (hl : E.length + E'.length < 900000) (hk : ∀ x ∈ E, x.1.size ≤ 1000000) (hk' : ∀ x ∈ E', x.1.size ≤ 1000000) :
  Calls Tryz.prog 76 #[.pointer (some ⟨rb, 0, none⟩), .pointer (some ⟨rb', 0, none⟩)] w fun e w' => Below w.heap.size w w' ∧ ((20 < (ybw (yle s cm E s' cm' E').1).length ∧ e = .returned (.tuple #[.pointer none, .slice none 0 0, .int .i64 5])) ∨
   ((ybw (yle s cm E s' cm' E').1).length ≤ 20 ∧ ∃ ab am z cv, e = .returned (.tuple #[.pointer (some ⟨ab, 0, none⟩), cv, .int .i64 0]) ∧ Rg w' ab s (yac cm cm') am (yle s cm E s' cm' E').1 ∧ w'.ownsRow z 44 3 cv (yle s cm E s' cm' E').2.length (chv s (yle s cm E s' cm' E').2) ∧ w.heap.size ≤ ab ∧ w.heap.size ≤ am ∧ ab ≠ am ∧ ab < z ∧ am < z ∧ ((yle s cm E s' cm' E').2 = [] → cv = .slice none 0 0))) := by
 have HR := yab h
 have HR' := yab h'
 have c0 := h.rep.c0
 have UK : Hid (∀ p ∈ ydy (E.map (·.1)) (E'.map (·.1)), p.size ≤ 1000000) := fun p hp => by
  have hE : ycz (E.map (·.1)) := by
   unfold ycz
   rw [List.pairwise_map]
   exact h.ris
  rcases ((yhn _ _ hE).2 p).1 hp with q | q
  ·obtain ⟨x, hx, rfl⟩ := List.mem_map.1 q
   exact hk x hx
  ·obtain ⟨x, hx, rfl⟩ := List.mem_map.1 q
   exact hk' x hx
 have UL := yab (yyx (E'.map (·.1)) (E.map (·.1)))
 rw [List.length_map, List.length_map] at UL
 have RO : Hid (∀ p : ByteArray, p.size ≤ 1000000 → ∀ V, Below w.heap.size w V → Calls Tryz.prog 104 #[.pointer (some ⟨rb, 0, none⟩), .string p] V fun e w' => e = .returned (yad (ybk s cm (ybh p E))) ∧ Below V.heap.size V w') := fun p hp V hb => yaz rb s cm mb E V (h.below hb).rep (h.below hb).own p (by unfold maxLen; omega)
 have RO' : Hid (∀ p : ByteArray, p.size ≤ 1000000 → ∀ V, Below w.heap.size w V → Calls Tryz.prog 104 #[.pointer (some ⟨rb', 0, none⟩), .string p] V fun e w' => e = .returned (yad (ybk s' cm' (ybh p E'))) ∧ Below V.heap.size V w') := fun p hp V hb => yaz rb' s' cm' mb' E' V (h'.below hb).rep (h'.below hb).own p (by unfold maxLen; omega)
 have OK1 : Hid (∀ p, 0 ≤ (ybk s cm (ybh p E)).bn ∧ ykr (ybk s cm (ybh p E))) := fun p => yif h p
 have OK2 : Hid (∀ p, 0 ≤ (ybk s' cm' (ybh p E')).bn ∧ ykr (ybk s' cm' (ybh p E'))) := fun p => yif h' p
 clear hk hk'
 unfold yle
 have NW := yab (new_rg s h.rep.hs w)
 clear h h'
 go_enter Tryz.func76, Tryz.ntmps76
 go_wp2_with (go_at_call 48; refine NW.out.mono ?_; rintro e w1 ⟨rfl, hA, hb, hz⟩; have A1 := yab hA; have B1 := yab hb; have HZ := yab hz; clear hA hb hz)
 have Q1 := yab (HR.out.below B1.out)
 have Q1' := yab (HR'.out.below B1.out)
 have r0 : w1.cell? ⟨rb, 1, none⟩ = some (.int .i64 (cm 0)) := Q1.out.rep.ct 0 (by omega)
 have r1 : w1.cell? ⟨rb, 2, none⟩ = some (.int .i64 (cm 1)) := Q1.out.rep.ct 1 (by omega)
 have r2 : w1.cell? ⟨rb, 3, none⟩ = some (.int .i64 (cm 2)) := Q1.out.rep.ct 2 (by omega)
 have r3 : w1.cell? ⟨rb, 4, none⟩ = some (.int .i64 (cm 3)) := Q1.out.rep.ct 3 (by omega)
 have r4 : w1.cell? ⟨rb, 5, none⟩ = some (.int .i64 (cm 4)) := Q1.out.rep.ct 4 (by omega)
 have r5 : w1.cell? ⟨rb, 6, none⟩ = some (.int .i64 (cm 5)) := Q1.out.rep.ct 5 (by omega)
 have q0 : w1.cell? ⟨rb', 1, none⟩ = some (.int .i64 (cm' 0)) := Q1'.out.rep.ct 0 (by omega)
 have q1 : w1.cell? ⟨rb', 2, none⟩ = some (.int .i64 (cm' 1)) := Q1'.out.rep.ct 1 (by omega)
 have q2 : w1.cell? ⟨rb', 3, none⟩ = some (.int .i64 (cm' 2)) := Q1'.out.rep.ct 2 (by omega)
 have q3 : w1.cell? ⟨rb', 4, none⟩ = some (.int .i64 (cm' 3)) := Q1'.out.rep.ct 3 (by omega)
 have q4 : w1.cell? ⟨rb', 5, none⟩ = some (.int .i64 (cm' 4)) := Q1'.out.rep.ct 4 (by omega)
 have q5 : w1.cell? ⟨rb', 6, none⟩ = some (.int .i64 (cm' 5)) := Q1'.out.rep.ct 5 (by omega)
 have X1 := yfu w1 cm cm' 186
 have GB := yab (ycn w1.heap.size 2 cm cm' (w1.alloc (.cells #[.int .i64 (cm 0), .int .i64 (cm 1), .int .i64 (cm 2), .int .i64 (cm 3), .int .i64 (cm 4), .int .i64 (cm 5), .int .i64 (cm' 0), .int .i64 (cm' 1), .int .i64 (cm' 2), .int .i64 (cm' 3), .int .i64 (cm' 4), .int .i64 (cm' 5)] 186)).drew (by simp) (by exact X1.1) (by exact X1.2))
 have BA := yab (((Below.refl w1.heap.size w1).alloc (Nat.le_refl _) (.cells #[.int .i64 (cm 0), .int .i64 (cm 1), .int .i64 (cm 2), .int .i64 (cm 3), .int .i64 (cm 4), .int .i64 (cm 5), .int .i64 (cm' 0), .int .i64 (cm' 1), .int .i64 (cm' 2), .int .i64 (cm' 3), .int .i64 (cm' 4), .int .i64 (cm' 5)] 186)).drew)
 clear X1
 have DT : Hid (∀ V, Below w1.heap.size w1 V → V.there (w.heap.size + 1) 1 6) := fun V hb => (A1.out.below hb).rep.there
 go_cut [] (fun wx => Hid (Rg wx (w.heap.size + 1) s (yac cm cm') w.heap.size []) ∧ Hid (Below w.heap.size w wx) ∧ Hid (w.heap.size + 2 ≤ wx.heap.size))
 case first =>
  go_region_law (first
   |(go_simp; go_at_call 128; refine GB.out.mono ?_; rintro e w2 ⟨rfl, hb2⟩; have B2 := yab (BA.out.trans (hb2.mono BA.out.size)); have dth := DT.out _ B2.out; clear hb2; dsimp only))
  all_goals
   have A3 := yab (A1.out.common (cm := cm) B2.out cm')
   have B3 : Hid (Below w.heap.size w (w2.setCells (w.heap.size + 1) 1 [.int .i64 (yac cm cm' 0), .int .i64 (yac cm cm' 1), .int .i64 (yac cm cm' 2), .int .i64 (yac cm cm' 3), .int .i64 (yac cm cm' 4), .int .i64 (yac cm cm' 5)])) := Below.setCells (B1.out.trans (B2.out.mono B1.out.size)) (by omega) _ _
   have SZ : Hid (w.heap.size + 2 ≤ (w2.setCells (w.heap.size + 1) 1 [.int .i64 (yac cm cm' 0), .int .i64 (yac cm cm' 1), .int .i64 (yac cm cm' 2), .int .i64 (yac cm cm' 3), .int .i64 (yac cm cm' 4), .int .i64 (yac cm cm' 5)]).heap.size) := by
    have q1 := B2.out.size
    have q2 := HZ.out
    unfold Hid
    rw [yvs]
    omega
   go_wp2_with fail
   go_meet
   exact ⟨A3, B3, SZ⟩
 case rest =>
  obtain ⟨A3, B3, SZ⟩ := hcut
  clear A1 B1 HZ BA GB DT r0 r1 r2 r3 r4 r5 q0 q1 q2 q3 q4 q5 Q1 Q1' NW
  have PT : Hid (Calls Tryz.prog 122 #[.slice (some ⟨wc.heap.size, 0, none⟩) 2 2] (wc.alloc (.cells #[.pointer (some ⟨rb, 0, none⟩), .pointer (some ⟨rb', 0, none⟩)] 92)) fun e w' => ∃ pa pc, e = .returned (.slice pa (ydy (E.map (·.1)) (E'.map (·.1))).length pc) ∧ w'.ownsRow (wc.heap.size + 1) 9 1 (.slice pa (ydy (E.map (·.1)) (E'.map (·.1))).length pc) (ydy (E.map (·.1)) (E'.map (·.1))).length (svs (ydy (E.map (·.1)) (E'.map (·.1)))) ∧ Below wc.heap.size wc w') := by
   have bA := (Below.refl wc.heap.size wc).alloc (Nat.le_refl _) (.cells #[.pointer (some ⟨rb, 0, none⟩), .pointer (some ⟨rb', 0, none⟩)] 92)
   have bW := B3.out.trans (bA.mono B3.out.size)
   have := pathsOf_two rb s cm mb E rb' s' cm' mb' E' wc.heap.size (wc.alloc (.cells #[.pointer (some ⟨rb, 0, none⟩), .pointer (some ⟨rb', 0, none⟩)] 92)) (HR.out.below bW) (HR'.out.below bW) (by simp only [World.cell?, heap_alloc_new]; rfl) (by simp only [World.cell?, heap_alloc_new]; rfl) (by simp)
   refine this.mono ?_
   rintro e w' ⟨v, rfl, ho, hb'⟩
   rw [show (wc.alloc (.cells #[.pointer (some ⟨rb, 0, none⟩), .pointer (some ⟨rb', 0, none⟩)] 92)).heap.size = wc.heap.size + 1 by simp] at ho
   have hbb := bA.trans (hb'.mono (by simp))
   rcases ho.2 with ⟨rfl, h0⟩ | ⟨g', cap, cur, rfl, _⟩
   ·refine ⟨none, 0, by rw [h0], ?_, hbb⟩
    have q := ho
    rw [h0] at q ⊢
    exact q
   ·exact ⟨_, cap, rfl, ho, hbb⟩
  generalize hU0 : ydy (E.map (·.1)) (E'.map (·.1)) = U at *
  have HU := yab hU0
  clear hU0
  go_wp2_with (go_at_call 122; refine PT.out.mono ?_; rintro e w3 ⟨pa, pc, rfl, hor, hbr⟩; have O3 := yab hor; have B4 := yab hbr; clear hor hbr)
  have P0 : Hid (Pl w w3 w3.heap.size s (yac cm cm') U (.slice pa U.length pc) (.slice none 0 0) ([], [])) := by
   have hV : w.heap.size + 2 ≤ wc.heap.size := SZ.out
   exact ⟨A3.out.below B4.out, World.ownsRow_nil _ _ _ _, ydp O3.out (fun k e => by have := (World.ownsRow.lt O3.out k e).1; omega), fun g e => (World.ownsRow.lt O3.out g e).2, B3.out.trans (B4.out.mono B3.out.size), by have := B4.out.size; omega, Nat.le_refl _, fun _ => rfl⟩
  have UL2 : Hid (U.length < 900000) := by have := UL.out; unfold Hid; omega
  clear A3 B3 O3 B4 PT SZ UL hl
  generalize w3.heap.size = z at *
  go_loopw [8, 36] (fun cvv iv wr => ∃ (i : Nat) (A : yau × List (ByteArray × Int)), i ≤ U.length ∧ iv = .int .i64 i ∧ Hid (A = (U.take i).foldl (yiu s cm E s' cm' E') ([], [])) ∧ Hid (Pl w wr z s (yac cm cm') U (.slice pa U.length pc) cvv A)) (fun _ iv _ => U.length - (intOf iv).toNat)
  case atStart => exact ⟨0, ([], []), Nat.zero_le _, rfl, rfl, P0⟩
  case round =>
   clear P0
   obtain ⟨i, A, hi, rfl, hA, hP⟩ := hrel
   by_cases hlt : i < U.length
   ·obtain ⟨g, rfl⟩ := hP.out.some rfl hlt
    obtain ⟨p, hp⟩ : ∃ p, U[i]? = some p := ⟨_, List.getElem?_eq_getElem hlt⟩
    have hc := hP.out.at rfl hp
    have hul : U.length < 900000 := UL2.out
    have hps := UK.out p (List.mem_of_getElem? hp)
    have AL := yab (accP_len s cm E s' cm' E' (U.take i) ([], []))
    rw [← hA.out] at AL
    simp only [List.length_nil, Nat.zero_add, List.length_take] at AL
    have NX : Hid ((U.take (i + 1)).foldl (yiu s cm E s' cm' E') ([], []) = yiu s cm E s' cm' E' A p) := by
     unfold Hid
     rw [take_fold _ _ _ _ _ hp, ← hA.out]
    have C1 := yab (RO.out p hps)
    have C2 := yab (RO'.out p hps)
    have o1 := OK1.out p
    have o2 := OK2.out p
    unfold yiu at NX
    generalize ybk s cm (ybh p E) = Ra at *
    generalize ybk s' cm' (ybh p E') = Rb at *
    have C3 := yab (yoi Ra Rb o1.2 o2.2)
    have o3 := pullR_ok Ra Rb o1.1 o1.2 o2.1 o2.2
    generalize hpr : ydk Ra Rb = pr at *
    obtain ⟨Rc, t⟩ := pr
    dsimp only at C3 o3 NX
    have KP : Hid (∀ V, Pl w V z s (yac cm cm') U (.slice (some ⟨g, 0, none⟩) U.length pc) u8 A → Calls Tryz.prog 112 #[.pointer (some ⟨w.heap.size + 1, 0, none⟩), .string p, yad Rc] V fun e w' => e = .returned (.tuple #[]) ∧ Pl w w' z s (yac cm cm') U (.slice (some ⟨g, 0, none⟩) U.length pc) u8 (yce (yac cm cm') p Rc A.1, A.2)) := fun V hV => hV.keep (by have := AL.out.1; have := UL2.out; omega) (by omega) o3.1 o3.2
    have SF : Hid (∀ V, Below w.heap.size w V → V.cell? ⟨rb, 0, none⟩ = some (.int .i64 s)) := fun V hV => (HR.out.below hV).rep.c0
    unfold yad at C1 C2 C3 KP
    clear o1 o2 o3 hpr hp
    by_cases ht : t = 0
    ·subst ht
     rw [if_pos rfl] at NX
     have TH := there0
     go_wp2_with (first
      |(go_at_call_of 104 (Value.pointer (some ⟨rb, 0, none⟩)); refine (C1.out _ hP.out.bel).mono ?_; rintro e w4 ⟨rfl, hb4⟩; have P4 := yab (hP.out.more hb4); clear hb4)
      |(go_at_call 104; refine (C2.out _ P4.out.bel).mono ?_; rintro e w5 ⟨rfl, hb5⟩; have P5 := yab (P4.out.more hb5); clear hb5)
      |(go_at_call 115; refine (C3.out _).mono ?_; rintro e w6 ⟨rfl, hb6⟩; have P6 := yab (P5.out.more hb6); have S6 := yab ((Pp.zero (Below.refl w6.heap.size w6)).set Rc); have P7 := yab (P6.out.more S6.out.bel); obtain ⟨k0, k1, k2, k3, k4, k5, k6, k7, k8, k9, k10, k11, k12, k13, k14⟩ := S6.out.rc.cells; clear hb6)
      |(go_at_call 112; refine (KP.out _ P7.out).mono ?_; (try clear k0 k1 k2 k3 k4 k5 k6 k7 k8 k9 k10 k11 k12 k13 k14); rintro e w8 ⟨rfl, hP8⟩; have P8 := yab hP8; clear hP8))
     go_roundw
     case rel => exact ⟨i + 1, _, by omega, by go_num, NX.out.symm, P8⟩
     case measure => simp [intOf]; omega
    ·rw [if_neg ht] at NX
     have ht1 : (t == 0) = false := by simpa using ht
     have TH := there0
     go_wp2_with (first
      |(go_at_call_of 104 (Value.pointer (some ⟨rb, 0, none⟩)); refine (C1.out _ hP.out.bel).mono ?_; rintro e w4 ⟨rfl, hb4⟩; have P4 := yab (hP.out.more hb4); clear hb4)
      |(go_at_call 104; refine (C2.out _ P4.out.bel).mono ?_; rintro e w5 ⟨rfl, hb5⟩; have P5 := yab (P4.out.more hb5); clear hb5)
      |(go_at_call 115; refine (C3.out _).mono ?_; rintro e w6 ⟨rfl, hb6⟩; have P6 := yab (P5.out.more hb6); have S6 := yab ((Pp.zero (Below.refl w6.heap.size w6)).set Rc); have P7 := yab (P6.out.more S6.out.bel); obtain ⟨k0, k1, k2, k3, k4, k5, k6, k7, k8, k9, k10, k11, k12, k13, k14⟩ := S6.out.rc.cells; clear hb6)
      |(go_at_call 112; refine (KP.out _ P7.out).mono ?_; (try clear k0 k1 k2 k3 k4 k5 k6 k7 k8 k9 k10 k11 k12 k13 k14); rintro e w8 ⟨rfl, hP8⟩; have P8 := yab hP8; have sf := SF.out _ P8.out.bel; clear hP8)
      |(at_builtin; refine app_change _ rfl (.tmp 56) (.tmp 64) rfl z u8 A.2.length (chv s A.2) rfl ?ho w8.heap.size s p t rfl ?hc ?hn ?hb ?hh; (case ho => exact (P8.out.alloc _).ch); (case hc => exact heap_alloc_new _ _); (case hn => have := AL.out.2; omega); (case hb => exact (P8.out.alloc _).zle); intro g2 c2 w9 ho9 hgr9 hat9 hl9; have P9 := yab ((P8.out.alloc _).grown ho9 hgr9); clear ho9 hgr9 hat9 hl9))
     go_roundw
     case rel => exact ⟨i + 1, _, by omega, by go_num, NX.out.symm, P9⟩
     case measure => simp [intOf]; omega
   ·have ei : i = U.length := by omega
    subst ei
    rw [List.take_length] at hA
    have FI := yab (yfo (w.heap.size + 1) s (yac cm cm') w.heap.size wr hP.out.rg.rep A.1 hP.out.rg.ris (by have := hP.out.rg.len; omega) hP.out.rg.own)
    have hz := yab hP.out.zge
    have HA := yab hA.out.symm
    by_cases hf : 20 < (ybw A.1).length
    ·have d1 : decide ((20 : Int) < ((ybw A.1).length : Int)) = true := by simp; omega
     go_wp2_with (go_at_call 129; refine FI.out.mono ?_; rintro e w4 ⟨rfl, hb4⟩; have P4 := yab (hP.out.more hb4); clear hb4)
     go_ret3
     rw [HU.out, HA.out]
     exact ⟨P4.out.bel, .inl ⟨hf, rfl⟩⟩
    ·have d1 : decide ((20 : Int) < ((ybw A.1).length : Int)) = false := by simp; omega
     go_wp2_with (go_at_call 129; refine FI.out.mono ?_; rintro e w4 ⟨rfl, hb4⟩; have P4 := yab (hP.out.more hb4); clear hb4)
     go_ret3
     rw [HU.out, HA.out]
     exact ⟨P4.out.bel, .inr ⟨by omega, _, _, z, _, rfl, P4.out.rg, P4.out.ch, by omega, Nat.le_refl _, by omega, by have := hz.out; omega, by have := hz.out; omega, P4.out.nl⟩⟩
end Go.Proofs.K

namespace Go.Proofs.K
open Go.RowKit Go.Maps
variable {w : World}
def PullLeft (w w' : World) (gb s : Nat) (cm : Nat → Int) (A : yau × List (ByteArray × Int)) : Prop :=
 (20 < (ybw A.1).length ∧ w'.heap[gb]? = some (.cells #[.pointer none, .slice none 0 0, .int .i64 5] 94)) ∨
 ((ybw A.1).length ≤ 20 ∧ ∃ ab am z cv, w'.heap[gb]? = some (.cells #[.pointer (some ⟨ab, 0, none⟩), cv, .int .i64 0] 94) ∧ Rg w' ab s cm am A.1 ∧ w'.ownsRow z 44 3 cv A.2.length (chv s A.2) ∧ w.heap.size ≤ ab ∧ w.heap.size ≤ am ∧ ab ≠ am ∧ ab < z ∧ am < z ∧ (A.2 = [] → cv = .slice none 0 0))
theorem setThree {b : Nat} {x y z x' y' z' : Value} {ty : TypeId} (h : w.heap[b]? = some (.cells #[x, y, z] ty)) : (((w.setCell ⟨b, 0, none⟩ x').setCell ⟨b, 1, none⟩ y').setCell ⟨b, 2, none⟩ z').heap[b]? = some (.cells #[x', y', z'] ty) := by
 have h1 := heap_setCell_same w b 0 _ _ x' h
 have h2 := heap_setCell_same _ b 1 _ _ y' h1
 have h3 := heap_setCell_same _ b 2 _ _ z' h2
 simpa using h3
theorem work_any (tb qb xb ib gb : Nat) {nb pb : Nat} {L : List (Nat × Nat)} {S : List RS} (h : Nt w nb pb L S) (a b : Nat) {u v : Nat × Nat} {x y : RS} (hu : L[a]? = some u) (hv : L[b]? = some v) (hx : S[a]? = some x) (hy : S[b]? = some y)
  (hl : x.E.length + y.E.length < 900000) (hk : ∀ e ∈ x.E, e.1.size ≤ 1000000) (hk' : ∀ e ∈ y.E, e.1.size ≤ 1000000)
  (c0 : w.cell? ⟨tb, 0, none⟩ = some (.pointer (some ⟨nb, 0, none⟩))) (c1 : w.cell? ⟨qb, 0, none⟩ = some (.int .i64 a)) (c2 : w.cell? ⟨qb, 1, none⟩ = some (.int .i64 b)) (c3 : w.cell? ⟨xb, 0, none⟩ = some (.slice (some ⟨gb, 0, none⟩) 1 1)) (c4 : w.cell? ⟨ib, 0, none⟩ = some (.int .i64 0))
  (hg : w.heap[gb]? = some (.cells #[.pointer none, .slice none 0 0, .int .i64 0] 94)) :
  Calls Tryz.prog 75 #[.pointer (some ⟨tb, 0, none⟩), .pointer (some ⟨qb, 0, none⟩), .pointer (some ⟨xb, 0, none⟩), .pointer (some ⟨ib, 0, none⟩)] w fun e w' => e = .returned (.tuple #[]) ∧
   PullLeft w w' gb a (yac x.cm y.cm) (yle a x.cm x.E b y.cm y.E) ∧ Fr (fun k => k = gb) w w' := by
 have hal : a < S.length := (List.getElem?_eq_some_iff.1 hx).1
 have hbl : b < S.length := (List.getElem?_eq_some_iff.1 hy).1
 have hgl : gb < w.heap.size := (Array.getElem?_eq_some_iff.1 hg).1
 have n6 := h.net.n6
 obtain ⟨cap, hc⟩ := h.net.blk
 have c5 : w.cell? ⟨nb, 0, none⟩ = some (.slice (some ⟨pb, 0, none⟩) S.length cap) := by simp [World.cell?, hc]
 have c6 : w.cell? ⟨pb, a, none⟩ = some (.pointer (some ⟨u.1, 0, none⟩)) := h.net.row a u.1 (by rw [List.getElem?_map, hu]; rfl)
 have c7 : w.cell? ⟨pb, b, none⟩ = some (.pointer (some ⟨v.1, 0, none⟩)) := h.net.row b v.1 (by rw [List.getElem?_map, hv]; rfl)
 have PU : ∀ V, Below w.heap.size w V → _ := fun V hV => pulled_any u.1 a x.cm u.2 x.E v.1 b y.cm v.2 y.E V ((h.rep a u x hu hx).below hV) ((h.rep b v y hv hy).below hV) hl hk hk'
 have KB : Hid (∀ V, Below w.heap.size w V → V.heap[gb]? = some (.cells #[.pointer none, .slice none 0 0, .int .i64 0] 94)) := fun V hV => (hV.block gb hgl).trans hg
 clear h hu hv hx hy hc hl hk hk' hg
 generalize S.length = n at *
 generalize yle a x.cm x.E b y.cm y.E = A at *
 have STF : Hid (∀ (w1 : World) (x' y' z' : Value), Below w.heap.size w w1 → (((w1.setCell ⟨gb, 0, none⟩ x').setCell ⟨gb, 1, none⟩ y').setCell ⟨gb, 2, none⟩ z').heap[gb]? = some (.cells #[x', y', z'] 94) ∧ Fr (fun k => k = gb) w1 (((w1.setCell ⟨gb, 0, none⟩ x').setCell ⟨gb, 1, none⟩ y').setCell ⟨gb, 2, none⟩ z')) := fun w1 x' y' z' hb => ⟨setThree (KB.out w1 hb), (((Fr.refl (fun k => k = gb) w1).setCell (p := ⟨gb, 0, none⟩) (.inl rfl) x').setCell (p := ⟨gb, 1, none⟩) (.inl rfl) y').setCell (p := ⟨gb, 2, none⟩) (.inl rfl) z'⟩
 by_cases hfull : 20 < (ybw A.1).length
 ·have P1 : Hid (∀ V, Below w.heap.size w V → Calls Tryz.prog 76 #[.pointer (some ⟨u.1, 0, none⟩), .pointer (some ⟨v.1, 0, none⟩)] V fun e w' => e = .returned (.tuple #[.pointer none, .slice none 0 0, .int .i64 5]) ∧ Below w.heap.size w w') := fun V hV => (PU V hV).mono (by
   rintro e w' ⟨hb, ⟨_, rfl⟩ | ⟨q, _⟩⟩
   ·exact ⟨rfl, hV.trans (hb.mono hV.size)⟩
   ·omega)
  clear PU
  have HF := yab hfull
  clear hfull
  go_enter Tryz.func75, Tryz.ntmps75
  go_wp2_with fail
  go_quiet (fail)
  go_wp2_with (go_at_call 76; refine (P1.out (w.drewN nq) (ycw (Below.refl _ _) nq)).mono ?_; rintro e w1 ⟨rfl, hb1⟩; have B1 := yab hb1; have kb := KB.out w1 hb1; have k0 : w1.cell? ⟨gb, 0, none⟩ = some (.pointer none) := (by simp [World.cell?, kb]); have k1 : w1.cell? ⟨gb, 1, none⟩ = some (.slice none 0 0) := (by simp [World.cell?, kb]); have k2 : w1.cell? ⟨gb, 2, none⟩ = some (.int .i64 0) := (by simp [World.cell?, kb]); have f0 : ∀ j, w1.frozen? ⟨gb, j, none⟩ = false := (fun j => by simp [World.frozen?, kb]); clear hb1 kb)
  go_end0
  obtain ⟨q1, q2⟩ := STF.out w1 (.pointer none) (.slice none 0 0) (.int .i64 5) B1.out
  exact ⟨rfl, .inl ⟨HF.out, q1⟩, (Fr.of_below B1.out).trans q2⟩
 ·have P1 : Hid (∀ V, Below w.heap.size w V → Calls Tryz.prog 76 #[.pointer (some ⟨u.1, 0, none⟩), .pointer (some ⟨v.1, 0, none⟩)] V fun e w' => Below w.heap.size w w' ∧ ∃ ab am z c1 c2 c3, e = .returned (.tuple #[.pointer (some ⟨ab, 0, none⟩), .slice c1 c2 c3, .int .i64 0]) ∧ Rg w' ab a (yac x.cm y.cm) am A.1 ∧ w'.ownsRow z 44 3 (.slice c1 c2 c3) A.2.length (chv a A.2) ∧ w.heap.size ≤ ab ∧ w.heap.size ≤ am ∧ ab ≠ am ∧ ab < z ∧ am < z ∧ (A.2 = [] → (.slice c1 c2 c3 : Value) = .slice none 0 0)) := fun V hV => (PU V hV).mono (by
   rintro e w' ⟨hb, ⟨q, _⟩ | ⟨_, ab, am, z, cv, rfl, q1, q2, q3, q4, q5, q6, q7, q8⟩⟩
   ·exact absurd q hfull
   ·have := hV.size
    obtain ⟨c1, c2, c3, rfl⟩ : ∃ c1 c2 c3, cv = .slice c1 c2 c3 := by
     rcases q2.2 with ⟨e, _⟩ | ⟨_, _, _, e, _⟩
     ·exact ⟨_, _, _, e⟩
     ·exact ⟨_, _, _, e⟩
    exact ⟨hV.trans (hb.mono hV.size), ab, am, z, c1, c2, c3, rfl, q1, q2, by omega, by omega, q5, q6, q7, q8⟩)
  clear PU
  have HF : Hid ((ybw A.1).length ≤ 20) := by unfold Hid; omega
  clear hfull
  go_enter Tryz.func75, Tryz.ntmps75
  go_wp2_with fail
  go_quiet (fail)
  go_wp2_with (go_at_call 76; refine (P1.out (w.drewN nq) (ycw (Below.refl _ _) nq)).mono ?_; rintro e w1 ⟨hb1, ab, am, z, c1, c2, c3, rfl, hq⟩; have B1 := yab hb1; have HQ := yab hq; have kb := KB.out w1 hb1; have k0 : w1.cell? ⟨gb, 0, none⟩ = some (.pointer none) := (by simp [World.cell?, kb]); have k1 : w1.cell? ⟨gb, 1, none⟩ = some (.slice none 0 0) := (by simp [World.cell?, kb]); have k2 : w1.cell? ⟨gb, 2, none⟩ = some (.int .i64 0) := (by simp [World.cell?, kb]); have f0 : ∀ j, w1.frozen? ⟨gb, j, none⟩ = false := (fun j => by simp [World.frozen?, kb]); clear hb1 kb hq)
  go_end0
  obtain ⟨q1, q2⟩ := STF.out w1 (.pointer (some ⟨ab, 0, none⟩)) (.slice c1 c2 c3) (.int .i64 0) B1.out
  obtain ⟨p1, p2, p3, p4, p5, p6, p7, p8⟩ := HQ.out
  refine ⟨rfl, .inr ⟨HF.out, ab, am, z, _, q1, p1.keep (q2.block _ p1.rep.lt (by omega)) (q2.block _ p1.own.lt (by omega)), yas p2 (fun k e => q2.block k (World.ownsRow.lt p2 k e).2 (by have := (World.ownsRow.lt p2 k e).1; omega)), p3, p4, p5, p6, p7, p8⟩, (Fr.of_below B1.out).trans q2⟩
end Go.Proofs.K
