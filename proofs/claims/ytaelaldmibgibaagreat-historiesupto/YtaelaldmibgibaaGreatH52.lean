/- Histories, over the twin. -/
import Derived.Test.YtaelaldmibgibaaGreatH51
import Derived.Test.YtaelaldmibgibaaGreatH48

set_option linter.unusedVariables false
set_option linter.unusedSimpArgs false
set_option linter.unusedSectionVars false
set_option maxHeartbeats 4000000
set_option maxRecDepth 100000

namespace Go.Proofs.YtaelaldmibgibaaGreat
open Go.RowKit Go.Sim
open Classical
theorem ysu : (twin Tryz.prog pl).funcs[3]? = some Tryz.f3 := yjh Tryz.func3 (by decide) (by kernel_rfl)
def pA : ByteArray := ⟨#[97]⟩
def yjr : ByteArray := ⟨#[102, 105, 114, 115, 116]⟩
structure OpIn (w : World) (ad : Addr) (i : Nat) (o : OpO) : Prop where
 lt : ad.block < w.heap.size
 c0 : w.cell? (ad.add (i * 7)) = some (.int .i64 o.k)
 c1 : w.cell? (ad.add (i * 7 + 1)) = some (.int .i64 o.r)
 c2 : w.cell? (ad.add (i * 7 + 2)) = some (.int .i64 o.f)
 c3 : w.cell? (ad.add (i * 7 + 3)) = some (.string o.p)
 c4 : w.cell? (ad.add (i * 7 + 4)) = some (.string o.t)
 c5 : w.cell? (ad.add (i * 7 + 5)) = some (.bool o.th)
 c6 : w.cell? (ad.add (i * 7 + 6)) = some (.slice o.a o.n o.c)
theorem OpIn.below {w w' : World} {ad : Addr} {i : Nat} {o : OpO} (h : OpIn w ad i o) (hb : Below w.heap.size w w') : OpIn w' ad i o := by
 have k : ∀ j, w'.cell? (ad.add j) = w.cell? (ad.add j) := fun j => hb.cell (by rw [ymn]; exact h.lt)
 exact ⟨Nat.lt_of_lt_of_le h.lt hb.size, (k _).trans h.c0, (k _).trans h.c1, (k _).trans h.c2, (k _).trans h.c3, (k _).trans h.c4, (k _).trans h.c5, (k _).trans h.c6⟩
theorem first_ok (n : Nat) : (wrR 0 ((yke n).getD 0 rs0) pA yjr).1 = 0 := by
 have e : (yke n).getD 0 rs0 = rs0 := by
  unfold yke
  rw [List.getD_eq_getElem?_getD, List.getElem?_replicate]
  split <;> rfl
 rw [e]
 unfold wrR rs0
 rw [if_neg]
 simp [noRoom, yck, ybb, ybp]
section
variable {w w1 : World} {nb : Nat}
theorem Hh.start {n : Nat} (h6 : n ≤ 6) (hN : Ne w w1 nb (yke n) []) {w2 : World} {ρ : Nat → Nat} {D : GD} (hG : Gh w1.heap.size w2 w1.heap.size n ρ gst0 D (fun _ => [])) (hρ : ∀ k, ρ k ≠ 0 → w1.heap.size ≤ k) (hb : Below w1.heap.size w1 w2) (hx : ybf w2) : Hh w w2 nb w1.heap.size n (yke n) gst0 (fun _ => False) 0 := by
 obtain ⟨pb, L, hNt, h1, h2, _⟩ := hN.ex
 have zz : ∀ k, k < w1.heap.size → ρ k = 0 := fun k hk => by
  rcases Nat.eq_zero_or_pos (ρ k) with y | y
  ·exact y
  ·have := hρ k (by omega); omega
 have hLB : ∀ x ∈ L, x.1 < w1.heap.size ∧ x.2 < w1.heap.size := fun z hz => by
  obtain ⟨i, hi⟩ := List.getElem?_of_mem hz
  have hil : i < (yke n).length := by have := (List.getElem?_eq_some_iff.1 hi).1; have := hNt.len; omega
  have q := hNt.rep i z _ hi (List.getElem?_eq_getElem hil)
  exact ⟨q.rep.lt, q.own.lt⟩
 have hsz := hN.bel.size
 refine ⟨⟨⟨pb, L, ρ, D, hNt.below hb, h1, h2, ⟨hG.n1, hG.n6, hG.blk, hG.cr, hG.pr, hG.sr, hG.rr, hG.ev, hG.rb, hG.rc, hG.rp, hG.rs, hG.re, hG.rw, hG.lt, fun k hk => Nat.le_trans hsz (hρ k hk)⟩, zz _ hNt.nlt, zz _ hNt.plt, fun x hx => ⟨zz _ (hLB x hx).1, zz _ (hLB x hx).2⟩, fun k hk => hk.elim⟩, hN.nge, hN.bel.trans (hb.mono hsz), hx⟩, ⟨_, HG.zero n h6⟩, Nat.zero_le _, fun i hi => ?_⟩
 have := (HG.zero n h6).cnt i hi
 show CS (yke n) i ≤ _
 rw [show CS (yke n) i = CS (List.replicate n ⟨fun _ => 0, []⟩) i from rfl, ← this]
 exact Int.le_refl _
end
section
variable {w0 w : World} {nb gb n : Nat} {G : Gst} {K : Nat → Prop} {M : Nat}
theorem hn_first (h : Hh w0 w nb gb n (yke n) G K M) (h1 : 1 ≤ n) (hM : M ≤ 400000) :
  Calls (twin Tryz.prog pl) 10 #[.pointer (some ⟨nb, 0, none⟩), .int .i64 0, .string pA, .string yjr] w fun e w' => e = .returned (.int .i64 0) ∧ Hm w0 w' nb gb n ((yke n).set 0 (wrR 0 ((yke n).getD 0 rs0) pA yjr).2) G K := by
 obtain ⟨pb, L, ρ, D, hN, q1, q2, hG, r1, r2, r3, r5⟩ := h.hm.ex
 have hl := h.len
 have haL : 0 < L.length := by have := hN.len; omega
 refine (shared.calls (by decide) h.hm.fix (ynd hN 0 (List.getElem?_eq_getElem haL) (yey (by omega)) (by have := (h.recs (i := 0) (by omega)).1; omega) pA yjr (by decide) (by decide) (by decide)) (fun e w' h => ⟨_, h.1⟩)).mono ?_
 rintro e w' ⟨⟨rfl, hN', hf⟩, hx'⟩
 rw [first_ok]
 exact ⟨rfl, (h.hm.step q1 q2 hG r1 r2 r3 r5 (hf.mono fun k _ e => .inr ⟨_, List.getElem_mem haL, e⟩) hN' (fun x hx => .inl hx) hx').1⟩
end
theorem ysa (n0 c1 c2 : Int) (n : Nat) (hn1 : 1 ≤ n) (hn6 : n ≤ 6) (a : Option Addr) (len cap : Nat) (hlen : len ≤ 200000) (os : Nat → OpO) (w : World) (hx : ybf w) (hs : ∀ i, i < len → ∃ ad, a = some ad ∧ OpIn w ad i (os i)) (hz : ∀ i, i < len → (os i).p.size ≤ 1000000000000 ∧ (os i).t.size ≤ 1000000000000)
  (hc : (n0 < 0 ∧ IntKind.wrap .i64 (n0 + 1) = c1 ∧ IntKind.wrap .i64 (-c1) = c2) ∨ (¬ n0 < 0 ∧ c2 = n0)) (hcn : wrap64 (1 + c2.tmod 6) = n) (hcp : 1 + c2 % 6 = n) :
  Calls (twin Tryz.prog pl) 3 #[.int .i64 n0, .slice a len cap] w fun e w' => e = .returned (.bool true) ∧ Below w.heap.size w w' := by
 have C8 := yab (eNew n w hn1 hn6 hx)
 have C9 : Hid (∀ V, Ne w V w.heap.size (yke n) [] → Calls (twin Tryz.prog pl) 9 #[.int .i64 n] V fun e w' => e = .returned (.pointer (some ⟨V.heap.size, 0, none⟩)) ∧ Hh w w' w.heap.size V.heap.size n (yke n) gst0 (fun _ => False) 0) := fun V hV => by
  refine (shared.calls (by decide) hV.fix (gNew_any n V hn1 hn6) (fun e w' h => ⟨_, h.1⟩)).mono ?_
  rintro e w' ⟨⟨rfl, ⟨ρ, D, hG, hρ⟩, hb⟩, hx'⟩
  exact ⟨rfl, Hh.start hn6 hV hG hρ hb hx'⟩
 have C11 : Hid (∀ V V1 gb, Hh w V w.heap.size gb n (yke n) gst0 (fun _ => False) 0 → Hm w V1 w.heap.size gb n ((yke n).set 0 (wrR 0 ((yke n).getD 0 rs0) pA yjr).2) gst0 (fun _ => False) → Calls (twin Tryz.prog pl) 11 #[.pointer (some ⟨gb, 0, none⟩), .int .i64 0, .string pA, .string yjr] V1 fun e w' => e = .returned (.tuple #[]) ∧ ∃ S G, Hh w w' w.heap.size gb n S G (fun _ => False) 1) := fun V V1 gb h0 h1 => by
  refine (hg_write h0 (by omega) h1 (a := 0) (by omega) pA yjr).mono ?_
  rintro e w' ⟨rfl, hm, _⟩
  obtain ⟨HH, hg⟩ := h0.hg
  exact ⟨rfl, _, _, h0.bumped hm (hg.write (by omega) (by decide) (first_ok n))⟩
 have HS := yab hs
 have HZ := yab hz
 unfold pA yjr at C11
 have C10 : Hid (∀ V gb, Hh w V w.heap.size gb n (yke n) gst0 (fun _ => False) 0 → Calls (twin Tryz.prog pl) 10 #[.pointer (some ⟨w.heap.size, 0, none⟩), .int .i64 0, .string ⟨#[97]⟩, .string ⟨#[102, 105, 114, 115, 116]⟩] V fun e w' => e = .returned (.int .i64 0) ∧ Hm w w' w.heap.size gb n ((yke n).set 0 (wrR 0 ((yke n).getD 0 rs0) ⟨#[97]⟩ ⟨#[102, 105, 114, 115, 116]⟩).2) gst0 (fun _ => False)) := fun V gb h0 => hn_first h0 hn1 (by omega)
 clear hs hz hx
 rcases hc with ⟨hneg, e1, e2⟩ | ⟨hneg, rfl⟩
 ·have d1 : decide (n0 < 0) = true := by simpa using hneg
  go_enter ysu, Tryz.ntmps3
  go_wp2_with (first
   |(go_at_call 8; refine C8.out.mono ?_; rintro e w1 ⟨rfl, hN1⟩; have N1 := yab hN1; clear hN1)
   |(go_at_call 9; refine (C9.out _ N1.out).mono ?_; rintro e w2 ⟨rfl, hH2⟩; have H2 := yab hH2; clear hH2)
   |(go_at_call 10; refine (C10.out _ _ H2.out).mono ?_; rintro e w3 ⟨rfl, hm3⟩; have HM3 := yab hm3; clear hm3)
   |(go_at_call 11; refine (C11.out _ _ _ H2.out HM3.out).mono ?_; rintro e w4 ⟨rfl, S4, G4, hH4⟩; have H4 := yab hH4; clear hH4))
  generalize w1.heap.size = gb at *
  clear C8 C9 C10 C11 N1 H2 HM3 hcn hcp
  go_loopw [9] (fun iv wr => ∃ i : Nat, i ≤ len ∧ iv = .int .i64 i ∧ ∃ S G, Hid (Hh w wr w.heap.size gb n S G (fun _ => False) (i + 1))) (fun iv _ => len - (intOf iv).toNat)
  case atStart => exact ⟨0, Nat.zero_le _, rfl, S4, G4, H4⟩
  case round =>
   clear H4
   obtain ⟨i, hi, rfl, S, G, H⟩ := hrel
   by_cases hlt : i < len
   ·obtain ⟨ad, rfl, hO⟩ := HS.out i hlt
    obtain ⟨_, c0, c1, c2, c3, c4, c5, c6⟩ := hO.below H.out.hm.bel
    rw [add_next _ _ _ (by decide)] at c1 c2 c3 c4 c5 c6
    have hzi := HZ.out i hlt
    have CF := yab (ykx H.out (by omega) (os i) hzi.1 hzi.2)
    unfold ybu OpO.val at CF
    have d2 : decide ((i : Int) < (len : Int)) = true := by simp; omega
    clear hO hzi
    go_wp2_with (go_at_call 12; refine CF.out.mono ?_; rintro e w5 ⟨rfl, S5, G5, hH5⟩; have H5 := yab hH5; clear hH5)
    go_roundw
    case rel => exact ⟨i + 1, by omega, by go_num, S5, G5, H5⟩
    case measure => simp [intOf]; omega
   ·have d2 : decide ((i : Int) < (len : Int)) = false := by simp; omega
    have hpsl : G.ps.length ≤ 300000 := by have := H.out.ps; omega
    go_wp2
    go_loopw [11] (fun rv wr => ∃ r : Nat, r ≤ n ∧ rv = .int .i64 r ∧ Hid (Hh w wr w.heap.size gb n S G (fun _ => False) (i + 1))) (fun rv _ => n - (intOf rv).toNat)
    case atStart => exact ⟨0, Nat.zero_le _, rfl, H⟩
    case round =>
     clear H
     obtain ⟨r, hr, rfl, H⟩ := hrel
     by_cases hrn : r < n
     ·have d3 : decide ((r : Int) < (n : Int)) = true := by simp; omega
      go_wp2
      go_loopw [12] (fun jv wr => ∃ j : Nat, j ≤ G.ps.length ∧ jv = .int .i64 j ∧ Hid (Hh w wr w.heap.size gb n S G (fun _ => False) (i + 1))) (fun jv _ => G.ps.length - (intOf jv).toNat)
      case atStart => exact ⟨0, Nat.zero_le _, rfl, H⟩
      case round =>
       clear H
       obtain ⟨j, hj, rfl, H⟩ := hrel
       obtain ⟨_, _, _, _, _, _, _, hG, _⟩ := H.out.hm.ex
       have g1 := hG.c1
       by_cases hjl : j < G.ps.length
       ·obtain ⟨p, hp⟩ : ∃ p, G.ps[j]? = some p := ⟨_, List.getElem?_eq_getElem hjl⟩
        obtain ⟨pg, pc, epv, hpg, cp⟩ := hG.path hp
        rw [epv] at g1
        have d4 : decide ((j : Int) < (G.ps.length : Int)) = true := by simp; omega
        have CT := yab (h_told H.out hrn (List.mem_of_getElem? hp))
        clear hG hp epv
        go_wp2_with (go_at_call 13; refine CT.out.mono ?_; rintro e w6 ⟨rfl, hH6, _⟩; have H6 := yab hH6; clear hH6)
        go_roundw
        case rel => exact ⟨j + 1, by omega, by go_num, H6⟩
        case measure => simp [intOf]; omega
       ·have d4 : decide ((j : Int) < (G.ps.length : Int)) = false := by simp; omega
        obtain ⟨pa, pc, epv⟩ := yam hG.pr
        rw [epv] at g1
        clear hG epv
        go_wp2
        go_roundw
        case rel => exact ⟨r + 1, by omega, by go_num, H⟩
        case measure => simp [intOf]; omega
     ·have d3 : decide ((r : Int) < (n : Int)) = false := by simp; omega
      go_wp2
      go_ret
      exact ⟨rfl, H.out.hm.bel⟩
 ·have d1 : decide (c2 < 0) = false := by simpa using hneg
  have hcn2 := hcp
  go_enter ysu, Tryz.ntmps3
  go_wp2_with (first
   |(go_at_call 8; refine C8.out.mono ?_; rintro e w1 ⟨rfl, hN1⟩; have N1 := yab hN1; clear hN1)
   |(go_at_call 9; refine (C9.out _ N1.out).mono ?_; rintro e w2 ⟨rfl, hH2⟩; have H2 := yab hH2; clear hH2)
   |(go_at_call 10; refine (C10.out _ _ H2.out).mono ?_; rintro e w3 ⟨rfl, hm3⟩; have HM3 := yab hm3; clear hm3)
   |(go_at_call 11; refine (C11.out _ _ _ H2.out HM3.out).mono ?_; rintro e w4 ⟨rfl, S4, G4, hH4⟩; have H4 := yab hH4; clear hH4))
  generalize w1.heap.size = gb at *
  clear C8 C9 C10 C11 N1 H2 HM3 hcn hcp
  go_loopw [9] (fun iv wr => ∃ i : Nat, i ≤ len ∧ iv = .int .i64 i ∧ ∃ S G, Hid (Hh w wr w.heap.size gb n S G (fun _ => False) (i + 1))) (fun iv _ => len - (intOf iv).toNat)
  case atStart => exact ⟨0, Nat.zero_le _, rfl, S4, G4, H4⟩
  case round =>
   clear H4
   obtain ⟨i, hi, rfl, S, G, H⟩ := hrel
   by_cases hlt : i < len
   ·obtain ⟨ad, rfl, hO⟩ := HS.out i hlt
    obtain ⟨_, c0, c1, c2, c3, c4, c5, c6⟩ := hO.below H.out.hm.bel
    rw [add_next _ _ _ (by decide)] at c1 c2 c3 c4 c5 c6
    have hzi := HZ.out i hlt
    have CF := yab (ykx H.out (by omega) (os i) hzi.1 hzi.2)
    unfold ybu OpO.val at CF
    have d2 : decide ((i : Int) < (len : Int)) = true := by simp; omega
    clear hO hzi
    go_wp2_with (go_at_call 12; refine CF.out.mono ?_; rintro e w5 ⟨rfl, S5, G5, hH5⟩; have H5 := yab hH5; clear hH5)
    go_roundw
    case rel => exact ⟨i + 1, by omega, by go_num, S5, G5, H5⟩
    case measure => simp [intOf]; omega
   ·have d2 : decide ((i : Int) < (len : Int)) = false := by simp; omega
    have hpsl : G.ps.length ≤ 300000 := by have := H.out.ps; omega
    go_wp2
    go_loopw [11] (fun rv wr => ∃ r : Nat, r ≤ n ∧ rv = .int .i64 r ∧ Hid (Hh w wr w.heap.size gb n S G (fun _ => False) (i + 1))) (fun rv _ => n - (intOf rv).toNat)
    case atStart => exact ⟨0, Nat.zero_le _, rfl, H⟩
    case round =>
     clear H
     obtain ⟨r, hr, rfl, H⟩ := hrel
     by_cases hrn : r < n
     ·have d3 : decide ((r : Int) < (n : Int)) = true := by simp; omega
      go_wp2
      go_loopw [12] (fun jv wr => ∃ j : Nat, j ≤ G.ps.length ∧ jv = .int .i64 j ∧ Hid (Hh w wr w.heap.size gb n S G (fun _ => False) (i + 1))) (fun jv _ => G.ps.length - (intOf jv).toNat)
      case atStart => exact ⟨0, Nat.zero_le _, rfl, H⟩
      case round =>
       clear H
       obtain ⟨j, hj, rfl, H⟩ := hrel
       obtain ⟨_, _, _, _, _, _, _, hG, _⟩ := H.out.hm.ex
       have g1 := hG.c1
       by_cases hjl : j < G.ps.length
       ·obtain ⟨p, hp⟩ : ∃ p, G.ps[j]? = some p := ⟨_, List.getElem?_eq_getElem hjl⟩
        obtain ⟨pg, pc, epv, hpg, cp⟩ := hG.path hp
        rw [epv] at g1
        have d4 : decide ((j : Int) < (G.ps.length : Int)) = true := by simp; omega
        have CT := yab (h_told H.out hrn (List.mem_of_getElem? hp))
        clear hG hp epv
        go_wp2_with (go_at_call 13; refine CT.out.mono ?_; rintro e w6 ⟨rfl, hH6, _⟩; have H6 := yab hH6; clear hH6)
        go_roundw
        case rel => exact ⟨j + 1, by omega, by go_num, H6⟩
        case measure => simp [intOf]; omega
       ·have d4 : decide ((j : Int) < (G.ps.length : Int)) = false := by simp; omega
        obtain ⟨pa, pc, epv⟩ := yam hG.pr
        rw [epv] at g1
        clear hG epv
        go_wp2
        go_roundw
        case rel => exact ⟨r + 1, by omega, by go_num, H⟩
        case measure => simp [intOf]; omega
     ·have d3 : decide ((r : Int) < (n : Int)) = false := by simp; omega
      go_wp2
      go_ret
      exact ⟨rfl, H.out.hm.bel⟩
end Go.Proofs.YtaelaldmibgibaaGreat
