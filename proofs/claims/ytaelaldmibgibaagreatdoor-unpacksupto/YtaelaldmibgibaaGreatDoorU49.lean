/- The law Unpacks: unpack, the loop. -/
import Derived.Test.YtaelaldmibgibaaGreatDoorU48
import Derived.Test.YtaelaldmibgibaaGreatDoorU44

set_option linter.unusedVariables false
set_option linter.unusedSimpArgs false

namespace Go.Proofs.YtaelaldmibgibaaGreatDoor
open Go.RowKit Go.Lib Go.Maps

theorem numU (x : Int) (w : World) : Calls Tryz.prog 27 #[.int .i64 x] w fun e w' => e = .returned (.int .i64 x) ∧ w' = w := by
  go_enter Tryz.func27, Tryz.ntmps27
  go_wp2
  go_ret
  exact ⟨rfl, rfl⟩

/-- a pair's block -/
structure Pq (w : World) (pq : Nat) : Prop where
  blk : ∃ a b, w.heap[pq]? = some (.cells #[.pointer a, .pointer b] 72 (0, 0))
theorem Pq.below {w w' : World} {pq : Nat} (h : Pq w pq) (hb : Below w.heap.size w w') : Pq w' pq := by
  obtain ⟨a, b, q⟩ := h.blk
  exact ⟨a, b, by rw [hb.block pq (Array.getElem?_eq_some_iff.1 q).1]; exact q⟩

set_option maxHeartbeats 400000 in
theorem begunU (w : World) :
    Calls Tryz.prog 11 #[.int .i64 2] w fun e w' => ∃ pq, e = .returned (.tuple #[.pointer (some ⟨pq, 0, none⟩), .bool true]) ∧ Pq w' pq ∧ w.heap.size ≤ pq ∧ Below w.heap.size w w' := by
  have C1 := hide (netNew_ok 2 w (by omega) (by omega))
  have C2 := hide (fun V => refNew_ok 2 V (by omega) (by omega))
  go_enter Tryz.func11, Tryz.ntmps11
  go_wp2_with (first | (go_at_call 25; refine C1.out.mono ?_; rintro e w1 ⟨rfl, P, hN, hlo, hb1⟩; have B1 := hide hb1; clear hN hlo hb1) | (go_at_call 26; refine (C2.out w1).mono ?_; rintro e w2 ⟨ρ, S, rfl, hR, hI, hn, hp, hl, hb2⟩; have B2 := hide (B1.out.trans (hb2.mono B1.out.size)); clear hR hI hn hp hl hb2) | (go_at_call 27; refine (numU _ _).mono ?_; rintro e w2 ⟨rfl, rfl⟩))
  go_ret2
  exact ⟨_, rfl, ⟨_, _, heap_alloc_new _ _⟩, B2.out.size, B2.out.alloc B2.out.size _⟩

/-- a store into the pair leaves the net as it is -/
theorem UNet.store {w : World} {nb pb : Nat} {rbs mbs : List Nat} {m : List DR} (h : UNet w nb pb rbs mbs m) {pq j : Nat} {v : Value} (hq : Pq w pq) (hp : pb ≠ pq) : UNet (w.setCell ⟨pq, j, none⟩ v) nb pb rbs mbs m := by
  obtain ⟨a, b, hb⟩ := hq.blk
  have hk : ∀ k, k ≠ pq → (w.setCell ⟨pq, j, none⟩ v).heap[k]? = w.heap[k]? := fun k hk => heap_set_other (by simp only; exact hk)
  have hsz : (w.setCell ⟨pq, j, none⟩ v).heap.size = w.heap.size := by simp [World.setCell]
  have hn : nb ≠ pq := fun e => by
    obtain ⟨cap, q⟩ := h.net.blk
    rw [e, hb] at q
    cases q
  refine ⟨h.net.keep (hk _ hn) (hk _ hp), h.ml, fun r rb mb d h1 h2 h3 => ?_, by rw [hsz]; exact h.lt⟩
  have hR := h.rep r rb mb d h1 h2 h3
  refine hR.keep (hk _ (fun e => ?_)) (hk _ (fun e => ?_))
  · have := hR.rep.blk
    rw [e, hb] at this
    cases this
  · obtain ⟨es, clock, q, _⟩ := hR.own
    rw [e, hb] at q
    cases q
theorem Pq.store {w : World} {pq : Nat} (h : Pq w pq) (j : Nat) (hj : j < 2) (a : Option Addr) : Pq (w.setCell ⟨pq, j, none⟩ (.pointer a)) pq := by
  obtain ⟨x, y, hb⟩ := h.blk
  have h1 := heap_setCell_same w pq j _ _ (.pointer a) hb
  match j, hj, h1 with
  | 0, _, h1 => exact ⟨a, y, by simpa using h1⟩
  | 1, _, h1 => exact ⟨x, a, by simpa using h1⟩
theorem Pq.cells {w : World} {pq : Nat} (h : Pq w pq) : ∃ a b, w.cell? ⟨pq, 0, none⟩ = some (.pointer a) ∧ w.cell? ⟨pq, 1, none⟩ = some (.pointer b) ∧ w.frozen? ⟨pq, 0, none⟩ = false ∧ w.frozen? ⟨pq, 1, none⟩ = false := by
  obtain ⟨a, b, hb⟩ := h.blk
  exact ⟨a, b, by simp [World.cell?, hb], by simp [World.cell?, hb], by simp [World.frozen?, hb], by simp [World.frozen?, hb]⟩

set_option maxHeartbeats 1000000 in
theorem unpackU (pq : Nat) (t : ByteArray) (ht : t.size ≤ 10000000) (w : World) (hq : Pq w pq) (hp8 : 8 ≤ pq) (hg : Glob w) :
    Calls Tryz.prog 12 #[.pointer (some ⟨pq, 0, none⟩), .string t] w fun e w' => e = .returned (.bool true) ∧ Pq w' pq ∧ Fr (fun k => k = pq) w w' := by
  have UX := hide (Unpack_any t ht w hg)
  have UY := hide (fun V => refUnpack_any t ht V)
  have hdn := docOk_net t
  cases hn : netR t with
  | none =>
    rw [hn] at UX hdn
    have hno : ¬ docOk t := fun q => by have := hdn.1 q; simp at this
    have UZ : Hid (∀ V, Calls Tryz.prog 28 #[.string t] V fun e w' => e = .returned (.tuple #[.pointer none, .int .i64 7]) ∧ Below V.heap.size V w') := fun V => (UY.out V).mono fun e w' q => ⟨q.1.2 hno, q.2⟩
    have HQ := hide hq
    clear hg hdn hno UY hn hq
    go_enter Tryz.func12, Tryz.ntmps12
    go_wp2_with (first
      | (go_at_call 21; refine UX.out.mono ?_; rintro e w1 ⟨rfl, hb1⟩; have H1 := hide hb1; clear hb1)
      | (go_at_call 28; refine (UZ.out _).mono ?_; rintro e w2 ⟨rfl, hb2⟩; have H2 := hide (H1.out.trans (hb2.mono H1.out.size)); clear hb2)
      | (go_at_call 27; refine (numU _ _).mono ?_; rintro e w3 ⟨rfl, rfl⟩))
    go_ret
    exact ⟨rfl, HQ.out.below H2.out, Fr.of_below H2.out⟩
  | some m =>
    obtain ⟨hm, hbt, hgn⟩ := (netR_iff t m).1 hn
    rw [hn] at UX hdn
    have hyes : docOk t := hdn.2 rfl
    have UZ : Hid (∀ V, Calls Tryz.prog 28 #[.string t] V fun e w' => (∃ tb : Nat, e = .returned (.tuple #[.pointer (some ⟨tb, 0, none⟩), .int .i64 0])) ∧ Below V.heap.size V w') := fun V => (UY.out V).mono fun e w' q => ⟨q.1.1 hyes, q.2⟩
    have hpl : (packT m).length ≤ 10000000 := by rw [← hbt, bs_len]; exact ht
    have hbl : (bodyT m).length ≤ 10000000 := by unfold packT at hpl; simp at hpl; omega
    have hrl : ∀ d ∈ m, d.recs.length ≤ 10000000 := fun d hd => by
      have h1 : d.recs.length ≤ (drsT d.recs).length := by
        have : ∀ D : Drs, D.length ≤ (drsT D).length := fun D => by
          induction D with
          | nil => simp [drsT]
          | cons y D ih =>
            obtain ⟨p, x⟩ := y
            rw [drsT_cons]
            unfold DS.T
            simp
            omega
        exact this d.recs
      have h2 : (drsT d.recs).length ≤ d.T.length := by unfold DR.T; simp; omega
      have h3 : d.T.length ≤ (repsT m).length := by
        have : ∀ l : List DR, d ∈ l → d.T.length ≤ (repsT l).length := fun l => by
          induction l with
          | nil => intro q; simp at q
          | cons z l ih =>
            intro q
            rw [repsT_cons, List.length_append]
            rcases List.mem_cons.1 q with rfl | q
            · omega
            · have := ih q; omega
        exact this m hd
      have h4 : (repsT m).length ≤ (bodyT m).length := by unfold bodyT; simp; omega
      omega
    have ePK : ofBs (packT m) = t := by rw [← hbt, ofBs_bs]
    have PK : Hid (∀ (W : World) (nb pb : Nat) (rbs mbs : List Nat), UNet W nb pb rbs mbs m → Glob W → Calls Tryz.prog 18 #[.pointer (some ⟨nb, 0, none⟩)] W fun e w' => e = .returned (.string t) ∧ Below W.heap.size W w') := fun W nb pb rbs mbs hU hG => by
      have := Pack_any nb pb rbs mbs m W hU hm hgn hrl hbl hG
      rw [ePK] at this
      exact this
    have hql : pq < w.heap.size := by obtain ⟨a, b, q⟩ := hq.blk; exact (Array.getElem?_eq_some_iff.1 q).1
    have FIN : Hid (∀ (w2 : World) (nb tb pb : Nat) (rbs mbs : List Nat), Below w.heap.size w w2 → UNet w2 nb pb rbs mbs m → w.heap.size ≤ pb →
        UNet ((w2.setCell ⟨pq, 0, none⟩ (.pointer (some ⟨nb, 0, none⟩))).setCell ⟨pq, 1, none⟩ (.pointer (some ⟨tb, 0, none⟩))) nb pb rbs mbs m ∧ Glob ((w2.setCell ⟨pq, 0, none⟩ (.pointer (some ⟨nb, 0, none⟩))).setCell ⟨pq, 1, none⟩ (.pointer (some ⟨tb, 0, none⟩))) ∧ Pq ((w2.setCell ⟨pq, 0, none⟩ (.pointer (some ⟨nb, 0, none⟩))).setCell ⟨pq, 1, none⟩ (.pointer (some ⟨tb, 0, none⟩))) pq ∧ Fr (fun k => k = pq) w ((w2.setCell ⟨pq, 0, none⟩ (.pointer (some ⟨nb, 0, none⟩))).setCell ⟨pq, 1, none⟩ (.pointer (some ⟨tb, 0, none⟩)))) := fun w2 nb tb pb rbs mbs hb2 hU hlo => by
      have q2 := hq.below hb2
      have q3 := q2.store 0 (by omega) (some ⟨nb, 0, none⟩)
      have f3 : Fr (fun k => k = pq) w ((w2.setCell ⟨pq, 0, none⟩ (.pointer (some ⟨nb, 0, none⟩))).setCell ⟨pq, 1, none⟩ (.pointer (some ⟨tb, 0, none⟩))) := Fr.setCell (p := ⟨pq, 1, none⟩) (Fr.setCell (S := fun k => k = pq) (p := ⟨pq, 0, none⟩) (Fr.of_below hb2) (.inl rfl) _) (.inl rfl) _
      exact ⟨(hU.store q2 (by omega)).store q3 (by omega), hg.fr f3 (fun k hk e => by omega), q3.store 1 (by omega) _, f3⟩
    have CE : Hid (∀ w2, Below w.heap.size w w2 → ∃ a b, w2.cell? ⟨pq, 0, none⟩ = some (.pointer a) ∧ w2.cell? ⟨pq, 1, none⟩ = some (.pointer b) ∧ w2.frozen? ⟨pq, 0, none⟩ = false ∧ w2.frozen? ⟨pq, 1, none⟩ = false) := fun w2 hb2 => (hq.below hb2).cells
    have htt : (t.toList == t.toList) = true := by simp
    clear hg hdn hyes UY hn hq hm hbt hgn hpl hbl hrl ePK
    go_enter Tryz.func12, Tryz.ntmps12
    go_wp2_with (first
      | (go_at_call 21; refine UX.out.mono ?_; rintro e w1 ⟨⟨nb, pb, rbs, mbs, rfl, hU, hlo⟩, hb1⟩; have H1 := hide hb1; have U1 := hide hU; have LO := hide hlo; clear hb1 hU hlo)
      | (go_at_call 28; refine (UZ.out _).mono ?_; rintro e w2 ⟨⟨tb, rfl⟩, hb2⟩; have H2 := hide (H1.out.trans (hb2.mono H1.out.size)); have U2 := hide (U1.out.below hb2); clear hb2; obtain ⟨xa, xb, x0, x1, z0, z1⟩ := CE.out w2 H2.out; have F3 := hide (FIN.out w2 nb tb pb rbs mbs H2.out U2.out LO.out))
      | (go_at_call 27; refine (numU _ _).mono ?_; rintro e w3 ⟨rfl, rfl⟩)
      | (go_at_call 18; refine (PK.out _ _ _ _ _ F3.out.1 F3.out.2.1).mono ?_; rintro e w5 ⟨rfl, hb5⟩; have H5 := hide hb5; clear hb5))
    go_ret
    exact ⟨rfl, F3.out.2.2.1.below H5.out, F3.out.2.2.2.trans (Fr.of_below H5.out)⟩

/-- a text of the argument in memory -/
structure TextAt (w : World) (ad : Addr) (i : Nat) (s : ByteArray) : Prop where
  lt : ad.block < w.heap.size
  c : w.cell? (ad.add i) = some (.string s)
  hs : s.size ≤ 10000000
theorem addU_block (ad : Addr) (k : Nat) : (ad.add k).block = ad.block := by unfold Addr.add; split <;> rfl

set_option maxRecDepth 100000 in
set_option maxHeartbeats 1000000 in
theorem unpacks_walk (a : Option Addr) (len cap : Nat) (w : World) (hg : Glob w) (hlen : len ≤ 1048576) (hts : ∀ i, i < len → ∃ ad s, a = some ad ∧ TextAt w ad i s) :
    Calls Tryz.prog 5 #[.slice a len cap] w fun e w' => e = .returned (.bool true) ∧ Below w.heap.size w w' := by
  have BE := hide (begunU w)
  have hz8 := hg.sz
  have GL : Hid (∀ V, Below w.heap.size w V → Glob V) := fun V hV => hg.below hV
  have TX := hide hts
  clear hg hts
  go_enter Tryz.func5, Tryz.ntmps5
  go_wp2_with (go_at_call 11; refine BE.out.mono ?_; rintro e w1 ⟨pq, rfl, hq, hlo, hb1⟩; have Q1 := hide hq; have LO := hide hlo; have H1 := hide hb1; clear hq hlo hb1)
  go_loopw [4, 5] (fun kv iv wr => kv = .bool true ∧ ∃ i : Nat, i ≤ len ∧ iv = .int .i64 i ∧ Hid (Pq wr pq) ∧ Hid (Below w.heap.size w wr)) (fun _ iv _ => len - (intOf iv).toNat)
  case atStart => exact ⟨rfl, 0, Nat.zero_le _, rfl, Q1, H1⟩
  case round =>
    obtain ⟨rfl, i, hi, rfl, hQ, hB⟩ := hrel
    clear Q1 H1 BE
    by_cases hlt : i < len
    · obtain ⟨ad, s, rfl, hT⟩ := TX.out i hlt
      have ci : wr.cell? (ad.add i) = some (.string s) := (hB.out.cell (by rw [addU_block]; exact hT.lt)).trans hT.c
      have UP := hide (unpackU pq s hT.hs wr hQ.out (by have := LO.out; omega) (GL.out wr hB.out))
      have BF : Hid (∀ w2, Fr (fun k => k = pq) wr w2 → Below w.heap.size w w2) := fun w2 hf => hB.out.trans ((hf.mono (T := fun k => w.heap.size ≤ k) (fun k _ e => by rw [e]; exact LO.out)).below hB.out.size)
      clear hT TX
      go_wp2_with (go_at_call 12; refine UP.out.mono ?_; rintro e w2 ⟨rfl, hq2, hf2⟩; have Q2 := hide hq2; have B2 := hide (BF.out w2 hf2); clear hq2 hf2)
      go_roundw
      case rel => exact ⟨rfl, i + 1, by omega, by go_num, Q2, B2⟩
      case measure => simp [intOf]; omega
    · have ei : i = len := by omega
      subst ei
      go_wp2
      go_ret
      exact ⟨rfl, hB.out⟩

end Go.Proofs.YtaelaldmibgibaaGreatDoor
