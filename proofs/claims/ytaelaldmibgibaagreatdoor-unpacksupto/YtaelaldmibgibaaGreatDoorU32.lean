/- The document's text: all lines of records that follow. The document's text: all that was read: for each replica its paths and spots. The document's text: Unpack: the reader, the net and what was read, side by side. The document's Unpack: its first line; the replicas. The document's Unpack: what it reads for the replicas, one behind the other. The document's Unpack: one more replica. The document's Unpack: the net beside what was read, of which some is put into its place. -/
import Derived.Test.YtaelaldmibgibaaGreatDoorU29
import Derived.Test.YtaelaldmibgibaaGreatDoorU02
import Derived.Test.YtaelaldmibgibaaGreatDoorU28
import Derived.Test.YtaelaldmibgibaaGreatDoorU08
import Derived.Test.YtaelaldmibgibaaGreatDoorU11
import Derived.Test.YtaelaldmibgibaaGreatDoorU27
import Derived.Deep.RegionLaw
import Derived.Test.YtaelaldmibgibaaGreatDoorU25
import Derived.Test.YtaelaldmibgibaaGreatDoorU10

set_option linter.unusedVariables false
set_option linter.unusedSimpArgs false

namespace Go.Proofs.YtaelaldmibgibaaGreatDoor
open Go.RowKit
attribute [local go_sem ↓] stSpot
attribute [local go_sem] run_stSpot

def noOf : Value → Bool
  | .bool b => b
  | _ => false
/-- how much is left to read -/
def toRead (s : ByteArray) (wr : World) (b : Nat) : Nat := if noOf (cv wr b 2) = true then 0 else s.size - (intOf (cv wr b 1)).toNat + 1
theorem Rd.toRead {w : World} {b : Nat} {s : ByteArray} {a : Nat} {no : Bool} (h : Rd w b s a no) : toRead s w b = if no = true then 0 else s.size - a + 1 := by
  unfold Go.Proofs.YtaelaldmibgibaaGreatDoor.toRead
  simp only [cv, h.c1, h.c2, Option.getD_some, noOf, intOf, Int.toNat_natCast]

theorem map_snoc1 (L : Rds) (p : ByteArray) (r : SpR) : (L ++ [(p, r)]).map (·.1) = L.map (·.1) ++ [p] := by simp
theorem map_snoc2 (L : Rds) (p : ByteArray) (r : SpR) : (L ++ [(p, r)]).map (·.2) = L.map (·.2) ++ [r] := by simp
theorem cell_new_set (W : World) (p : Addr) (v y : Value) (t : TypeId) : ((W.setCell p v).alloc (.cells #[y] t)).cell? ⟨W.heap.size, 0, none⟩ = some y := by
  have q : ((W.setCell p v).alloc (.cells #[y] t)).heap[(W.setCell p v).heap.size]? = some (.cells #[y] t (0, 0)) := heap_alloc_new _ _
  rw [size_setCell] at q
  simp only [World.cell?, q]
  rfl
theorem size_alloc_le (W : World) (o : Obj) : W.heap.size ≤ (W.alloc o).heap.size := by simp
theorem own_as {w : World} {base : Nat} {e : TypeId} {k : Nat} {v : Value} {n m : Nat} {xs : List Value} (hn : n = m) (h : w.ownsRow base e k v n xs) : w.ownsRow base e k v m xs := hn ▸ h
theorem row_last {w : World} {base g cap K : Nat} {ps : List ByteArray} {p : ByteArray} (hl : ps.length = K + 1) (hp : ps[K]? = some p) (h : w.ownsRow base 9 1 (.slice (some ⟨g, 0, none⟩) (K + 1) cap) ps.length (svs ps)) : w.cell? ⟨g, K, none⟩ = some (.string p) := by
  rw [hl] at h
  rw [World.ownsRow.cellAt h K (by omega)]
  simp [svs, hp]
/-- what one more record makes of the reader -/
def recNext (s : ByteArray) (n : Nat) (y : Nat × Bool) (L : Rds) : Nat × Bool := ((recS s n y).st.1, (recS s n y).st.2 || notBehind L (pathText s y.1))
theorem recNext_lt (s : ByteArray) (n : Nat) (y : Nat × Bool) (L : Rds) (hy : y.1 ≤ s.size) (hz : (recNext s n y L).2 = false) : y.1 < (recNext s n y L).1 ∧ (recNext s n y L).1 ≤ s.size := by
  unfold recNext at hz ⊢
  simp only [Bool.or_eq_false_iff] at hz
  obtain ⟨_, _, d, _, _, hG⟩ := rec_got s n y hy hz.1
  exact ⟨hG.lt (by simp [DS.T]), hG.le hy⟩

set_option maxRecDepth 100000 in
set_option maxHeartbeats 4000000 in
theorem records_any (b : Nat) (s : ByteArray) (x : Nat × Bool) (n q : Nat) (h1 : 1 ≤ n) (h6 : n ≤ 6) (w : World) (h : Rd w b s x.1 x.2) :
    Calls Tryz.prog 53 #[.pointer (some ⟨b, 0, none⟩), .int .i64 n] w fun e w' => ∃ lv ov cs ρ, e = .returned (.tuple #[lv, ov]) ∧ Rcs w w' b s (recsS s n (s.size - x.1 + 1) x []).1 ρ n q ((recsS s n (s.size - x.1 + 1) x []).2.map (·.1)) ((recsS s n (s.size - x.1 + 1) x []).2.map (·.2)) lv ov cs := by
  have R0 : Hid (Rcs w w b s x (fun _ => (0, 0)) n q [] [] (.slice none 0 0) (.slice none 0 0) []) := Rcs.start n q h
  generalize hF : recsS s n (s.size - x.1 + 1) x [] = FIN
  have HF := hide hF
  clear h hF
  go_enter Tryz.func53, Tryz.ntmps53
  go_wp2_with (go_at_call 99; refine (R0.out.line).mono ?_; rintro e w1 ⟨rfl, h1'⟩; have R1 := hide h1'; clear h1')
  go_loopw [6, 7, 8] (fun lv ov mo wr => ∃ (f : Nat) (y : Nat × Bool) (L : Rds) (ρ : Nat → Nat × Nat) (cs : List SP), mo = .bool (lineB s y.1) ∧ (y.2 = false → s.size - y.1 < f) ∧ Hid (Rcs w wr b s y ρ n q (L.map (·.1)) (L.map (·.2)) lv ov cs) ∧ Hid (recsS s n f y L = FIN) ∧ Hid (L = [] → lv = .slice none 0 0 ∧ ov = .slice none 0 0) ∧ Hid (y.2 = false → L.length ≤ y.1)) (fun _ _ _ wr => toRead s wr b)
  case atStart => exact ⟨_, x, [], _, [], rfl, fun _ => by omega, R1, HF, fun _ => ⟨rfl, rfl⟩, fun _ => Nat.zero_le _⟩
  case round =>
    obtain ⟨f, y, L, ρ, cs, rfl, hf, hR, hE, hN, hLL⟩ := hrel
    have c2 := hR.out.rd.c2
    have ha := hR.out.rd.ha
    have HM := hide hR.out.rd.toRead
    clear R0 R1 HF
    by_cases hgo : lineB s y.1 = true ∧ y.2 = false
    · obtain ⟨hl, hy⟩ := hgo
      obtain ⟨f', rfl⟩ : ∃ f', f = f' + 1 := ⟨f - 1, by have := hf hy; omega⟩
      have E' : Hid (recsS s n f' (recNext s n y L) (L ++ [(pathText s y.1, recS s n y)]) = FIN) := by
        unfold Hid
        rw [← hE.out, recsS, if_pos ⟨hl, hy⟩]
        rfl
      have F' : Hid ((recNext s n y L).2 = false → y.1 < (recNext s n y L).1 ∧ (recNext s n y L).1 ≤ s.size) := recNext_lt s n y L ha
      have hst : Hid (spotS s n (pathAt s y.1, y.2 || !pathOk (pathText s y.1)) = recS s n y) := rfl
      have hml : L.length ≤ 1000000000000 := by have := hLL.out hy; have := hR.out.rd.hs; omega
      have hcl : cs.length = L.length := by rw [hR.out.len]; simp
      have L' : Hid ((recNext s n y L).2 = false → (L ++ [(pathText s y.1, recS s n y)]).length ≤ (recNext s n y L).1) := fun e => by have := F'.out e; have := hLL.out hy; simp; omega
      have M' : Hid (∀ W z, Rd W b s (recNext s n y L).1 (recNext s n y L).2 → (z = W) → toRead s z b < toRead s wr b) := fun W z hW e => by
        subst e
        rw [hW.toRead, HM.out, hy]
        simp only [Bool.false_eq_true, if_false]
        split
        · omega
        · next hz =>
          have := F'.out (Bool.eq_false_iff.2 hz)
          omega
      have hfn : Hid ((recNext s n y L).2 = false → s.size - (recNext s n y L).1 < f') := fun e => by have := F'.out e; have := hf hy; omega
      clear hE hLL HM hf F'
      rw [hl]
      rw [hy] at c2
      by_cases hLn : L = []
      · obtain ⟨rfl, rfl⟩ := hN.out hLn
        subst hLn
        have nx : Hid (recNext s n y [] = (recS s n y).st) := by unfold Hid recNext notBehind; simp
        obtain rfl : cs = [] := List.length_eq_zero_iff.1 hcl
        clear hN
        go_wp2_with (first
          | (go_at_call 99; have q := RO; refine (RO.out.line).mono ?_; rintro e w8 ⟨rfl, h8⟩; have R8 := hide h8; clear h8 RO)
          | (at_builtin; have q := RL; refine app_spot _ rfl (.tmp 46) (.tmp 48) rfl w.heap.size _ _ _ rfl (World.ownsRow_nil _ _ _ _) w5.heap.size t0 t1 t2 t3 _ _ _ _ _ _ rfl (heap_alloc_new _ _) (by omega) (by have := RL.out.rc.fr.size; simp; omega) ?_; intro g6 c6 w6 ho6 hgr6 hat6 hl6; obtain ⟨ρ6, h6x⟩ := ((RL.out.alloc _).pushO g6 _ c6 ho6 hgr6 hat6); have RO := hide h6x; clear h6x RL)
          | (at_builtin; have q := RX; refine app_str _ rfl (.tmp 42) (.tmp 44) rfl w.heap.size _ _ _ rfl (World.ownsRow_nil _ _ _ _) _ (pathText s y.1) rfl (by simp) (by omega) (by have := RX.out.rc.fr.size; simp at this ⊢; omega) ?_; intro g5 c5 w5 ho5 hgr5 hat5 hl5; obtain ⟨ρ5, h5x⟩ := ((RX.out.alloc _).pushL (pathText s y.1) g5 _ c5 ho5 hgr5 hat5); have RL := hide h5x; obtain ⟨k0, k1, k2, k3, k4, k5⟩ := h5x.cells6; dsimp only at k0 k1 k2 k3 k4 k5; clear h5x RX)
          | (go_at_call 101; have q := R2; refine (R2.out.spot h1 h6).mono ?_; rw [hst.out]; rintro e w3 ⟨c, ρ3, rfl, h3, hok, his⟩; obtain ⟨t0, t1, t2, t3, chv, ch, tmv, tm⟩ := c; obtain ⟨gc, cc, ec, _, _⟩ := World.ownsRow.form hok.ch (by rw [hok.chl]; omega); obtain ⟨gt, ct, et, _, _⟩ := World.ownsRow.form hok.tm (by rw [hok.tml]; omega); dsimp only at ec et; subst ec et; have RX := hide (Rcx.made h3 hok his); have ht3 : (w3.alloc (.cells zero6 117)).there w3.heap.size 0 6 := (Mine.made' w3 zero6 117 (n := 6) rfl).there; simp only [zero6] at ht3; dsimp only [SP.cells, zero6] at RX ⊢; clear h3 hok his R2)
          | (go_at_call 100; refine (hR.out.path).mono ?_; rintro e w2 ⟨rfl, h2⟩; have R2 := hide h2; clear h2 hR))
        have R9 := R8.out
        rw [← nx.out] at R9
        exact ⟨⟨f', recNext s n y [], [(pathText s y.1, recS s n y)], ρ6, _, by rw [nx.out], hfn.out, R9, E', fun e => absurd e (by simp), L'⟩, M'.out _ _ R9.rd rfl⟩
      · obtain ⟨L0, l0, rfl⟩ : ∃ L0 l0, L = L0 ++ [l0] := by
          rcases List.eq_nil_or_concat L with e | ⟨L0, l0, e⟩
          · exact absurd e hLn
          · exact ⟨L0, l0, by simpa using e⟩
        have hlen : ((L0 ++ [l0]).map (·.1)).length = L0.length + 1 := by simp
        have hla : ((L0 ++ [l0]).map (·.1))[L0.length]? = some l0.1 := by simp
        replace hcl : cs.length = L0.length + 1 := by simpa using hcl
        replace hml : L0.length + 1 ≤ 1000000000000 := by simpa using hml
        have fl := World.ownsRow.form hR.out.ol (by rw [hlen]; omega)
        have fo := World.ownsRow.form hR.out.oo (by rw [hcl]; omega)
        rw [hlen] at fl
        rw [hcl] at fo
        obtain ⟨g, cap, rfl, _, _⟩ := fl
        obtain ⟨go, co, rfl, _, _⟩ := fo
        have nbE : Hid (notBehind (L0 ++ [l0]) (pathText s y.1) = !Op.bytesLess l0.1.toList (pathText s y.1).toList) := by unfold Hid notBehind slt; simp
        clear hN hLn
        cases hs : Op.bytesLess l0.1.toList (pathText s y.1).toList with
        | true =>
          have nx : Hid (recNext s n y (L0 ++ [l0]) = (recS s n y).st) := by unfold Hid recNext; rw [nbE.out, hs]; simp
          clear nbE
          go_wp2_with (first
            | (go_at_call 99; have q := RO; refine (RO.out.line).mono ?_; rintro e w8 ⟨rfl, h8⟩; have R8 := hide h8; clear h8 RO)
            | (at_builtin; have q := RL; refine app_spot _ rfl (.tmp 46) (.tmp 48) rfl w.heap.size _ _ _ rfl (OO.alloc _) w5.heap.size t0 t1 t2 t3 _ _ _ _ _ _ rfl (heap_alloc_new _ _) (by omega) (by have := RL.out.rc.fr.size; simp; omega) ?_; intro g6 c6 w6 ho6 hgr6 hat6 hl6; obtain ⟨ρ6, h6x⟩ := ((RL.out.alloc _).pushO g6 _ c6 (by rw [hcl]; exact ho6) hgr6 hat6); have RO := hide h6x; clear h6x RL OO)
            | (at_builtin; have q := RX; refine app_str _ rfl (.tmp 42) (.tmp 44) rfl w.heap.size _ _ _ rfl ((own_as hlen RX.out.rc.ol).alloc _) _ (pathText s y.1) rfl (by simp) (by omega) (by have := RX.out.rc.fr.size; simp at this ⊢; omega) ?_; intro g5 c5 w5 ho5 hgr5 hat5 hl5; obtain ⟨ρ5, h5x⟩ := ((RX.out.alloc _).pushL (pathText s y.1) g5 _ c5 (by rw [hlen]; exact ho5) hgr5 hat5); have RL := hide h5x; have OO := own_as hcl h5x.rc.oo; obtain ⟨k0, k1, k2, k3, k4, k5⟩ := h5x.cells6; dsimp only at k0 k1 k2 k3 k4 k5; clear h5x RX)
            | (go_at_call 101; have q := R2; refine (R2.out.spot h1 h6).mono ?_; rw [hst.out]; rintro e w3 ⟨c, ρ3, rfl, h3, hok, his⟩; obtain ⟨t0, t1, t2, t3, chv, ch, tmv, tm⟩ := c; obtain ⟨gc, cc, ec, _, _⟩ := World.ownsRow.form hok.ch (by rw [hok.chl]; omega); obtain ⟨gt, ct, et, _, _⟩ := World.ownsRow.form hok.tm (by rw [hok.tml]; omega); dsimp only at ec et; subst ec et; have RX := hide (Rcx.made h3 hok his); have ht3 : (w3.alloc (.cells zero6 117)).there w3.heap.size 0 6 := (Mine.made' w3 zero6 117 (n := 6) rfl).there; simp only [zero6] at ht3; dsimp only [SP.cells, zero6] at RX ⊢; have kl := row_last hlen hla RX.out.rc.ol; have cb := RX.out.rc.rd.c2; have fb := RX.out.rc.rd.fz 2; clear h3 hok his R2)
            | (go_at_call 100; refine (hR.out.path).mono ?_; rintro e w2 ⟨rfl, h2⟩; have R2 := hide h2; clear h2 hR))
          have R9 := R8.out
          rw [← nx.out, ← map_snoc1, ← map_snoc2] at R9
          exact ⟨⟨f', recNext s n y (L0 ++ [l0]), L0 ++ [l0] ++ [(pathText s y.1, recS s n y)], ρ6, _, by rw [nx.out], hfn.out, R9, E', fun e => absurd e (by simp), L'⟩, M'.out _ _ R9.rd rfl⟩
        | false =>
          have nx : Hid (recNext s n y (L0 ++ [l0]) = ((recS s n y).st.1, true)) := by unfold Hid recNext; rw [nbE.out, hs]; simp
          clear nbE
          go_wp2_with (first
            | (go_at_call 99; have q := RO; refine (RO.out.line).mono ?_; rintro e w8 ⟨rfl, h8⟩; have R8 := hide h8; clear h8 RO)
            | (at_builtin; have q := RL; refine app_spot _ rfl (.tmp 46) (.tmp 48) rfl w.heap.size _ _ _ rfl (OO.alloc _) w5.heap.size t0 t1 t2 t3 _ _ _ _ _ _ rfl (heap_alloc_new _ _) (by omega) (by have := RL.out.rc.fr.size; simp; omega) ?_; intro g6 c6 w6 ho6 hgr6 hat6 hl6; obtain ⟨ρ6, h6x⟩ := ((RL.out.alloc _).pushO g6 _ c6 (by rw [hcl]; exact ho6) hgr6 hat6); have RO := hide h6x; clear h6x RL OO)
            | (at_builtin; have q := RX; refine app_str _ rfl (.tmp 42) (.tmp 44) rfl w.heap.size _ _ _ rfl ((own_as hlen (RX.out.setNo true).rc.ol).alloc _) _ (pathText s y.1) rfl (cell_new_set _ _ _ _ _) (by omega) (Nat.le_trans (RX.out.setNo true).rc.fr.size (size_alloc_le _ _)) ?_; intro g5 c5 w5 ho5 hgr5 hat5 hl5; obtain ⟨ρ5, h5x⟩ := (((RX.out.setNo true).alloc _).pushL (pathText s y.1) g5 _ c5 (by rw [hlen]; exact ho5) hgr5 hat5); have RL := hide h5x; have OO := own_as hcl h5x.rc.oo; obtain ⟨k0, k1, k2, k3, k4, k5⟩ := h5x.cells6; dsimp only at k0 k1 k2 k3 k4 k5; clear h5x RX)
            | (go_at_call 101; have q := R2; refine (R2.out.spot h1 h6).mono ?_; rw [hst.out]; rintro e w3 ⟨c, ρ3, rfl, h3, hok, his⟩; obtain ⟨t0, t1, t2, t3, chv, ch, tmv, tm⟩ := c; obtain ⟨gc, cc, ec, _, _⟩ := World.ownsRow.form hok.ch (by rw [hok.chl]; omega); obtain ⟨gt, ct, et, _, _⟩ := World.ownsRow.form hok.tm (by rw [hok.tml]; omega); dsimp only at ec et; subst ec et; have RX := hide (Rcx.made h3 hok his); have ht3 : (w3.alloc (.cells zero6 117)).there w3.heap.size 0 6 := (Mine.made' w3 zero6 117 (n := 6) rfl).there; simp only [zero6] at ht3; dsimp only [SP.cells, zero6] at RX ⊢; have kl := row_last hlen hla RX.out.rc.ol; have cb := RX.out.rc.rd.c2; have fb := RX.out.rc.rd.fz 2; clear h3 hok his R2)
            | (go_at_call 100; refine (hR.out.path).mono ?_; rintro e w2 ⟨rfl, h2⟩; have R2 := hide h2; clear h2 hR))
          have R9 := R8.out
          rw [← nx.out, ← map_snoc1, ← map_snoc2] at R9
          exact ⟨⟨f', recNext s n y (L0 ++ [l0]), L0 ++ [l0] ++ [(pathText s y.1, recS s n y)], ρ6, _, by rw [nx.out], hfn.out, R9, E', fun e => absurd e (by simp), L'⟩, M'.out _ _ R9.rd rfl⟩
    · have E : Hid (FIN = (y, L)) := by
        unfold Hid
        rw [← hE.out]
        cases f with
        | zero => rfl
        | succ f => rw [recsS, if_neg hgo]
      have how : lineB s y.1 = false ∨ (lineB s y.1 = true ∧ y.2 = true) := by
        cases hl : lineB s y.1
        · exact .inl rfl
        · refine .inr ⟨rfl, ?_⟩
          cases hy : y.2
          · exact absurd ⟨hl, hy⟩ hgo
          · rfl
      have HR : Hid (∀ W, wr = W → ∃ ρ cs, Rcs w W b s FIN.1 ρ n q (FIN.2.map (·.1)) (FIN.2.map (·.2)) _ _ cs) := fun W e => by
        rw [E.out, ← e]
        exact ⟨ρ, cs, hR.out⟩
      clear hE hN hR HM hLL
      rcases how with hl | ⟨hl, hy⟩
      · rw [hl]
        go_wp2
        go_ret2
        obtain ⟨ρ, cs, hr⟩ := HR.out _ rfl
        exact ⟨_, _, cs, ρ, rfl, hr⟩
      · rw [hl]
        rw [hy] at c2
        go_wp2
        go_ret2
        obtain ⟨ρ, cs, hr⟩ := HR.out _ rfl
        exact ⟨_, _, cs, ρ, rfl, hr⟩

end Go.Proofs.YtaelaldmibgibaaGreatDoor

namespace Go.Proofs.YtaelaldmibgibaaGreatDoor
open Go.RowKit

/-- a replica's common time is another list now -/
theorem RefRep.putCom {w : World} {b : Nat} {ρ : Nat → Nat × Nat} {S : RS} (h : RefRep w b ρ S) (cg cc r : Nat) (es : S.cv = .slice (some ⟨cg, 0, none⟩) S.n cc) (hrn : r < S.n) (v : Value) (l : List Int)
    (hv : intRow w v l) (hl : l.length = S.n) (hr : role ρ v (4, r)) :
    RefRep (w.setCell ⟨cg, r, none⟩ v) b ρ { S with coms := S.coms.set r (v, l) } := by
  have hρ : ρ cg = (3, 0) := h.rc cg (by rw [es]; rfl)
  have hrl : r < S.coms.length := by have := h.coml; omega
  refine { net := ?_, n1 := h.n1, n6 := h.n6, p := ownsRow_far h.p h.rp hρ (by simp), c := ?_, s := ownsRow_far h.s h.rs hρ (by simp), com := ?_, row := ?_, sp := ?_, rb := h.rb, rp := h.rp, rc := h.rc, rs := h.rs, lt := ?_ }
  · rw [heap_set_other (by simp only; intro e; rw [← e, h.rb] at hρ; simp at hρ)]; exact h.net
  · simp only [List.map_set]
    have hs := h.c
    rw [es] at hs ⊢
    exact (World.ownsRow.stored hs r v).1
  · intro r' y hy
    by_cases e : r' = r
    · subst e
      simp [hrl] at hy
      subst hy
      exact ⟨ownsRow_far hv hr hρ (by simp), hl, hr⟩
    · rw [List.getElem?_set_ne (Ne.symm e)] at hy
      have q := h.com r' y hy
      exact ⟨ownsRow_far q.1 q.2.2 hρ (by simp), q.2⟩
  · intro r' y hy
    exact ⟨ownsRow_far (h.row r' y hy).1 (h.row r' y hy).2 hρ (by simp), (h.row r' y hy).2⟩
  · intro r' y hy t ht
    exact (h.sp r' y hy t ht).far hρ (by simp) (by simp)
  · intro k hk
    rw [size_setCell]; exact h.lt k hk

/-- what was read for a replica -/
structure RR where
  lv : Value
  ov : Value
  ps : List ByteArray
  cs : List SP
  rs : List SpR

structure Rep1 (w : World) (σ : Nat → Nat × Nat) (n q : Nat) (r : RR) : Prop where
  ol : w.ownsRow 0 9 1 r.lv r.ps.length (svs r.ps)
  oo : w.ownsRow 0 117 6 r.ov r.cs.length (spv r.cs)
  len : r.cs.length = r.rs.length
  is : ∀ (i : Nat) c x, r.cs[i]? = some c → r.rs[i]? = some x → SpIs c x
  ok : ∀ (i : Nat) c, r.cs[i]? = some c → RdSp w σ n q i c
  rl : role σ r.lv (20, q)
  ro : role σ r.ov (21, q)
theorem Rep1.keep {w w' : World} {σ : Nat → Nat × Nat} {n q : Nat} {r : RR} (h : Rep1 w σ n q r) (hk : ∀ k, (σ k).1 ≠ 0 → w'.heap[k]? = w.heap[k]?) : Rep1 w' σ n q r :=
  ⟨ownsRow_keep h.ol (fun k e => hk k (by rw [h.rl k e]; simp)), ownsRow_keep h.oo (fun k e => hk k (by rw [h.ro k e]; simp)), h.len, h.is, fun i c hc => (h.ok i c hc).keep hk, h.rl, h.ro⟩
/-- the same under another account of whose a block is, which agrees where it spoke; what may have turned is the outer lists -/
theorem Rep1.to {w w' : World} {σ σ' : Nat → Nat × Nat} {n q : Nat} {r : RR} (h : Rep1 w σ n q r) (hk : ∀ k z, σ k = z → z.1 ≠ 0 → z.1 ≠ 22 → z.1 ≠ 23 → w'.heap[k]? = w.heap[k]? ∧ σ' k = z) (hq : q < 6) : Rep1 w' σ' n q r := by
  have a : ∀ k, r.lv.ownBlock = some k → w'.heap[k]? = w.heap[k]? ∧ σ' k = (20, q) := fun k e => hk k _ (h.rl k e) (by simp) (by simp) (by simp)
  have b : ∀ k, r.ov.ownBlock = some k → w'.heap[k]? = w.heap[k]? ∧ σ' k = (21, q) := fun k e => hk k _ (h.ro k e) (by simp) (by simp) (by simp)
  refine ⟨ownsRow_keep h.ol (fun k e => (a k e).1), ownsRow_keep h.oo (fun k e => (b k e).1), h.len, h.is, fun i c hc => ?_, fun k e => (a k e).2, fun k e => (b k e).2⟩
  have o := h.ok i c hc
  have d : ∀ k, c.chv.ownBlock = some k → w'.heap[k]? = w.heap[k]? ∧ σ' k = (40 + q, 2 * i) := fun k e => hk k _ (o.chr k e) (by simp) (by simp; omega) (by simp; omega)
  have f : ∀ k, c.tmv.ownBlock = some k → w'.heap[k]? = w.heap[k]? ∧ σ' k = (40 + q, 2 * i + 1) := fun k e => hk k _ (o.tmr k e) (by simp) (by simp; omega) (by simp; omega)
  exact ⟨ownsRow_keep o.ch (fun k e => (d k e).1), o.chl, fun k e => (d k e).2, ownsRow_keep o.tm (fun k e => (f k e).1), o.tml, fun k e => (f k e).2⟩

/-- all replicas that were read, and the two lists that hold their lists -/
structure Rdb (base : Nat) (w : World) (σ : Nat → Nat × Nat) (n : Nat) (R : List RR) (nv xv : Value) (ns xs : List Value) : Prop where
  on : w.ownsRow base 25 1 nv ns.length ns
  ox : w.ownsRow base 112 1 xv xs.length xs
  rn : role σ nv (22, 0)
  rx : role σ xv (23, 0)
  rep : ∀ (q : Nat) r, R[q]? = some r → Rep1 w σ n q r
  lo : ∀ k, (σ k).1 ≠ 0 → base ≤ k ∧ k < w.heap.size
  le : R.length ≤ 6

theorem Rdb.start (base : Nat) (w : World) (n : Nat) : Rdb base w (fun _ => (0, 0)) n [] (.slice none 0 0) (.slice none 0 0) [] [] :=
  ⟨World.ownsRow_nil _ _ _ _, World.ownsRow_nil _ _ _ _, fun k hk => by simp [Value.ownBlock] at hk, fun k hk => by simp [Value.ownBlock] at hk, fun q r hr => by simp at hr, fun k hk => by simp at hk, by simp⟩

section
variable {base : Nat} {w w' : World} {σ : Nat → Nat × Nat} {n : Nat} {R : List RR} {nv xv : Value} {ns xs : List Value}

theorem Rdb.free (h : Rdb base w σ n R nv xv ns xs) {k : Nat} (hk : w.heap.size ≤ k) : (σ k).1 = 0 := by
  rcases Nat.decEq (σ k).1 0 with e | e
  · have := (h.lo k e).2; omega
  · exact e
theorem Rdb.keep (h : Rdb base w σ n R nv xv ns xs) (hs : w.heap.size ≤ w'.heap.size) (hk : ∀ k, (σ k).1 ≠ 0 → w'.heap[k]? = w.heap[k]?) : Rdb base w' σ n R nv xv ns xs :=
  ⟨ownsRow_keep h.on (fun k e => hk k (by rw [h.rn k e]; simp)), ownsRow_keep h.ox (fun k e => hk k (by rw [h.rx k e]; simp)), h.rn, h.rx, fun q r hr => (h.rep q r hr).keep hk, fun k e => ⟨(h.lo k e).1, Nat.lt_of_lt_of_le (h.lo k e).2 hs⟩, h.le⟩
theorem Rdb.below (h : Rdb base w σ n R nv xv ns xs) (hb : Below w.heap.size w w') : Rdb base w' σ n R nv xv ns xs := h.keep hb.size (fun k e => hb.block k (h.lo k e).2)

/-- one more replica is read -/
theorem Rdb.add (h : Rdb base w σ n R nv xv ns xs) (hb : base ≤ w.heap.size) {b : Nat} {s : ByteArray} {x : Nat × Bool} {ρ : Nat → Nat × Nat} {ps : List ByteArray} {rs : List SpR} {lv ov : Value} {cs : List SP} (hc : Rcs w w' b s x ρ n R.length ps rs lv ov cs) (hbn : (σ b).1 = 0) (hle : R.length < 6) :
    ∃ σ', Rdb base w' σ' n (R ++ [⟨lv, ov, ps, cs, rs⟩]) nv xv ns xs ∧ ∀ k, (σ' k).1 ≠ 0 → (σ k).1 ≠ 0 ∨ w.heap.size ≤ k := by
  have old : ∀ k z, σ k = z → z.1 ≠ 0 → w'.heap[k]? = w.heap[k]? ∧ (fun k => if (ρ k).1 ≠ 0 then ρ k else σ k) k = z := fun k z hz h0 => by
    have hk := h.lo k (by rw [hz]; exact h0)
    refine ⟨hc.fr.block k hk.2 (fun e => by subst e; rw [hz] at hbn; exact h0 hbn), ?_⟩
    have : ¬ (ρ k).1 ≠ 0 := fun q => by have := (hc.lo k q).1; omega
    simp only [this, if_false]
    exact hz
  have new : ∀ k z, ρ k = z → z.1 ≠ 0 → (fun k => if (ρ k).1 ≠ 0 then ρ k else σ k) k = z := fun k z hz h0 => by
    have : (ρ k).1 ≠ 0 := by rw [hz]; exact h0
    simp only [this, ne_eq, not_false_eq_true, if_true]
    exact hz
  refine ⟨fun k => if (ρ k).1 ≠ 0 then ρ k else σ k, ⟨ownsRow_keep h.on (fun k e => (old k _ (h.rn k e) (by simp)).1), ownsRow_keep h.ox (fun k e => (old k _ (h.rx k e) (by simp)).1), fun k e => (old k _ (h.rn k e) (by simp)).2, fun k e => (old k _ (h.rx k e) (by simp)).2, ?_, ?_, by simp; omega⟩, ?_⟩
  · intro q r hr
    rcases Nat.lt_or_ge q R.length with hq | hq
    · rw [List.getElem?_append_left hq] at hr
      exact (h.rep q r hr).to (fun k z hz h0 _ _ => old k z hz h0) (by omega)
    · rw [List.getElem?_append_right hq] at hr
      have : q = R.length := by
        rcases Nat.eq_or_lt_of_le hq with e | e
        · exact e.symm
        · rw [List.getElem?_eq_none (by simp; omega)] at hr; cases hr
      subst this
      simp at hr
      subst hr
      exact ⟨ownsRow_base hc.ol (fun _ _ => Nat.zero_le _), ownsRow_base hc.oo (fun _ _ => Nat.zero_le _), hc.len, hc.is, fun i c hi => by
        have o := hc.ok i c hi
        exact ⟨o.ch, o.chl, fun k e => new k _ (o.chr k e) (by simp), o.tm, o.tml, fun k e => new k _ (o.tmr k e) (by simp)⟩, fun k e => new k _ (hc.rl k e) (by simp), fun k e => new k _ (hc.ro k e) (by simp)⟩
  · intro k hk
    by_cases e : (ρ k).1 ≠ 0
    · have := hc.lo k e
      exact ⟨by omega, this.2⟩
    · simp only [e, if_false] at hk
      exact ⟨(h.lo k hk).1, Nat.lt_of_lt_of_le (h.lo k hk).2 hc.fr.size⟩
  · intro k hk
    by_cases e : (ρ k).1 ≠ 0
    · exact .inr (hc.lo k e).1
    · simp only [e, if_false] at hk
      exact .inl hk

theorem Rdb.pushN (h : Rdb base w σ n R nv xv ns xs) (v : Value) (g m cap : Nat) (hown : w'.ownsRow base 25 1 (.slice (some ⟨g, 0, none⟩) m cap) (ns.length + 1) (ns ++ [v])) (hg : w.grownBy w' nv.ownBlock) (hat : nv.ownBlock = some g ∨ g = w.heap.size) :
    ∃ σ', Rdb base w' σ' n R (.slice (some ⟨g, 0, none⟩) m cap) xv (ns ++ [v]) xs ∧ ∀ k, (σ' k).1 ≠ 0 → (σ k).1 ≠ 0 ∨ w.heap.size ≤ k := by
  obtain ⟨σ', e1, e2, e3⟩ := grown_role h.rn hat (fun k hk => h.free hk)
  have hglt := hown.lt g rfl
  have old : ∀ k z, σ k = z → z.1 ≠ 0 → z.1 ≠ 22 → w'.heap[k]? = w.heap[k]? ∧ σ' k = z := fun k z hz h0 hq => by
    refine ⟨hg.block k (h.lo k (by rw [hz]; exact h0)).2 (fun e => hq (by rw [← hz, h.rn k e.symm])), ?_⟩
    by_cases hk : k = g
    · subst hk; rw [e3 (by rw [hz]; exact h0), hz]
    · rw [e2 k hk, hz]
  refine ⟨σ', ⟨by rw [List.length_append]; exact hown, ownsRow_keep h.ox (fun k e => (old k _ (h.rx k e) (by simp) (by simp)).1), ?_, fun k e => (old k _ (h.rx k e) (by simp) (by simp)).2, fun q r hr => (h.rep q r hr).to (fun k z hz h0 h22 _ => old k z hz h0 h22) ?_, ?_, h.le⟩, ?_⟩
  · intro k hk
    have : k = g := by simpa [Value.ownBlock] using hk.symm
    subst this
    exact e1
  · have := (List.getElem?_eq_some_iff.1 hr).1
    have := h.le
    omega
  · intro k hk
    by_cases hkg : k = g
    · subst hkg; exact hglt
    · rw [e2 k hkg] at hk
      exact ⟨(h.lo k hk).1, Nat.lt_of_lt_of_le (h.lo k hk).2 hg.size⟩
  · intro k hk
    by_cases hkg : k = g
    · subst hkg
      rcases hat with q | q
      · exact .inl (by rw [h.rn _ q]; simp)
      · exact .inr (by omega)
    · rw [e2 k hkg] at hk
      exact .inl hk
theorem Rdb.pushX (h : Rdb base w σ n R nv xv ns xs) (v : Value) (g m cap : Nat) (hown : w'.ownsRow base 112 1 (.slice (some ⟨g, 0, none⟩) m cap) (xs.length + 1) (xs ++ [v])) (hg : w.grownBy w' xv.ownBlock) (hat : xv.ownBlock = some g ∨ g = w.heap.size) :
    ∃ σ', Rdb base w' σ' n R nv (.slice (some ⟨g, 0, none⟩) m cap) ns (xs ++ [v]) ∧ ∀ k, (σ' k).1 ≠ 0 → (σ k).1 ≠ 0 ∨ w.heap.size ≤ k := by
  obtain ⟨σ', e1, e2, e3⟩ := grown_role h.rx hat (fun k hk => h.free hk)
  have hglt := hown.lt g rfl
  have old : ∀ k z, σ k = z → z.1 ≠ 0 → z.1 ≠ 23 → w'.heap[k]? = w.heap[k]? ∧ σ' k = z := fun k z hz h0 hq => by
    refine ⟨hg.block k (h.lo k (by rw [hz]; exact h0)).2 (fun e => hq (by rw [← hz, h.rx k e.symm])), ?_⟩
    by_cases hk : k = g
    · subst hk; rw [e3 (by rw [hz]; exact h0), hz]
    · rw [e2 k hk, hz]
  refine ⟨σ', ⟨ownsRow_keep h.on (fun k e => (old k _ (h.rn k e) (by simp) (by simp)).1), by rw [List.length_append]; exact hown, fun k e => (old k _ (h.rn k e) (by simp) (by simp)).2, ?_, fun q r hr => (h.rep q r hr).to (fun k z hz h0 _ h23 => old k z hz h0 h23) ?_, ?_, h.le⟩, ?_⟩
  · intro k hk
    have : k = g := by simpa [Value.ownBlock] using hk.symm
    subst this
    exact e1
  · have := (List.getElem?_eq_some_iff.1 hr).1
    have := h.le
    omega
  · intro k hk
    by_cases hkg : k = g
    · subst hkg; exact hglt
    · rw [e2 k hkg] at hk
      exact ⟨(h.lo k hk).1, Nat.lt_of_lt_of_le (h.lo k hk).2 hg.size⟩
  · intro k hk
    by_cases hkg : k = g
    · subst hkg
      rcases hat with q | q
      · exact .inl (by rw [h.rx _ q]; simp)
      · exact .inr (by omega)
    · rw [e2 k hkg] at hk
      exact .inl hk
end

end Go.Proofs.YtaelaldmibgibaaGreatDoor

namespace Go.Proofs.YtaelaldmibgibaaGreatDoor
open Go.RowKit

/-- the reader (the first block that is made), the net, what was read -/
structure U0 (w wr : World) (s : ByteArray) (x : Nat × Bool) (tb n : Nat) (ρ σ : Nat → Nat × Nat) (S : RS) (R : List RR) (nv xv : Value) (ns xs : List Value) : Prop where
  rd : Rd wr w.heap.size s x.1 x.2
  net : RefRep wr tb ρ S
  sn : S.n = n
  db : Rdb w.heap.size wr σ n R nv xv ns xs
  ap : ∀ k, (ρ k).1 ≠ 0 → (σ k).1 = 0
  rlo : ∀ k, (ρ k).1 ≠ 0 → w.heap.size < k
  srd : (σ w.heap.size).1 = 0
  bel : Below w.heap.size w wr

section
variable {w wr w' : World} {s : ByteArray} {x y : Nat × Bool} {tb n : Nat} {ρ σ : Nat → Nat × Nat} {S : RS} {R : List RR} {nv xv : Value} {ns xs : List Value}

theorem U0.n1 (h : U0 w wr s x tb n ρ σ S R nv xv ns xs) : 1 ≤ n := by rw [← h.sn]; exact h.net.n1
theorem U0.n6 (h : U0 w wr s x tb n ρ σ S R nv xv ns xs) : n ≤ 6 := by rw [← h.sn]; exact h.net.n6
/-- what turns is the reader, and what is new -/
theorem U0.onRd (h : U0 w wr s x tb n ρ σ S R nv xv ns xs) (hr : Rd w' w.heap.size s y.1 y.2) (hf : Fr (fun k => k = w.heap.size) wr w') : U0 w w' s y tb n ρ σ S R nv xv ns xs := by
  refine ⟨hr, h.net.fr hf (fun k hk e => by have := h.rlo k hk; omega), h.sn, h.db.keep hf.size (fun k hk => hf.block k (h.db.lo k hk).2 (fun e => by subst e; exact hk h.srd)), h.ap, h.rlo, h.srd, ?_⟩
  exact ⟨hf.os.trans h.bel.os, hf.tape.trans h.bel.tape, hf.output.trans h.bel.output, Nat.le_trans h.bel.size hf.size, fun k hk => (hf.block k (Nat.lt_of_lt_of_le hk h.bel.size) (by omega)).trans (h.bel.block k hk)⟩
theorem U0.below (h : U0 w wr s x tb n ρ σ S R nv xv ns xs) (hb : Below wr.heap.size wr w') : U0 w w' s x tb n ρ σ S R nv xv ns xs :=
  h.onRd (h.rd.keep (hb.block _ h.rd.lt)) (Fr.of_below hb)
theorem U0.drewN (h : U0 w wr s x tb n ρ σ S R nv xv ns xs) (m : Nat) : U0 w (wr.drewN m) s x tb n ρ σ S R nv xv ns xs :=
  h.onRd (h.rd.keep rfl) ((Fr.refl _ _).drewN m)
theorem U0.want (h : U0 w wr s x tb n ρ σ S R nv xv ns xs) (p : ByteArray) (hp : p.size ≤ 1000) :
    Calls Tryz.prog 50 #[.pointer (some ⟨w.heap.size, 0, none⟩), .string p] wr fun e w' => e = .returned (.tuple #[]) ∧ U0 w w' s (wantS s p x) tb n ρ σ S R nv xv ns xs := by
  refine (want_any _ s x.1 x.2 p hp wr h.rd).mono ?_
  rintro e w' ⟨rfl, hr, hf⟩
  exact ⟨rfl, h.onRd hr hf⟩

/-- a time is read -/
structure U1 (w wr w' : World) (s : ByteArray) (x : Nat × Bool) (tb n : Nat) (ρ σ : Nat → Nat × Nat) (S : RS) (R : List RR) (nv xv : Value) (ns xs : List Value) (g cap : Nat) (l : List Int) : Prop where
  u : U0 w w' s x tb n ρ σ S R nv xv ns xs
  own : w'.ownsRow wr.heap.size 3 1 (.slice (some ⟨g, 0, none⟩) n cap) n (ivs l)
  len : l.length = n
  le : w.heap.size < g
  rf : (ρ g).1 = 0
  sf : (σ g).1 = 0
theorem U0.time (h : U0 w wr s x tb n ρ σ S R nv xv ns xs) :
    Calls Tryz.prog 52 #[.pointer (some ⟨w.heap.size, 0, none⟩), .int .i64 n] wr fun e w' => ∃ g cap, e = .returned (.slice (some ⟨g, 0, none⟩) n cap) ∧ U1 w wr w' s (timeS s n x).1 tb n ρ σ S R nv xv ns xs g cap (timeS s n x).2 := by
  refine (time_any _ s x n h.n6 wr h.rd).mono ?_
  rintro e w' ⟨v, rfl, hT⟩
  have h1 := h.n1
  have ho := hT.own
  rw [timeS_len] at ho
  obtain ⟨g, cap, rfl, hg, hgl⟩ := World.ownsRow.form ho (by omega)
  have f1 : (ρ g).1 = 0 := by
    rcases Nat.decEq (ρ g).1 0 with e | e
    · have := h.net.lt g e; omega
    · exact e
  exact ⟨g, cap, rfl, h.onRd hT.rd hT.fr, ho, timeS_len _ _ _, by have := h.rd.lt; omega, f1, h.db.free hg⟩
/-- .. and becomes replica i's common time -/
theorem U1.put {g cap : Nat} {l : List Int} (h : U1 w wr w' s x tb n ρ σ S R nv xv ns xs g cap l) (cg cc i : Nat) (es : S.cv = .slice (some ⟨cg, 0, none⟩) S.n cc) (hi : i < n) :
    U0 w (w'.setCell ⟨cg, i, none⟩ (.slice (some ⟨g, 0, none⟩) n cap)) s x tb n (upd ρ g (4, i)) σ { S with coms := S.coms.set i (.slice (some ⟨g, 0, none⟩) n cap, l) } R nv xv ns xs := by
  have hglt := h.own.lt g rfl
  have hcg : ρ cg = (3, 0) := h.u.net.rc cg (by rw [es]; rfl)
  have hcgl := h.u.rlo cg (by rw [hcg]; decide)
  have hcs : (σ cg).1 = 0 := h.u.ap cg (by rw [hcg]; decide)
  have hgc : cg ≠ g := fun e => by have q := h.rf; rw [← e, hcg] at q; exact absurd q (by decide)
  have hz := h.u.bel.size
  have N := (h.u.net.upd (4, i) h.rf hglt.2).putCom cg cc i es (by rw [h.u.sn]; exact hi) (.slice (some ⟨g, 0, none⟩) n cap) l (by unfold intRow; rw [h.len]; exact ownsRow_base h.own (fun _ _ => Nat.zero_le _)) (by rw [h.len, h.u.sn]) (fun k hk => by
    have : k = g := by simpa [Value.ownBlock] using hk.symm
    subst this
    unfold Go.Proofs.YtaelaldmibgibaaGreatDoor.upd
    rw [if_pos rfl])
  have oth : ∀ k, k ≠ cg → (w'.setCell ⟨cg, i, none⟩ (.slice (some ⟨g, 0, none⟩) n cap)).heap[k]? = w'.heap[k]? := fun k hk => heap_set_other hk
  refine ⟨h.u.rd.keep (oth _ (by omega)), N, h.u.sn, h.u.db.keep (by rw [size_setCell]; exact Nat.le_refl _) (fun k hk => oth k (fun e => by subst e; exact hk hcs)), fun k hk => ?_, fun k hk => ?_, h.u.srd, ?_⟩
  · unfold Go.Proofs.YtaelaldmibgibaaGreatDoor.upd at hk
    by_cases e : k = g
    · subst e; exact h.sf
    · rw [if_neg e] at hk; exact h.u.ap k hk
  · unfold Go.Proofs.YtaelaldmibgibaaGreatDoor.upd at hk
    by_cases e : k = g
    · subst e; exact h.le
    · rw [if_neg e] at hk; exact h.u.rlo k hk
  · exact h.u.bel.setCell (by simp only; omega) _
end

end Go.Proofs.YtaelaldmibgibaaGreatDoor

namespace Go.Proofs.YtaelaldmibgibaaGreatDoor
open Go.RowKit

/-- the reader alone -/
structure Hd (w wr : World) (s : ByteArray) (x : Nat × Bool) : Prop where
  rd : Rd wr w.heap.size s x.1 x.2
  bel : Below w.heap.size w wr
theorem Hd.onRd {w wr w' : World} {s : ByteArray} {x y : Nat × Bool} (h : Hd w wr s x) (hr : Rd w' w.heap.size s y.1 y.2) (hf : Fr (fun k => k = w.heap.size) wr w') : Hd w w' s y :=
  ⟨hr, ⟨hf.os.trans h.bel.os, hf.tape.trans h.bel.tape, hf.output.trans h.bel.output, Nat.le_trans h.bel.size hf.size, fun k hk => (hf.block k (Nat.lt_of_lt_of_le hk h.bel.size) (by omega)).trans (h.bel.block k hk)⟩⟩
theorem Hd.made (w : World) (s : ByteArray) (hs : s.size ≤ 1000000000000) : Hd w (w.alloc (.cells #[.string s, .int .i64 0, .bool false] 109)) s (0, false) :=
  ⟨⟨heap_alloc_new _ _, Nat.zero_le _, hs⟩, (Below.refl _ _).alloc (Nat.le_refl _) _⟩
theorem Hd.want {w wr : World} {s : ByteArray} {x : Nat × Bool} (h : Hd w wr s x) (p : ByteArray) (hp : p.size ≤ 1000) :
    Calls Tryz.prog 50 #[.pointer (some ⟨w.heap.size, 0, none⟩), .string p] wr fun e w' => e = .returned (.tuple #[]) ∧ Hd w w' s (wantS s p x) := by
  refine (want_any _ s x.1 x.2 p hp wr h.rd).mono ?_
  rintro e w' ⟨rfl, hr, hf⟩
  exact ⟨rfl, h.onRd hr hf⟩
theorem Hd.num {w wr : World} {s : ByteArray} {x : Nat × Bool} (h : Hd w wr s x) :
    Calls Tryz.prog 51 #[.pointer (some ⟨w.heap.size, 0, none⟩)] wr fun e w' => e = .returned (.int .i64 (numVal s x.1)) ∧ Hd w w' s (numS s x) := by
  refine (number_any _ s x.1 x.2 wr h.rd).mono ?_
  rintro e w' ⟨rfl, hr, hf⟩
  exact ⟨rfl, h.onRd hr hf⟩

set_option maxRecDepth 100000 in
set_option maxHeartbeats 2000000 in
/-- the first line is not as it must be -/
theorem unpack_head (s : ByteArray) (hs : s.size ≤ 1000000000000) (w : World) (hh : headOk s = false) :
    Calls Tryz.prog 28 #[.string s] w fun e w' => e = .returned (.tuple #[.pointer none, .int .i64 7]) ∧ Below w.heap.size w w' := by
  have H0 := hide (Hd.made w s hs)
  generalize hx1 : wantS s reunionW (0, false) = x1
  generalize hx2 : numS s x1 = x2
  generalize hx3 : wantS s newl x2 = x3
  have e3 : headS s = x3 := by unfold headS; rw [hx1, hx2, hx3]
  have en : headN s = numVal s x1.1 := by unfold headN; rw [hx1]
  have how : x3.2 = true ∨ (x3.2 = false ∧ decide ((numVal s x1.1 : Int) < 1) = true) ∨ (x3.2 = false ∧ decide ((numVal s x1.1 : Int) < 1) = false ∧ decide ((6 : Int) < (numVal s x1.1 : Int)) = true) := by
    unfold headOk at hh
    rw [e3, en] at hh
    cases hx : x3.2
    · refine .inr ?_
      rw [hx] at hh
      by_cases h1 : 1 ≤ numVal s x1.1
      · refine .inr ⟨rfl, by simp; omega, ?_⟩
        have : ¬ numVal s x1.1 ≤ 6 := fun h6 => by simp [h1, h6] at hh
        simp; omega
      · exact .inl ⟨rfl, by simp; omega⟩
    · exact .inl rfl
  clear e3 en hh
  rcases how with d1 | ⟨d1, d2⟩ | ⟨d1, d2, d3⟩
  all_goals
    go_enter Tryz.func28, Tryz.ntmps28
    go_wp2_with (first
      | (go_at_call 50; have q := H2; refine (H2.out.want newl (by decide)).mono ?_; rw [hx3]; rintro e w3 ⟨rfl, h3⟩; have H3 := hide h3; have c2 := h3.rd.c2; rw [d1] at c2; clear h3 H2)
      | (go_at_call 51; have q := H1; refine (H1.out.num).mono ?_; rw [hx2]; rintro e w2 ⟨rfl, h2⟩; have H2 := hide h2; clear h2 H1)
      | (go_at_call 50; refine (H0.out.want reunionW (by decide)).mono ?_; rw [hx1]; rintro e w1 ⟨rfl, h1⟩; have H1 := hide h1; clear h1 H0))
    go_ret2
    exact ⟨rfl, H3.out.bel⟩

end Go.Proofs.YtaelaldmibgibaaGreatDoor

namespace Go.Proofs.YtaelaldmibgibaaGreatDoor
open Go.RowKit

theorem info_strsT : (Tryz.prog.info? 25).map (fun i => (i.zero, i.size, i.bytes)) = some (some (.slice none 0 0), 1, 24) := by kernel_rfl
theorem app_strs {ops : Array Oper} {rest : List Oper} {o : Oper} {a : Act} {Q : Exit → Act → World → Prop} (w : World) (hgd : o.guard = none) (s x : Operand) (ho : o.op = .call { callee := .builtin .append, args := #[s, x], argTypes := #[56, 56] }) (base : Nat) (v : Value) (n : Nat) (xs : List Value) (hs : a.eval s = v) (hown : w.ownsRow base 25 1 v n xs)
    (k : Nat) (ya : Option Addr) (yn yc : Nat) (hx : a.eval x = .slice (some ⟨k, 0, none⟩) 1 1) (hc : w.cell? ⟨k, 0, none⟩ = some (.slice ya yn yc)) (hn : n ≤ 1000000000000) (hb : base ≤ w.heap.size)
    (h : ∀ g cap w1, w1.ownsRow base 25 1 (.slice (some ⟨g, 0, none⟩) (n + 1) cap) (n + 1) (xs ++ [.slice ya yn yc]) → w.grownBy w1 v.ownBlock → (v.ownBlock = some g ∨ g = w.heap.size) → g < w1.heap.size → wpList Tryz.prog ops Q rest (a.put o.dst (.slice (some ⟨g, 0, none⟩) (n + 1) cap)) w1) :
    wpList Tryz.prog ops Q (o :: rest) a w := by
  obtain ⟨i0, hi, hz0, hz1, hz2⟩ := info_parts info_strsT
  refine wpList_append_lies w hgd s x 56 ho base 25 i0 _ 1 24 Tryz.underlying56 hi hz0 hz1 hz2 rfl (by decide) v n xs hs hown ⟨k, 0, none⟩ 1 1 [.slice ya yn yc] hx rfl ?_ ?_ (by omega) (by unfold maxLen; omega) (by omega) hb _ rfl h
  · intro j u hj
    match j, hj with
    | 0, hj => simp at hj; subst hj; simpa [Addr.add] using hc
  · intro u hu; simp at hu; subst hu; rfl
theorem ownsRow_slice {w : World} {base : Nat} {e : TypeId} {k : Nat} {v : Value} {n : Nat} {xs : List Value} (h : w.ownsRow base e k v n xs) : ∃ a m c, v = .slice a m c := by
  rcases h.2 with ⟨rfl, _⟩ | ⟨g, cap, _, rfl, _⟩
  · exact ⟨_, _, _, rfl⟩
  · exact ⟨_, _, _, rfl⟩

theorem reps_no (s : ByteArray) (n : Nat) (x : Nat × Bool) (k : Nat) : ∀ d, (repsS s n k x).1.2 = true → (repsS s n (k + d) x).1.2 = true := by
  intro d
  induction d with
  | zero => exact id
  | succ d ih =>
    intro h
    have := ih h
    cases hc : (repsS s n (k + (d + 1)) x).1.2
    · have q := repS_no s n (repsS s n (k + d) x).1 hc
      rw [q] at this
      cases this
    · rfl

/-- so many replicas are read -/
structure Ub (w wr : World) (s : ByteArray) (x0 : Nat × Bool) (tb n i : Nat) (ρ σ : Nat → Nat × Nat) (S : RS) (R : List RR) (nv xv : Value) (ns xs : List Value) : Prop where
  u : U0 w wr s (repsS s n i x0).1 tb n ρ σ S R nv xv ns xs
  len : R.length = i
  rd : ∀ (j : Nat) a, (repsS s n i x0).2[j]? = some a → ∃ r cw, R[j]? = some r ∧ r.ps = a.2.map (·.1) ∧ r.rs = a.2.map (·.2) ∧ S.coms[j]? = some (cw, a.1)
  paths : S.paths = []
  rows : ∀ (r : Nat) y, S.rows[r]? = some y → y.2 = []

section
variable {w wr w' : World} {s : ByteArray} {x y : Nat × Bool} {tb n : Nat} {ρ σ : Nat → Nat × Nat} {S : RS} {R : List RR} {nv xv : Value} {ns xs : List Value}

theorem U0.records (h : U0 w wr s x tb n ρ σ S R nv xv ns xs) (hle : R.length < 6) :
    Calls Tryz.prog 53 #[.pointer (some ⟨w.heap.size, 0, none⟩), .int .i64 n] wr fun e w' => ∃ a1 n1 c1 a2 n2 c2 cs σ', e = .returned (.tuple #[.slice a1 n1 c1, .slice a2 n2 c2]) ∧ U0 w w' s (recsS s n (s.size - x.1 + 1) x []).1 tb n ρ σ' S (R ++ [⟨.slice a1 n1 c1, .slice a2 n2 c2, (recsS s n (s.size - x.1 + 1) x []).2.map (·.1), cs, (recsS s n (s.size - x.1 + 1) x []).2.map (·.2)⟩]) nv xv ns xs := by
  refine (records_any _ s x n R.length h.n1 h.n6 wr h.rd).mono ?_
  rintro e w' ⟨lv, ov, cs, ρ2, rfl, hc⟩
  obtain ⟨σ', hd, hz⟩ := h.db.add h.bel.size hc h.srd hle
  obtain ⟨a1, n1, c1, rfl⟩ := ownsRow_slice hc.ol
  obtain ⟨a2, n2, c2, rfl⟩ := ownsRow_slice hc.oo
  refine ⟨a1, n1, c1, a2, n2, c2, cs, σ', rfl, hc.rd, h.net.fr hc.fr (fun k hk e => by have := h.rlo k hk; omega), h.sn, hd, fun k hk => ?_, h.rlo, ?_, (h.onRd hc.rd hc.fr).bel⟩
  · rcases Nat.decEq (σ' k).1 0 with e | e
    · rcases hz k e with q | q
      · exact absurd (h.ap k hk) q
      · have := h.net.lt k hk; omega
    · exact e
  · rcases Nat.decEq (σ' w.heap.size).1 0 with e | e
    · rcases hz _ e with q | q
      · exact absurd h.srd q
      · have := h.rd.lt; omega
    · exact e

/-- one of the two outer lists has grown -/
theorem U0.grown {σ' : Nat → Nat × Nat} {nv' xv' : Value} {ns' xs' : List Value} {row : Value} (h : U0 w wr s x tb n ρ σ S R nv xv ns xs) (hd : Rdb w.heap.size w' σ' n R nv' xv' ns' xs') (hz : ∀ k, (σ' k).1 ≠ 0 → (σ k).1 ≠ 0 ∨ wr.heap.size ≤ k) (hg : wr.grownBy w' row.ownBlock) (hrow : ∀ k, row.ownBlock = some k → (σ k).1 ≠ 0) : U0 w w' s x tb n ρ σ' S R nv' xv' ns' xs' := by
  have keepB : ∀ k, k < wr.heap.size → (σ k).1 = 0 → w'.heap[k]? = wr.heap[k]? := fun k hk hs => hg.block k hk (fun e => hrow k e.symm hs)
  have hsz := h.bel.size
  refine ⟨h.rd.keep (keepB _ h.rd.lt h.srd), h.net.keep hg.size (fun k hk => keepB k (h.net.lt k hk) (h.ap k hk)), h.sn, hd, fun k hk => ?_, h.rlo, ?_, ⟨hg.os.trans h.bel.os, hg.tape.trans h.bel.tape, hg.output.trans h.bel.output, Nat.le_trans hsz hg.size, fun k hk => ?_⟩⟩
  · rcases Nat.decEq (σ' k).1 0 with e | e
    · rcases hz k e with q | q
      · exact absurd (h.ap k hk) q
      · have := h.net.lt k hk; omega
    · exact e
  · rcases Nat.decEq (σ' w.heap.size).1 0 with e | e
    · rcases hz _ e with q | q
      · exact absurd h.srd q
      · have := h.rd.lt; omega
    · exact e
  · rw [keepB k (by omega) (by
      rcases Nat.decEq (σ k).1 0 with e | e
      · have := (h.db.lo k e).1; omega
      · exact e)]
    exact h.bel.block k hk
theorem U0.pushN (h : U0 w wr s x tb n ρ σ S R nv xv ns xs) (v : Value) (g m cap : Nat) (hown : w'.ownsRow w.heap.size 25 1 (.slice (some ⟨g, 0, none⟩) m cap) (ns.length + 1) (ns ++ [v])) (hg : wr.grownBy w' nv.ownBlock) (hat : nv.ownBlock = some g ∨ g = wr.heap.size) :
    ∃ σ', U0 w w' s x tb n ρ σ' S R (.slice (some ⟨g, 0, none⟩) m cap) xv (ns ++ [v]) xs := by
  obtain ⟨σ', hd, hz⟩ := h.db.pushN v g m cap hown hg hat
  exact ⟨σ', h.grown hd hz hg (fun k e => by rw [h.db.rn k e]; simp)⟩
theorem U0.pushX (h : U0 w wr s x tb n ρ σ S R nv xv ns xs) (v : Value) (g m cap : Nat) (hown : w'.ownsRow w.heap.size 112 1 (.slice (some ⟨g, 0, none⟩) m cap) (xs.length + 1) (xs ++ [v])) (hg : wr.grownBy w' xv.ownBlock) (hat : xv.ownBlock = some g ∨ g = wr.heap.size) :
    ∃ σ', U0 w w' s x tb n ρ σ' S R nv (.slice (some ⟨g, 0, none⟩) m cap) ns (xs ++ [v]) := by
  obtain ⟨σ', hd, hz⟩ := h.db.pushX v g m cap hown hg hat
  exact ⟨σ', h.grown hd hz hg (fun k e => by rw [h.db.rx k e]; simp)⟩
end

end Go.Proofs.YtaelaldmibgibaaGreatDoor

namespace Go.Proofs.YtaelaldmibgibaaGreatDoor
open Go.RowKit

/-- the account of a net that New has made -/
theorem U0.start {w wr w' : World} {s : ByteArray} {x : Nat × Bool} {n : Nat} {ρ : Nat → Nat × Nat} {S : RS} (h : Hd w wr s x) (hR : RefRep w' wr.heap.size ρ S) (hn : S.n = n) (hlo : ∀ k, (ρ k).1 ≠ 0 → wr.heap.size ≤ k) (hb : Below wr.heap.size wr w') :
    U0 w w' s x wr.heap.size n ρ (fun _ => (0, 0)) S [] (.slice none 0 0) (.slice none 0 0) [] [] :=
  ⟨h.rd.keep (hb.block _ h.rd.lt), hR, hn, Rdb.start _ _ _, fun _ _ => rfl, fun k hk => by have := hlo k hk; have := h.rd.lt; omega, rfl, below_step h.bel hb⟩

theorem U0.drew {w wr : World} {s : ByteArray} {x : Nat × Bool} {tb n : Nat} {ρ σ : Nat → Nat × Nat} {S : RS} {R : List RR} {nv xv : Value} {ns xs : List Value} (h : U0 w wr s x tb n ρ σ S R nv xv ns xs) : U0 w wr.drew s x tb n ρ σ S R nv xv ns xs :=
  h.onRd (h.rd.keep rfl) ((Fr.refl _ _).drew)
theorem U0.comForm {w wr : World} {s : ByteArray} {x : Nat × Bool} {tb n : Nat} {ρ σ : Nat → Nat × Nat} {S : RS} {R : List RR} {nv xv : Value} {ns xs : List Value} (h : U0 w wr s x tb n ρ σ S R nv xv ns xs) : ∃ cg cc, S.cv = .slice (some ⟨cg, 0, none⟩) S.n cc := by
  obtain ⟨cg, cc, e, _⟩ := World.ownsRow.form h.net.c (by have := h.net.n1; omega)
  exact ⟨cg, cc, e⟩
theorem U0.comCell {w wr : World} {s : ByteArray} {x : Nat × Bool} {tb n : Nat} {ρ σ : Nat → Nat × Nat} {S : RS} {R : List RR} {nv xv : Value} {ns xs : List Value} (h : U0 w wr s x tb n ρ σ S R nv xv ns xs) {cg cc : Nat} (es : S.cv = .slice (some ⟨cg, 0, none⟩) S.n cc) {i : Nat} (hi : i < n) :
    wr.cell? ⟨tb, 2, none⟩ = some (.slice (some ⟨cg, 0, none⟩) n cc) ∧ (∃ u, wr.cell? ⟨cg, i, none⟩ = some u) ∧ wr.frozen? ⟨cg, i, none⟩ = false := by
  have q1 := h.net.c2
  rw [es, h.sn] at q1
  have hc := h.net.c
  rw [es] at hc
  refine ⟨q1, ⟨((S.coms.map (·.1))[i]?).getD (.bool false), ?_⟩, World.ownsRow.frozenAt hc i⟩
  rw [World.ownsRow.cellAt hc i (by rw [h.sn]; omega)]
  have : i < (S.coms.map (·.1)).length := by rw [List.length_map, h.net.coml, h.sn]; exact hi
  rw [List.getElem?_eq_getElem this]
  rfl

theorem map_lv (R : List RR) (lv ov : Value) (ps : List ByteArray) (cs : List SP) (rs : List SpR) : (R ++ [(⟨lv, ov, ps, cs, rs⟩ : RR)]).map (·.lv) = R.map (·.lv) ++ [lv] := by simp
theorem map_ov (R : List RR) (lv ov : Value) (ps : List ByteArray) (cs : List SP) (rs : List SpR) : (R ++ [(⟨lv, ov, ps, cs, rs⟩ : RR)]).map (·.ov) = R.map (·.ov) ++ [ov] := by simp
/-- one more replica -/
theorem Ub.next {w wr w' : World} {s : ByteArray} {x0 : Nat × Bool} {tb n i : Nat} {ρ σ ρ' σ' : Nat → Nat × Nat} {S : RS} {R : List RR} {nv xv nv' xv' : Value} {ns xs ns' xs' : List Value} (h : Ub w wr s x0 tb n i ρ σ S R nv xv ns xs) (hi : i < n) {v lv ov : Value} {cs : List SP}
    (hu : U0 w w' s (repsS s n (i + 1) x0).1 tb n ρ' σ' { S with coms := S.coms.set i (v, (repS s n (repsS s n i x0).1).2.1) } (R ++ [⟨lv, ov, (repS s n (repsS s n i x0).1).2.2.map (·.1), cs, (repS s n (repsS s n i x0).1).2.2.map (·.2)⟩]) nv' xv' ns' xs') :
    Ub w w' s x0 tb n (i + 1) ρ' σ' { S with coms := S.coms.set i (v, (repS s n (repsS s n i x0).1).2.1) } (R ++ [⟨lv, ov, (repS s n (repsS s n i x0).1).2.2.map (·.1), cs, (repS s n (repsS s n i x0).1).2.2.map (·.2)⟩]) nv' xv' ns' xs' := by
  have hcl : i < S.coms.length := by rw [h.u.net.coml, h.u.sn]; exact hi
  have hml : (repsS s n i x0).2.length = i := by
    clear h hu hcl
    induction i with
    | zero => rfl
    | succ i ih => simp only [repsS, List.length_append, List.length_singleton]; rw [ih (by omega)]
  refine ⟨hu, by simp [h.len], fun j a ha => ?_, h.paths, h.rows⟩
  have e : (repsS s n (i + 1) x0).2 = (repsS s n i x0).2 ++ [(repS s n (repsS s n i x0).1).2] := rfl
  rw [e] at ha
  rcases Nat.lt_or_ge j i with hj | hj
  · rw [List.getElem?_append_left (by rw [hml]; exact hj)] at ha
    obtain ⟨r, cw, h1, h2, h3, h4⟩ := h.rd j a ha
    refine ⟨r, cw, ?_, h2, h3, ?_⟩
    · rw [List.getElem?_append_left (by rw [h.len]; exact hj)]; exact h1
    · rw [List.getElem?_set_ne (by omega)]; exact h4
  · rw [List.getElem?_append_right (by rw [hml]; exact hj), hml] at ha
    have : j = i := by
      rcases Nat.eq_or_lt_of_le hj with e | e
      · exact e.symm
      · rw [List.getElem?_eq_none (by simp; omega)] at ha; cases ha
    subst this
    simp at ha
    subst ha
    refine ⟨⟨lv, ov, (repS s n (repsS s n j x0).1).2.2.map (·.1), cs, (repS s n (repsS s n j x0).1).2.2.map (·.2)⟩, v, ?_, rfl, rfl, ?_⟩
    · rw [List.getElem?_append_right (by rw [h.len]; omega), h.len]; simp
    · rw [List.getElem?_set_self hcl]

end Go.Proofs.YtaelaldmibgibaaGreatDoor

namespace Go.Proofs.YtaelaldmibgibaaGreatDoor
open Go.RowKit

/-- what was read for a replica, and is still to be put from the t-th record on -/
structure Rep2 (w : World) (σ : Nat → Nat × Nat) (n q : Nat) (r : RR) (t : Nat) : Prop where
  ol : w.ownsRow 0 9 1 r.lv r.ps.length (svs r.ps)
  oo : w.ownsRow 0 117 6 r.ov r.cs.length (spv r.cs)
  len : r.cs.length = r.rs.length
  is : ∀ (i : Nat) c x, r.cs[i]? = some c → r.rs[i]? = some x → SpIs c x
  ok : ∀ (i : Nat) c, t ≤ i → r.cs[i]? = some c → RdSp w σ n q i c
  rl : role σ r.lv (20, q)
  ro : role σ r.ov (21, q)
theorem Rep2.keep {w w' : World} {σ : Nat → Nat × Nat} {n q : Nat} {r : RR} {t : Nat} (h : Rep2 w σ n q r t) (hk : ∀ k, (σ k).1 ≠ 0 → w'.heap[k]? = w.heap[k]?) : Rep2 w' σ n q r t :=
  ⟨ownsRow_keep h.ol (fun k e => hk k (by rw [h.rl k e]; simp)), ownsRow_keep h.oo (fun k e => hk k (by rw [h.ro k e]; simp)), h.len, h.is, fun i c ht hc => (h.ok i c ht hc).keep hk, h.rl, h.ro⟩

/-- the net, and what was read; of replica q the first τ q records are put -/
structure U2 (w wr : World) (tb n : Nat) (ρ σ : Nat → Nat × Nat) (S : RS) (R : List RR) (nv xv : Value) (τ : Nat → Nat) : Prop where
  net : RefRep wr tb ρ S
  sn : S.n = n
  rl : R.length = n
  on : wr.ownsRow w.heap.size 25 1 nv n (R.map (·.lv))
  ox : wr.ownsRow w.heap.size 112 1 xv n (R.map (·.ov))
  rn : role σ nv (22, 0)
  rx : role σ xv (23, 0)
  rep : ∀ (q : Nat) r, R[q]? = some r → Rep2 wr σ n q r (τ q)
  lo : ∀ k, (σ k).1 ≠ 0 → w.heap.size ≤ k ∧ k < wr.heap.size
  ap : ∀ k, (ρ k).1 ≠ 0 → (σ k).1 = 0
  rlo : ∀ k, (ρ k).1 ≠ 0 → w.heap.size ≤ k
  bel : Below w.heap.size w wr

theorem U2.of {w wr : World} {s : ByteArray} {x : Nat × Bool} {tb n : Nat} {ρ σ : Nat → Nat × Nat} {S : RS} {R : List RR} {nv xv : Value} (h : U0 w wr s x tb n ρ σ S R nv xv (R.map (·.lv)) (R.map (·.ov))) (hl : R.length = n) : U2 w wr tb n ρ σ S R nv xv (fun _ => 0) :=
  ⟨h.net, h.sn, hl, by have := h.db.on; rwa [List.length_map, hl] at this, by have := h.db.ox; rwa [List.length_map, hl] at this, h.db.rn, h.db.rx, fun q r hr => by
    have p := h.db.rep q r hr
    exact ⟨p.ol, p.oo, p.len, p.is, fun i c _ hc => p.ok i c hc, p.rl, p.ro⟩, h.db.lo, h.ap, fun k hk => Nat.le_of_lt (h.rlo k hk), h.bel⟩

section
variable {w wr w' : World} {tb n : Nat} {ρ ρ' σ : Nat → Nat × Nat} {S S' : RS} {R : List RR} {nv xv : Value} {τ : Nat → Nat}

/-- the net has turned -/
theorem U2.onNet (h : U2 w wr tb n ρ σ S R nv xv τ) (hR : RefRep w' tb ρ' S') (hn : S'.n = n) (hG : Grow wr ρ ρ') (hf : Fr (fun k => (ρ k).1 ≠ 0) wr w') : U2 w w' tb n ρ' σ S' R nv xv τ := by
  have kb : ∀ k, (σ k).1 ≠ 0 → w'.heap[k]? = wr.heap[k]? := fun k hk => hf.block k (h.lo k hk).2 (fun e => hk (h.ap k e))
  refine ⟨hR, hn, h.rl, ownsRow_keep h.on (fun k e => kb k (by rw [h.rn k e]; simp)), ownsRow_keep h.ox (fun k e => kb k (by rw [h.rx k e]; simp)), h.rn, h.rx, fun q r hr => (h.rep q r hr).keep kb, fun k hk => ⟨(h.lo k hk).1, Nat.lt_of_lt_of_le (h.lo k hk).2 hf.size⟩, fun k hk => ?_, fun k hk => ?_, ?_⟩
  · rcases hG k hk with q | q
    · exact h.ap k q
    · rcases Nat.decEq (σ k).1 0 with e | e
      · have := (h.lo k e).2; omega
      · exact e
  · rcases hG k hk with q | q
    · exact h.rlo k q
    · have := h.bel.size
      omega
  · exact ⟨hf.os.trans h.bel.os, hf.tape.trans h.bel.tape, hf.output.trans h.bel.output, Nat.le_trans h.bel.size hf.size, fun k hk => (hf.block k (Nat.lt_of_lt_of_le hk h.bel.size) (fun e => by have := h.rlo k e; omega)).trans (h.bel.block k hk)⟩
theorem U2.below (h : U2 w wr tb n ρ σ S R nv xv τ) (hb : Below wr.heap.size wr w') : U2 w w' tb n ρ σ S R nv xv τ :=
  h.onNet (h.net.below hb) h.sn (Grow.refl _ _) (Fr.of_below hb)
theorem U2.drewN (h : U2 w wr tb n ρ σ S R nv xv τ) (m : Nat) : U2 w (wr.drewN m) tb n ρ σ S R nv xv τ :=
  h.onNet (h.net.keep (Nat.le_refl _) (fun _ _ => rfl)) h.sn (Grow.refl _ _) ((Fr.refl _ _).drewN m)

theorem U2.drew (h : U2 w wr tb n ρ σ S R nv xv τ) : U2 w wr.drew tb n ρ σ S R nv xv τ :=
  h.onNet (h.net.keep (Nat.le_refl _) (fun _ _ => rfl)) h.sn (Grow.refl _ _) ((Fr.refl _ _).drew)

/-- the next record of replica q is put at place p of its row -/
theorem U2.put (h : U2 w wr tb n ρ σ S R nv xv τ) {q : Nat} {r : RR} (hr : R[q]? = some r) {c : SP} (hc : r.cs[τ q]? = some c) (hq : q < n) {g cap : Nat} {l : List SP} (hx : S.rows[q]? = some (.slice (some ⟨g, 0, none⟩) l.length cap, l)) {p : Nat} {o : SP} (hp : l[p]? = some o) :
    ∃ ρ' σ', U2 w (wr.setCells g (p * 6) c.cells) tb n ρ' σ' { S with rows := S.rows.set q (.slice (some ⟨g, 0, none⟩) l.length cap, l.set p c) } R nv xv (fun k => if k = q then τ q + 1 else τ k) := by
  have hn1 := h.net.n1
  have rc := (h.rep q r hr).ok _ c (Nat.le_refl _) hc
  have hsn := h.sn
  obtain ⟨gc, cc, ec, _, hgcl⟩ := World.ownsRow.form rc.ch (by rw [rc.chl]; omega)
  obtain ⟨gt, ct, et, _, hgtl⟩ := World.ownsRow.form rc.tm (by rw [rc.tml]; omega)
  have sc : σ gc = (40 + q, 2 * τ q) := rc.chr gc (by rw [ec]; rfl)
  have st : σ gt = (40 + q, 2 * τ q + 1) := rc.tmr gt (by rw [et]; rfl)
  have hne : gt ≠ gc := fun e => by rw [e, sc] at st; simp at st
  have f1 : (ρ gc).1 = 0 := by
    rcases Nat.decEq (ρ gc).1 0 with e | e
    · have := h.ap gc e; rw [sc] at this; simp at this
    · exact e
  have f2' : (ρ gt).1 = 0 := by
    rcases Nat.decEq (ρ gt).1 0 with e | e
    · have := h.ap gt e; rw [st] at this; simp at this
    · exact e
  have f2 : (upd ρ gc (6, 0) gt).1 = 0 := by unfold upd; rw [if_neg hne]; exact f2'
  have N := (h.net.upd (6, 0) f1 hgcl).upd (7, q) f2 hgtl
  have ok : SpOk wr (upd (upd ρ gc (6, 0)) gt (7, q)) S.n q c := by
    refine ⟨rc.ch, by rw [rc.chl, hsn], fun k hk => ?_, rc.tm, by rw [rc.tml, hsn], fun k hk => ?_⟩
    · have : k = gc := by rw [ec] at hk; simpa [Value.ownBlock] using hk.symm
      subst this
      unfold upd
      rw [if_neg (fun e => hne e.symm), if_pos rfl]
    · have : k = gt := by rw [et] at hk; simpa [Value.ownBlock] using hk.symm
      subst this
      unfold upd
      rw [if_pos rfl]
  have N2 := N.putSpot q g cap l hx p o c hp ok
  have hg5 : ρ g = (5, q) := (h.net.row q _ hx).2 g rfl
  have sg : (σ g).1 = 0 := h.ap g (by rw [hg5]; simp)
  have oth : ∀ k, k ≠ g → (wr.setCells g (p * 6) c.cells).heap[k]? = wr.heap[k]? := fun k hk => heap_setCells_other _ _ _ _ _ hk
  have kb : ∀ k, (σ k).1 ≠ 0 → (wr.setCells g (p * 6) c.cells).heap[k]? = wr.heap[k]? := fun k hk => oth k (fun e => by subst e; exact hk sg)
  have hz : (wr.setCells g (p * 6) c.cells).heap.size = wr.heap.size := size_setCells _ _ _ _
  have keepσ : ∀ k z, σ k = z → (z ≠ (40 + q, 2 * τ q)) → (z ≠ (40 + q, 2 * τ q + 1)) → upd (upd σ gc (0, 0)) gt (0, 0) k = z := fun k z hk h1 h2 => by
    unfold upd
    rw [if_neg (fun e => by subst e; exact h2 (hk.symm.trans st)), if_neg (fun e => by subst e; exact h1 (hk.symm.trans sc)), hk]
  refine ⟨upd (upd ρ gc (6, 0)) gt (7, q), upd (upd σ gc (0, 0)) gt (0, 0), N2, hsn, h.rl, ownsRow_keep h.on (fun k e => kb k (by rw [h.rn k e]; simp)), ownsRow_keep h.ox (fun k e => kb k (by rw [h.rx k e]; simp)), fun k e => keepσ k _ (h.rn k e) (by simp <;> omega) (by simp <;> omega), fun k e => keepσ k _ (h.rx k e) (by simp <;> omega) (by simp <;> omega), ?_, ?_, ?_, ?_, ?_⟩
  · intro q' r' hr'
    have p' := (h.rep q' r' hr').keep kb
    have hq' : q' < n := by have := (List.getElem?_eq_some_iff.1 hr').1; have := h.rl; omega
    refine ⟨p'.ol, p'.oo, p'.len, p'.is, fun i c' hi hc' => ?_, fun k e => keepσ k _ (p'.rl k e) (by simp <;> omega) (by simp <;> omega), fun k e => keepσ k _ (p'.ro k e) (by simp <;> omega) (by simp <;> omega)⟩
    have hi' : τ q' ≤ i := by
      by_cases e : q' = q
      · subst e; rw [if_pos rfl] at hi; omega
      · rw [if_neg e] at hi; exact hi
    have o' := p'.ok i c' hi' hc'
    have hdiff : q' ≠ q ∨ i ≠ τ q := by
      by_cases e : q' = q
      · subst e; rw [if_pos rfl] at hi; right; omega
      · exact .inl e
    refine ⟨o'.ch, o'.chl, fun k e => keepσ k _ (o'.chr k e) ?_ ?_, o'.tm, o'.tml, fun k e => keepσ k _ (o'.tmr k e) ?_ ?_⟩
    · simp <;> omega
    · simp <;> omega
    · simp <;> omega
    · simp <;> omega
  · intro k hk
    rw [hz]
    unfold upd at hk
    by_cases e2 : k = gt
    · subst e2; simp at hk
    · rw [if_neg e2] at hk
      by_cases e1 : k = gc
      · subst e1; simp at hk
      · rw [if_neg e1] at hk; exact h.lo k hk
  · intro k hk
    unfold upd at hk ⊢
    by_cases e2 : k = gt
    · subst e2; simp
    · rw [if_neg e2] at hk ⊢
      by_cases e1 : k = gc
      · subst e1; simp
      · rw [if_neg e1] at hk ⊢; exact h.ap k hk
  · intro k hk
    unfold upd at hk
    by_cases e2 : k = gt
    · subst e2; exact (h.lo _ (by rw [st]; simp)).1
    · rw [if_neg e2] at hk
      by_cases e1 : k = gc
      · subst e1; exact (h.lo _ (by rw [sc]; simp)).1
      · rw [if_neg e1] at hk; exact h.rlo k hk
  · have hgl := h.rlo g (by rw [hg5]; simp)
    exact Below.setCells h.bel (by omega) _ _
end

end Go.Proofs.YtaelaldmibgibaaGreatDoor
