/- Lost over the twin. -/
import Derived.Test.YtaelaldmibgibaaGreatL04
import Derived.Deep.RegionLaw
import Derived.Deep.DeepCutAuto

set_option linter.unusedVariables false
set_option linter.unusedSimpArgs false
set_option linter.unusedSectionVars false

namespace Go.Proofs.YtaelaldmibgibaaGreat
open Go.RowKit Go.Sim

theorem chv_at (s : Nat) : ∀ (l : List (ByteArray × Int)) (i : Nat) (x : ByteArray × Int), l[i]? = some x → (chv s l)[i * 3]? = some (.int .i64 s) ∧ (chv s l)[i * 3 + 1]? = some (.string x.1) ∧ (chv s l)[i * 3 + 2]? = some (.int .i64 x.2)
  | [], i, x, h => by simp at h
  | y :: l, 0, x, h => by
    simp at h
    subst h
    exact ⟨rfl, rfl, rfl⟩
  | y :: l, i + 1, x, h => by
    have ih := chv_at s l i x (by simpa using h)
    have e : chv s (y :: l) = [Value.int .i64 s, .string y.1, .int .i64 y.2] ++ chv s l := rfl
    rw [e, List.getElem?_append_right (by simp; omega), List.getElem?_append_right (by simp; omega), List.getElem?_append_right (by simp; omega)]
    simp only [List.length_cons, List.length_nil]
    have e1 : (i + 1) * 3 - 3 = i * 3 := by omega
    have e2 : (i + 1) * 3 + 1 - 3 = i * 3 + 1 := by omega
    have e3 : (i + 1) * 3 + 2 - 3 = i * 3 + 2 := by omega
    simp only [Nat.zero_add, Nat.reduceAdd, e1, e2, e3]
    exact ih
theorem chv_len (s : Nat) (l : List (ByteArray × Int)) : (chv s l).length = l.length * 3 := by
  induction l with
  | nil => rfl
  | cons y l ih =>
    have e : chv s (y :: l) = [Value.int .i64 s, .string y.1, .int .i64 y.2] ++ chv s l := rfl
    rw [e, List.length_append, ih]
    simp
    omega
/-- how it stands when all has been pulled -/
structure L3 (w0 w3 : World) (nb m : Nat) (S : List RS) (r : Nat) (tb tc eb ec : Nat) (ts : List ByteArray) (es : List Int) (rv : Value) (l : List (ByteArray × Int)) : Prop where
  ne : Ne w0 w3 nb S []
  tr : w3.ownsRow 0 9 1 (.slice (some ⟨tb, 0, none⟩) 8 tc) 8 (svs ts)
  er : w3.ownsRow 0 24 1 (.slice (some ⟨eb, 0, none⟩) 8 ec) 8 (ivs es)
  lr : w3.ownsRow 0 66 3 rv m (chv r l)
  tl : ts.length = 8
  el : es.length = 8
  ml : l.length = m
theorem L3.text {w0 w3 V : World} {nb m : Nat} {S : List RS} {r tb tc eb ec : Nat} {ts : List ByteArray} {es : List Int} {rv : Value} {l : List (ByteArray × Int)} (h : L3 w0 w3 nb m S r tb tc eb ec ts es rv l) (hb : Below w3.heap.size w3 V) {k : Nat} (hk : k < 8) : V.cell? ⟨tb, k, none⟩ = some (.string (ts.getD k ⟨#[]⟩)) ∧ V.cell? ⟨eb, k, none⟩ = some (.int .i64 (es.getD k 0)) := by
  have h1 := ownsRow_keep h.tr (fun g e => hb.block g (World.ownsRow.lt h.tr g e).2)
  have h2 := ownsRow_keep h.er (fun g e => hb.block g (World.ownsRow.lt h.er g e).2)
  have l1 := h.tl
  have l2 := h.el
  refine ⟨?_, ?_⟩
  · rw [World.ownsRow.cellAt h1 k (by omega)]
    simp [svs, List.getElem?_eq_getElem (show k < ts.length by omega), List.getD_eq_getElem?_getD]
  · rw [World.ownsRow.cellAt h2 k (by omega)]
    simp [ivs, List.getElem?_eq_getElem (show k < es.length by omega), List.getD_eq_getElem?_getD]
theorem L3.change {w0 w3 V : World} {nb m : Nat} {S : List RS} {r tb tc eb ec : Nat} {ts : List ByteArray} {es : List Int} {rv : Value} {l : List (ByteArray × Int)} (h : L3 w0 w3 nb m S r tb tc eb ec ts es rv l) {i : Nat} {x : ByteArray × Int} (hi : l[i]? = some x) : ∃ g cap, rv = .slice (some ⟨g, 0, none⟩) m cap ∧ (Below w3.heap.size w3 V → V.cell? ⟨g, i * 3, none⟩ = some (.int .i64 r) ∧ V.cell? ⟨g, i * 3 + 1, none⟩ = some (.string x.1) ∧ V.cell? ⟨g, i * 3 + 2, none⟩ = some (.int .i64 x.2)) := by
  have hlt := (List.getElem?_eq_some_iff.1 hi).1
  have hm := h.ml
  obtain ⟨g, cap, e, _⟩ := World.ownsRow.form h.lr (by omega)
  refine ⟨g, cap, e, fun hb => ?_⟩
  have h1 := ownsRow_keep h.lr (fun g e => hb.block g (World.ownsRow.lt h.lr g e).2)
  rw [e] at h1
  obtain ⟨q1, q2, q3⟩ := chv_at r l i x hi
  exact ⟨(World.ownsRow.cellAt h1 _ (by omega)).trans q1, (World.ownsRow.cellAt h1 _ (by omega)).trans q2, (World.ownsRow.cellAt h1 _ (by omega)).trans q3⟩
theorem pDir_in (k : Nat) (hk : k < 8) : pDir k ∈ PATHS := by
  have := (⟨0, 0, 0, k, ⟨#[]⟩⟩ : StepO).P_in
  unfold StepO.P pickR at this
  rw [if_neg (by simp)] at this
  have e : ((k : Int) % 8).toNat = k := by omega
  rw [show (({ what := 0, r := 0, f := 0, path := (k : Int), text := ⟨#[]⟩ } : StepO).path) = (k : Int) from rfl, e] at this
  exact this
def txL (r : Nat) (x : RS) (k : Nat) : List ByteArray := (List.range k).map fun j => (rdR r x (pDir j)).1
def erL (r : Nat) (x : RS) (k : Nat) : List Int := (List.range k).map fun j => (rdR r x (pDir j)).2
theorem txL_succ (r : Nat) (x : RS) (k : Nat) : txL r x (k + 1) = txL r x k ++ [(rdR r x (pDir k)).1] := by unfold txL; rw [List.range_succ, List.map_append]; rfl
theorem erL_succ (r : Nat) (x : RS) (k : Nat) : erL r x (k + 1) = erL r x k ++ [(rdR r x (pDir k)).2] := by unfold erL; rw [List.range_succ, List.map_append]; rfl
theorem txL_len (r : Nat) (x : RS) (k : Nat) : (txL r x k).length = k := by simp [txL]
theorem erL_len (r : Nat) (x : RS) (k : Nat) : (erL r x k).length = k := by simp [erL]
set_option maxRecDepth 100000 in
set_option maxHeartbeats 4000000 in
theorem lost_any (size to_ from_ : Int) (hz : inI size) (ht : inI to_) (hf : inI from_) (a : Option Addr) (len cap : Nat) (hlen : len ≤ 4611686018427387904) (os : Nat → StepO) (w : World) (hx : Fixed w) (hs : ∀ i, i < len → ∃ ad, a = some ad ∧ StepAt w ad i (os i)) :
    Calls (twin Tryz.prog pl) 6 #[.int .i64 size, .slice a len cap, .int .i64 to_, .int .i64 from_] w fun e w' => e = .returned (.bool true) ∧ Below w.heap.size w w' := by
  have hc := pickR_lt size 4 (by decide)
  have PZ := hide (qpick size 4 hz (by decide))
  obtain ⟨n, hn⟩ : ∃ n : Nat, (2 : Int) + pickR size 4 = n := ⟨(2 + pickR size 4).toNat, by omega⟩
  have hn2 : 2 ≤ n := by omega
  have hn6 : n ≤ 6 := by omega
  generalize pickR size 4 = c at *
  have B0 := hide (begun_any n hn2 hn6 w hx)
  generalize hSS : runS n (begS n) os (min len 100000) = S
  have PL : Hid (∀ V, Ne w V w.heap.size (begS n) [] → Calls (twin Tryz.prog pl) 16 #[.pointer (some ⟨w.heap.size, 0, none⟩), .int .i64 n, .slice a len cap] V fun e w' => e = .returned (.bool true) ∧ Ne w w' w.heap.size S []) := fun V hV => by
    refine (play_any hV hn2 hn6 (begS_len n) (B := 1) (by decide) (by decide) (begS_wf n) a len cap hlen os hs).mono ?_
    rintro e w' ⟨rfl, h1, _⟩
    rw [hSS] at h1
    exact ⟨rfl, h1⟩
  have hSl : S.length = n := by rw [← hSS, runS_len, begS_len]
  have hWS : Wf 200000 S := by
    rw [← hSS]
    exact (runS_wf hn2 hn6 (begS_len n) (by decide) (begS_wf n) os _ (by omega)).mono (by omega)
  have hr0 := pickR_lt to_ n (by omega)
  have PR := hide (qpick to_ n ht (by omega))
  obtain ⟨r, hr⟩ : ∃ r : Nat, pickR to_ n = r := ⟨(pickR to_ n).toNat, by omega⟩
  rw [hr] at PR hr0
  have hrn : r < n := by omega
  have hf0 := otherR_ok r n from_ hrn hn2
  have PF := hide (qother r n from_ hrn ⟨hn2, hn6⟩ hf)
  obtain ⟨f, hff⟩ : ∃ f : Nat, otherR r from_ n = f := ⟨(otherR r from_ n).toNat, by omega⟩
  rw [hff] at PF hf0
  have hfn : f < n := by omega
  have hrf : r ≠ f := by omega
  have hSx := getD_at (S := S) (r := r) (by omega)
  have hSy := getD_at (S := S) (r := f) (by omega)
  generalize S.getD r rs0 = x at *
  generalize S.getD f rs0 = y at *
  have hWx := hWS.at hSx
  have hWy := hWS.at hSy
  have RD : Hid (∀ V K k, k < 8 → Ne w V w.heap.size S K → Calls (twin Tryz.prog pl) 25 #[.pointer (some ⟨w.heap.size, 0, none⟩), .int .i64 r, .string (pDir k)] V fun e w' => e = .returned (.tuple #[.string (rdR r x (pDir k)).1, .int .i64 (rdR r x (pDir k)).2]) ∧ Below V.heap.size V w' ∧ Fixed w') := fun V K k hk hV => by
    refine (eRead hV r hSx (pDir k) (pDir_in k hk)).mono ?_
    rintro e w' ⟨rfl, h1, h2⟩
    exact ⟨rfl, h2, h1.fix⟩
  obtain ⟨i0, hi, hz0, hz1, hz2⟩ := info_parts info_string
  obtain ⟨j0, hj, hy0, hy1, hy2⟩ := info_parts info_Errno
  go_enter q_func6, Tryz.ntmps6
  go_wp2_with (first
    | (go_at_call_of 14 (Value.int .i64 size); refine (PZ.out _).mono ?_; rintro e wz ⟨rfl, hwz⟩; obtain rfl := hwz.symm)
    | (go_at_call_of 14 (Value.int .i64 to_); refine (PR.out _).mono ?_; rintro e wz ⟨rfl, hwz⟩; obtain rfl := hwz.symm)
    | (go_at_call 23; refine (PF.out _).mono ?_; rintro e wz ⟨rfl, hwz⟩; obtain rfl := hwz.symm)
    | (go_at_call 15; refine B0.out.mono ?_; rintro e w1 ⟨rfl, hN1⟩; have N1 := hide hN1; clear hN1)
    | (go_at_call 16; refine (PL.out _ N1.out).mono ?_; rintro e w2 ⟨rfl, hN2⟩; have N2 := hide hN2; clear hN2))
  have L0 : Hid (Lt w w2 w2 w.heap.size S (.slice none 0 0) (.slice none 0 0) (txL r x 0) (erL r x 0)) := ⟨⟨[], N2.out, fun k hk => by simp at hk, fun g e => by simp [Value.ownBlock] at e, fun g e => by simp [Value.ownBlock] at e⟩, World.ownsRow_nil _ _ _ _, World.ownsRow_nil _ _ _ _, fun g e => by simp [Value.ownBlock] at e, N2.out.bel.size, Nat.le_refl _⟩
  clear B0 PL N1 PZ PR PF N2
  go_loopw [14, 15, 16] (fun tv ev kv wr => ∃ k : Nat, k ≤ 8 ∧ kv = .int .i64 k ∧ Hid (Lt w w2 wr w.heap.size S tv ev (txL r x k) (erL r x k))) (fun _ _ kv _ => 8 - (intOf kv).toNat)
  case atStart => exact ⟨0, by omega, rfl, L0⟩
  case round =>
    clear L0
    obtain ⟨k, hk, rfl, hL⟩ := hrel
    by_cases hlt : k < 8
    · have d1 : decide ((k : Int) < 8) = true := by simp; omega
      obtain ⟨K, hK, _⟩ := hL.out.ne
      have RK := hide (RD.out wr K k hlt hK)
      have PT := hide (qpath k hlt)
      have e1 := hide (txL_succ r x k)
      have e2 := hide (erL_succ r x k)
      have l1 := hide (txL_len r x k)
      have l2 := hide (erL_len r x k)
      clear hK
      generalize rdR r x (pDir k) = A0 at *
      generalize pDir k = p at *
      generalize txL r x k = T0 at *
      generalize erL r x k = E0 at *
      go_wp2_with (first
        | (go_at_call 19; refine (PT.out _).mono ?_; rintro e wz ⟨rfl, hwz⟩; obtain rfl := hwz.symm)
        | (go_at_call 25; refine RK.out.mono ?_; rintro e w5 ⟨rfl, hb5, hx5⟩; have L5 := hide (hL.out.more hb5 hx5); clear hb5 hx5)
        | (at_builtin; refine qapp_one _ rfl (.tmp 61) (.tmp 63) 36 9 i0 _ 16 Tryz.underlying36 hi hz0 hz1 hz2 rfl (by decide) rfl w2.heap.size u14 T0.length (svs T0) rfl ?ho w5.heap.size (.string A0.1) rfl ?hc rfl ?hn ?hb ?hw ?_; (case ho => exact (L5.out.alloc _ _).tr); (case hc => simp only [World.cell?, heap_alloc_new]; rfl); (case hn => have := l1.out; omega); (case hb => exact (L5.out.alloc _ _).sz); (case hw => exact (L5.out.alloc _ _).fix); intro g6 c6 w6 ho6 hg6 hat6 hx6; have L6 := hide ((L5.out.alloc _ _).text ho6 hg6 hat6 hx6); clear ho6 hg6 hat6 hx6)
        | (at_builtin; refine qapp_one _ rfl (.tmp 65) (.tmp 67) 64 24 j0 _ 8 Tryz.underlying64 hj hy0 hy1 hy2 rfl (by decide) rfl w2.heap.size u15 E0.length (ivs E0) rfl ?ho w6.heap.size (.int .i64 A0.2) rfl ?hc rfl ?hn ?hb ?hw ?_; (case ho => exact (L6.out.alloc _ _).er); (case hc => simp only [World.cell?, heap_alloc_new]; rfl); (case hn => have := l2.out; omega); (case hb => exact (L6.out.alloc _ _).sz); (case hw => exact (L6.out.alloc _ _).fix); intro g7 c7 w7 ho7 hg7 hat7 hx7; have L7 := hide ((L6.out.alloc _ _).err ho7 hg7 hat7 hx7); clear ho7 hg7 hat7 hx7))
      go_roundw
      case rel => exact ⟨k + 1, by omega, by go_num, by rw [e1.out, e2.out]; exact L7⟩
      case measure => simp [intOf]; omega
    · have ek : k = 8 := by omega
      subst ek
      have l1 := txL_len r x 8
      have l2 := erL_len r x 8
      obtain ⟨tb, tc, et, _⟩ := World.ownsRow.form hL.out.tr (by omega)
      obtain ⟨eb, ec, ee, _⟩ := World.ownsRow.form hL.out.er (by omega)
      rw [l1] at et
      rw [l2] at ee
      subst et ee
      have EP : Hid (Calls (twin Tryz.prog pl) 22 #[.pointer (some ⟨w.heap.size, 0, none⟩), .int .i64 r, .int .i64 f] wr fun e w' => ∃ c1 c2 c3, e = .returned (.tuple #[.slice c1 c2 c3, .int .i64 0]) ∧ L3 w w' w.heap.size (plR r x f y).2.2.length (S.set r (plR r x f y).2.1) r tb tc eb ec (txL r x 8) (erL r x 8) (.slice c1 c2 c3) (plR r x f y).2.2 ∧ c2 = (plR r x f y).2.2.length) := by
        obtain ⟨K, hK, hK1, hK2, hK3⟩ := hL.out.ne
        refine (ePull hK r f hrf hSx hSy).mono ?_
        rintro e w' ⟨rv, rfl, h1, h2, h3⟩
        have htr := hL.out.tr
        have her := hL.out.er
        rw [l1] at htr
        rw [l2] at her
        obtain ⟨pb, L, q1, q2, q3, _⟩ := h1.ex
        obtain ⟨c1, c2, c3, rfl, hc2⟩ : ∃ c1 c2 c3, rv = .slice c1 c2 c3 ∧ c2 = (plR r x f y).2.2.length := by
          rcases h3.2 with ⟨e, h0⟩ | ⟨_, _, _, e, _⟩
          · exact ⟨_, _, _, e, h0.symm⟩
          · exact ⟨_, _, _, e, rfl⟩
        rw [(pl_wf hWx hWy (by decide)).1]
        exact ⟨c1, c2, c3, rfl, ⟨⟨⟨pb, L, q1, q2, q3, fun k hk => by simp at hk⟩, h1.nge, h1.bel, h1.fix, h1.kin⟩, ownsRow_base (ownsRow_keep htr (fun k e => h2 k (hK2 k e))) (fun _ _ => Nat.zero_le _), ownsRow_base (ownsRow_keep her (fun k e => h2 k (hK3 k e))) (fun _ _ => Nat.zero_le _), ownsRow_base h3 (fun _ _ => Nat.zero_le _), l1, l2, rfl⟩, hc2⟩
      have LC := hide (fun p => lost_cases (r := r) (f := f) hWx hWy (by decide) p)
      have TX : Hid (∀ k, k < 8 → (txL r x 8).getD k ⟨#[]⟩ = (rdR r x (pDir k)).1 ∧ (erL r x 8).getD k 0 = (rdR r x (pDir k)).2) := fun k hk => by
        unfold txL erL
        simp [List.getD_eq_getElem?_getD, hk]
      have hS1 : (S.set r (plR r x f y).2.1)[r]? = some (plR r x f y).2.1 := by rw [List.getElem?_set_self (by omega)]
      have hS2 : (S.set r (plR r x f y).2.1)[f]? = some y := by rw [List.getElem?_set_ne hrf]; exact hSy
      have RR : Hid (∀ w3 V k, k < 8 → Ne w w3 w.heap.size (S.set r (plR r x f y).2.1) [] → Below w3.heap.size w3 V → Fixed V → Calls (twin Tryz.prog pl) 25 #[.pointer (some ⟨w.heap.size, 0, none⟩), .int .i64 r, .string (pDir k)] V fun e w' => e = .returned (.tuple #[.string (rdR r (plR r x f y).2.1 (pDir k)).1, .int .i64 (rdR r (plR r x f y).2.1 (pDir k)).2]) ∧ Below w3.heap.size w3 w' ∧ Fixed w') := fun w3 V k hk h3 hb hx => by
        refine (eRead (h3.more hb hx).1 r hS1 (pDir k) (pDir_in k hk)).mono ?_
        rintro e w' ⟨rfl, h1, h2⟩
        exact ⟨rfl, hb.trans (h2.mono hb.size), h1.fix⟩
      have RF : Hid (∀ w3 V k, k < 8 → Ne w w3 w.heap.size (S.set r (plR r x f y).2.1) [] → Below w3.heap.size w3 V → Fixed V → Calls (twin Tryz.prog pl) 25 #[.pointer (some ⟨w.heap.size, 0, none⟩), .int .i64 f, .string (pDir k)] V fun e w' => e = .returned (.tuple #[.string (rdR f y (pDir k)).1, .int .i64 (rdR f y (pDir k)).2]) ∧ Below w3.heap.size w3 w' ∧ Fixed w') := fun w3 V k hk h3 hb hx => by
        refine (eRead (h3.more hb hx).1 f hS2 (pDir k) (pDir_in k hk)).mono ?_
        rintro e w' ⟨rfl, h1, h2⟩
        exact ⟨rfl, hb.trans (h2.mono hb.size), h1.fix⟩
      have MX : Hid ((plR r x f y).2.2.length ≤ 1000) := by
        rw [(pl_wf hWx hWy (by decide)).2.2.1]
        have q1 := (accP_len r x.cm x.E f y.cm y.E (unionK (x.E.map (·.1)) (y.E.map (·.1))) ([], [])).2
        have q2 := union_len (y.E.map (·.1)) (x.E.map (·.1))
        have q3 := hWx.len
        have q4 := hWy.len
        rw [List.length_map, List.length_map] at q2
        show ((unionK (x.E.map (·.1)) (y.E.map (·.1))).foldl (stepA r x.cm x.E f y.cm y.E) ([], [])).2.length ≤ _
        simp only [List.length_nil] at q1
        omega
      have d1 : decide (((8 : Nat) : Int) < 8) = false := by decide
      clear hS1 hS2 hSx hSy hWx hWy hWS hSS RD hL hs hx
      generalize (plR r x f y).2.2 = l at *
      generalize (plR r x f y).2.1 = x' at *
      generalize S.set r x' = S' at *
      generalize txL r x 8 = ts at *
      generalize erL r x 8 = es at *
      go_wp2_with (go_at_call 22; refine EP.out.mono ?_; rintro e w3 ⟨c1, c2, c3, rfl, hL3, hc2⟩; have M3 := hide hL3; have HC := hide hc2; clear hL3 hc2)
      have hc2 := HC.out
      subst hc2
      clear HC EP
      have B3 : Hid (Below w3.heap.size w3 w3) := Below.refl _ _
      go_loopw [21] (fun kv wr2 => ∃ k : Nat, k ≤ 8 ∧ kv = .int .i64 k ∧ Hid (Below w3.heap.size w3 wr2) ∧ Hid (Fixed wr2)) (fun kv _ => 8 - (intOf kv).toNat)
      case atStart => exact ⟨0, by omega, rfl, B3, M3.out.ne.fix⟩
      case round =>
        clear B3
        obtain ⟨k, hk, rfl, hB, hF⟩ := hrel
        by_cases hk8 : k < 8
        · have d2 : decide ((k : Int) < 8) = true := by simp; omega
          obtain ⟨w4, hw4⟩ : ∃ w4, w4 = wr := ⟨_, rfl⟩
          subst hw4
          have PT := hide (qpath k hk8)
          have LK := LC.out (pDir k)
          have TK := TX.out k hk8
          have RRk := hide (fun V => RR.out w3 V k hk8 M3.out.ne)
          have RFk := hide (fun V => RF.out w3 V k hk8 M3.out.ne)
          have CT := hide (fun V (hV : Below w3.heap.size w3 V) => M3.out.text hV hk8)
          rw [TK.1, TK.2] at CT
          clear TK
          generalize rdR r x' (pDir k) = A1 at *
          generalize rdR f y (pDir k) = A2 at *
          generalize rdR r x (pDir k) = A0 at *
          generalize pDir k = p at *
          go_wp2_with fail
          go_loopw [22, 23] (fun wv iv wr2 => ∃ i : Nat, i ≤ l.length ∧ iv = .int .i64 i ∧ wv = .int .i64 (lastW p (l.take i)) ∧ ∃ nq, wr2 = w4.drewN nq) (fun _ iv _ => l.length - (intOf iv).toNat)
          case atStart => exact ⟨0, Nat.zero_le _, rfl, rfl, 0, rfl⟩
          case round =>
            obtain ⟨i, hi', rfl, rfl, nq, rfl⟩ := hrel
            have hm := MX.out
            by_cases hil : i < l.length
            · obtain ⟨ch, hch⟩ : ∃ ch, l[i]? = some ch := ⟨_, List.getElem?_eq_getElem hil⟩
              obtain ⟨g, cp, erv, hcl⟩ := M3.out.change (V := w4) hch
              cases erv
              obtain ⟨q0, q1, q2⟩ := hcl hB.out
              have LS : Hid (lastW p (l.take (i + 1)) = if seq ch.1 p = true then ch.2 else lastW p (l.take i)) := by
                unfold lastW
                exact take_fold _ _ _ _ _ hch
              have d3 : decide ((i : Int) < (l.length : Int)) = true := by simp; omega
              clear hcl hch LK
              cases hsq : seq ch.1 p with
              | false =>
                rw [hsq] at LS
                unfold seq at hsq
                go_wp2_with fail
                go_quiet ((go_at_call 19; exact (PT.out _).mono fun _ _ h => ⟨h.1, _, h.2⟩))
                go_wp2
                go_roundw
                case rel => exact ⟨i + 1, by omega, by go_num, by rw [LS.out]; rfl, _, rfl⟩
                case measure => simp [intOf]; omega
              | true =>
                rw [hsq] at LS
                unfold seq at hsq
                go_wp2_with fail
                go_quiet ((go_at_call 19; exact (PT.out _).mono fun _ _ h => ⟨h.1, _, h.2⟩))
                go_wp2
                go_roundw
                case rel => exact ⟨i + 1, by omega, by go_num, by rw [LS.out]; rfl, _, rfl⟩
                case measure => simp [intOf]; omega
            · have ei : i = l.length := by omega
              subst ei
              have hz : lastW p (l.take l.length) = lastW p l := by rw [List.take_length]
              rw [hz]
              have d3 : decide ((l.length : Int) < (l.length : Int)) = false := by simp
              have BQ := hide (below_drewN hB.out nq)
              have FQ : Hid (Fixed (w4.drewN nq)) := hF.out
              clear hz hi'
              generalize lastW p l = zz at *
              obtain ⟨s1, g1⟩ := A1
              obtain ⟨u2, h2⟩ := A2
              obtain ⟨t0, e0⟩ := A0
              dsimp only at LK CT RRk RFk
              rcases LK with ⟨rfl, rfl, rfl, rfl⟩ | ⟨rfl, rfl, rfl, rfl⟩ | ⟨h03, hpe⟩
              · cases hq1 : (s1.toList == t0.toList) <;> cases hq2 : ((0 : Int) == e0)
                all_goals
                  go_wp2_with (first
                    | (go_at_call 19; refine (PT.out _).mono ?_; rintro e wz ⟨rfl, hwz⟩; obtain rfl := hwz.symm)
                    | (go_at_call_of 25 (Value.int .i64 (r : Int)); refine (RRk.out _ BQ.out FQ.out).mono ?_; rintro e w5 ⟨rfl, hb5, hx5⟩; have B5 := hide hb5; have F5 := hide hx5; clear hb5 hx5)
                    | (go_at_call_of 25 (Value.int .i64 (f : Int)); refine (RFk.out _ B5.out F5.out).mono ?_; rintro e w6 ⟨rfl, hb6, hx6⟩; have B6 := hide hb6; have F6 := hide hx6; obtain ⟨k1, k2⟩ := CT.out _ hb6; clear hb6 hx6))
                  go_roundw
                  case rel => exact ⟨k + 1, by omega, by go_num, B6, F6⟩
                  case measure => simp [intOf]; omega

              · cases hq1 : (s1.toList == t0.toList)
                all_goals
                  go_wp2_with (first
                    | (go_at_call 19; refine (PT.out _).mono ?_; rintro e wz ⟨rfl, hwz⟩; obtain rfl := hwz.symm)
                    | (go_at_call_of 25 (Value.int .i64 (r : Int)); refine (RRk.out _ BQ.out FQ.out).mono ?_; rintro e w5 ⟨rfl, hb5, hx5⟩; have B5 := hide hb5; have F5 := hide hx5; clear hb5 hx5)
                    | (go_at_call_of 25 (Value.int .i64 (f : Int)); refine (RFk.out _ B5.out F5.out).mono ?_; rintro e w6 ⟨rfl, hb6, hx6⟩; have B6 := hide hb6; have F6 := hide hx6; obtain ⟨k1, k2⟩ := CT.out _ hb6; clear hb6 hx6))
                  go_roundw
                  case rel => exact ⟨k + 1, by omega, by go_num, B6, F6⟩
                  case measure => simp [intOf]; omega

              · cases hpe
                rcases h03 with rfl | rfl
                all_goals
                  go_wp2_with (first
                    | (go_at_call 19; refine (PT.out _).mono ?_; rintro e wz ⟨rfl, hwz⟩; obtain rfl := hwz.symm)
                    | (go_at_call_of 25 (Value.int .i64 (r : Int)); refine (RRk.out _ BQ.out FQ.out).mono ?_; rintro e w5 ⟨rfl, hb5, hx5⟩; have B5 := hide hb5; have F5 := hide hx5; clear hb5 hx5)
                    | (go_at_call_of 25 (Value.int .i64 (f : Int)); refine (RFk.out _ B5.out F5.out).mono ?_; rintro e w6 ⟨rfl, hb6, hx6⟩; have B6 := hide hb6; have F6 := hide hx6; obtain ⟨k1, k2⟩ := CT.out _ hb6; clear hb6 hx6))
                  go_roundw
                  case rel => exact ⟨k + 1, by omega, by go_num, B6, F6⟩
                  case measure => simp [intOf]; omega

        · have ek8 : k = 8 := by omega
          subst ek8
          go_wp2
          go_ret
          exact ⟨rfl, M3.out.ne.bel.trans (hB.out.mono M3.out.ne.bel.size)⟩
end Go.Proofs.YtaelaldmibgibaaGreat
