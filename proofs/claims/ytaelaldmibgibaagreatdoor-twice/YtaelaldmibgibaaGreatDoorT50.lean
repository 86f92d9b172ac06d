/- Twice over the twin. -/
import Derived.Test.YtaelaldmibgibaaGreatDoorT49
import Derived.BigQuiet
import Derived.Deep.QuietTactic
import Derived.Laws.StructEq

set_option linter.unusedVariables false
set_option linter.unusedSimpArgs false
set_option linter.unusedSectionVars false
set_option maxHeartbeats 4000000
set_option maxRecDepth 100000

namespace Go.Proofs.YtaelaldmibgibaaGreatDoor
open Go.RowKit Go.Sim
theorem ycq.sub {K K' : List Nat} {w w' : World} (h : ycq K w w') (hs : ∀ k ∈ K', k ∈ K) : ycq K' w w' := fun k hk => h k (hs k hk)
structure T1 (w0 w : World) (nb : Nat) (S : List RS) (r : Nat) (lv : Value) (l : List (ByteArray × Int)) : Prop where
 ne : Ne w0 w nb S (lv.ownBlock.toList ++ [])
 lr : w.ownsRow 0 44 3 lv l.length (chv r l)
structure T2 (w0 w : World) (nb : Nat) (S : List RS) (r : Nat) (lv mv : Value) (l m : List (ByteArray × Int)) : Prop where
 ne : Ne w0 w nb S (mv.ownBlock.toList ++ (lv.ownBlock.toList ++ []))
 lr : w.ownsRow 0 44 3 lv l.length (chv r l)
 mr : w.ownsRow 0 44 3 mv m.length (chv r m)
theorem T2.kept {w0 w w' : World} {nb : Nat} {S : List RS} {r : Nat} {lv mv : Value} {l m : List (ByteArray × Int)} (h : T2 w0 w nb S r lv mv l m) (hn : Ne w0 w' nb S (mv.ownBlock.toList ++ (lv.ownBlock.toList ++ []))) (hk : ycq (mv.ownBlock.toList ++ (lv.ownBlock.toList ++ [])) w w') : T2 w0 w' nb S r lv mv l m :=
 ⟨hn, yly (K := []) h.lr (hk.sub fun _ q => List.mem_append_right _ q), yly h.mr hk⟩
theorem q_funcT : (twin Tryz.prog pl).funcs[7]? = some Tryz.f7 := yfu Tryz.func7 (by decide) (by kernel_rfl)
@[simp] theorem q_callP (args : Array Value) (w : World) : (callFunc 18 args).run (twin Tryz.prog pl) w = .ok (.enter 18 args) w := yez (by decide) args w
theorem neC_fields : ((twin Tryz.prog pl).fieldsOf 44).toList.map (fun f => (f.name, f.type, f.offset)) = [("Replica", 3, 0), ("Path", 9, 1), ("What", 3, 2)] := by kernel_rfl
theorem run_neC (w : World) (r c : Int) (p : ByteArray) : (neCh (.agg #[.int .i64 r, .string p, .int .i64 c]) (.agg #[.int .i64 r, .string p, .int .i64 c])).run (twin Tryz.prog pl) w = .ok (.bool false) w := by
 unfold neCh
 rw [run_neq_struct, run_equalIn_agg w 9999 _ _ _ (by kernel_rfl) (by kernel_rfl)]
 obtain ⟨f1, f2, f3, hf, e1, e2, e3⟩ : ∃ f1 f2 f3, ((twin Tryz.prog pl).fieldsOf 44).toList = [f1, f2, f3] ∧ (f1.name, f1.type, f1.offset) = ("Replica", 3, 0) ∧ (f2.name, f2.type, f2.offset) = ("Path", 9, 1) ∧ (f3.name, f3.type, f3.offset) = ("What", 3, 2) := by
  have := neC_fields
  match hq : ((twin Tryz.prog pl).fieldsOf 44).toList with
  |[f1, f2, f3] =>
   rw [hq] at this
   simp only [List.map_cons, List.map_nil, List.cons.injEq, and_true] at this
   exact ⟨f1, f2, f3, rfl, this.1, this.2.1, this.2.2⟩
  |[] => rw [hq] at this; simp at this
  |[_] => rw [hq] at this; simp at this
  |[_, _] => rw [hq] at this; simp at this
  |_ :: _ :: _ :: _ :: _ => rw [hq] at this; simp at this
 simp only [Prod.mk.injEq] at e1 e2 e3
 obtain ⟨a1, a2, a3⟩ := e1
 obtain ⟨b1, b2, b3⟩ := e2
 obtain ⟨c1, c2, c3⟩ := e3
 have p1 : ∀ W, (part 3 #[.int .i64 r, .string p, .int .i64 c] 0).run (twin Tryz.prog pl) W = .ok (.int .i64 r) W := fun W => by kernel_rfl
 have p2 : ∀ W, (part 9 #[.int .i64 r, .string p, .int .i64 c] 1).run (twin Tryz.prog pl) W = .ok (.string p) W := fun W => by kernel_rfl
 have p3 : ∀ W, (part 3 #[.int .i64 r, .string p, .int .i64 c] 2).run (twin Tryz.prog pl) W = .ok (.int .i64 c) W := fun W => by kernel_rfl
 have u1 : (twin Tryz.prog pl).underlying 3 = some (.int .i64) := (ydk _).trans Tryz.underlying3
 have u2 : (twin Tryz.prog pl).underlying 9 = some .string := (ydk _).trans Tryz.underlying9
 rw [hf]
 simp [Op.eqFields, a1, a2, a3, b1, b2, b3, c1, c2, c3, p1, p2, p3, run_equalIn_int w 9998 3 .i64 .i64 _ _ u1, run_equalIn_string w 9998 9 _ _ u2]
attribute [local go_sem ↓] neChange
attribute [local go_sem] run_neC
theorem twice_any (size to_ from_ : Int) (hz : inI size) (ht : inI to_) (hf : inI from_) (a : Option Addr) (len cap : Nat) (hlen : len ≤ 4611686018427387904) (os : Nat → ych) (w : World) (hx : ybx w) (hG : yli w) (hs : ∀ i, i < len → ∃ ad, a = some ad ∧ ygw w ad i (os i)) :
  Calls (twin Tryz.prog pl) 7 #[.int .i64 size, .slice a len cap, .int .i64 to_, .int .i64 from_] w fun e w' => e = .returned (.bool true) ∧ Below w.heap.size w w' := by
 have hc := ydw size 4 (by decide)
 have PZ := yac (yvu size 4 hz (by decide))
 obtain ⟨n, hn⟩ : ∃ n : Nat, (2 : Int) + yeh size 4 = n := ⟨(2 + yeh size 4).toNat, by omega⟩
 have hn2 : 2 ≤ n := by omega
 have hn6 : n ≤ 6 := by omega
 generalize yeh size 4 = c at *
 have B0 := yac (begun_any n hn2 hn6 w hx)
 generalize hSS : runS n (begS n) os (min len 100000) = S
 have PL : Hid (∀ V, Ne w V w.heap.size (begS n) [] → Calls (twin Tryz.prog pl) 15 #[.pointer (some ⟨w.heap.size, 0, none⟩), .int .i64 n, .slice a len cap] V fun e w' => e = .returned (.bool true) ∧ Ne w w' w.heap.size S []) := fun V hV => by
  refine (play_any hV hn2 hn6 (ylm n) (B := 1) (by decide) (by decide) (yun n) a len cap hlen os hs).mono ?_
  rintro e w' ⟨rfl, h1, _⟩
  rw [hSS] at h1
  exact ⟨rfl, h1⟩
 have hSl : S.length = n := by rw [← hSS, ylz, ylm]
 have hWS : Wf 200000 S := by
  rw [← hSS]
  exact (ywg hn2 hn6 (ylm n) (by decide) (yun n) os _ (by omega)).mono (by omega)
 have hSV : VS S := by
  rw [← hSS]
  exact runS_vs hn2 hn6 (ylm n) (by decide) (yun n) (begS_vs hn2 hn6) os _ (by omega)
 have hr0 := ydw to_ n (by omega)
 have PR := yac (yvu to_ n ht (by omega))
 obtain ⟨r, hr⟩ : ∃ r : Nat, yeh to_ n = r := ⟨(yeh to_ n).toNat, by omega⟩
 rw [hr] at PR hr0
 have hrn : r < n := by omega
 have hf0 := yjt r n from_ hrn hn2
 have PF := yac (qother r n from_ hrn ⟨hn2, hn6⟩ hf)
 obtain ⟨f, hff⟩ : ∃ f : Nat, yil r from_ n = f := ⟨(yil r from_ n).toNat, by omega⟩
 rw [hff] at PF hf0
 have hfn : f < n := by omega
 have hrf : r ≠ f := by omega
 have hSx := ybk (S := S) (r := r) (by omega)
 have hSy := ybk (S := S) (r := f) (by omega)
 have TW := pl_twice (by omega) hSV (B := 200000) (by decide) hWS (r := r) (f := f) (by omega) (by omega)
 have hV1 := ywv hSV (B := 200000) (by decide) hWS (r := r) (f := f) (by omega) (by omega)
 generalize S.getD r rs0 = x at *
 generalize S.getD f rs0 = y at *
 have hWx := hWS.at hSx
 have hWy := hWS.at hSy
 have hp := ysz (r := r) (f := f) hWx hWy (by decide)
 have MX : Hid ((plR r x f y).2.2.length ≤ 1000) := by
  rw [hp.2.2.1]
  have q1 := (ypt r x.cm x.E f y.cm y.E (ybq (x.E.map (·.1)) (y.E.map (·.1))) ([], [])).2
  have q2 := yns (y.E.map (·.1)) (x.E.map (·.1))
  have q3 := hWx.len
  have q4 := hWy.len
  rw [List.length_map, List.length_map] at q2
  show ((ybq (x.E.map (·.1)) (y.E.map (·.1))).foldl (ygd r x.cm x.E f y.cm y.E) ([], [])).2.length ≤ _
  simp only [List.length_nil] at q1
  omega
 have hp1 := hp.1
 have hW1 : Wf 200000 (S.set r (plR r x f y).2.1) := hWS.set r hp.2.1
 have hS1x : (S.set r (plR r x f y).2.1)[r]? = some (plR r x f y).2.1 := by rw [List.getElem?_set_self (by omega)]
 have hS1y : (S.set r (plR r x f y).2.1)[f]? = some y := by rw [List.getElem?_set_ne hrf]; exact hSy
 have hSe : (S.set r (plR r x f y).2.1).set r (plR r x f y).2.1 = S.set r (plR r x f y).2.1 := List.set_set ..
 have hS1l : (S.set r (plR r x f y).2.1).length = n := by rw [List.length_set]; exact hSl
 have EP1 : Hid (∀ V, Ne w V w.heap.size S [] → Calls (twin Tryz.prog pl) 17 #[.pointer (some ⟨w.heap.size, 0, none⟩), .int .i64 r, .int .i64 f] V fun e w' => ∃ c1 c3, e = .returned (.tuple #[.slice c1 (plR r x f y).2.2.length c3, .int .i64 0]) ∧ T1 w w' w.heap.size (S.set r (plR r x f y).2.1) r (.slice c1 (plR r x f y).2.2.length c3) (plR r x f y).2.2) := fun V hV => by
  refine (ePull hV r f hrf hSx hSy).mono ?_
  rintro e w' ⟨rv, rfl, h1, _, h3⟩
  obtain ⟨c1, c3, rfl⟩ := ytg h3
  rw [hp1]
  have h4 := yck h3 (fun _ _ => Nat.zero_le _)
  exact ⟨c1, c3, rfl, h1.row h4, h4⟩
 generalize (plR r x f y).2.2 = l at *
 generalize (plR r x f y).2.1 = x1 at *
 generalize S.set r x1 = S1 at *
 have PK1 : Hid (∀ V lv, T1 w V w.heap.size S1 r lv l → Calls (twin Tryz.prog pl) 18 #[.pointer (some ⟨w.heap.size, 0, none⟩)] V fun e w' => e = .returned (.string (yax (yvo (netO S1)))) ∧ T1 w w' w.heap.size S1 r lv l) := fun V lv hT => by
  refine (ePack hT.ne hG hV1 hW1 (by decide) (by decide) (by omega) (by omega)).mono ?_
  rintro e w' ⟨rfl, h1, h2⟩
  exact ⟨rfl, h1, yly hT.lr h2⟩
 have EP2 : Hid (∀ V lv, T1 w V w.heap.size S1 r lv l → Calls (twin Tryz.prog pl) 17 #[.pointer (some ⟨w.heap.size, 0, none⟩), .int .i64 r, .int .i64 f] V fun e w' => ∃ c1 c3, e = .returned (.tuple #[.slice c1 (l.filter isC).length c3, .int .i64 0]) ∧ T2 w w' w.heap.size S1 r lv (.slice c1 (l.filter isC).length c3) l (l.filter isC)) := fun V lv hT => by
  refine (ePull hT.ne r f hrf hS1x hS1y).mono ?_
  rintro e w' ⟨rv, rfl, h1, h2, h3⟩
  rw [TW] at h1 h3 ⊢
  simp only at h1 h3 ⊢
  rw [hSe] at h1
  obtain ⟨c1, c3, rfl⟩ := ytg h3
  have h4 := yck h3 (fun _ _ => Nat.zero_le _)
  exact ⟨c1, c3, rfl, h1.row h4, yly hT.lr h2, h4⟩
 have PK2 : Hid (∀ V lv mv, T2 w V w.heap.size S1 r lv mv l (l.filter isC) → Calls (twin Tryz.prog pl) 18 #[.pointer (some ⟨w.heap.size, 0, none⟩)] V fun e w' => e = .returned (.string (yax (yvo (netO S1)))) ∧ T2 w w' w.heap.size S1 r lv mv l (l.filter isC)) := fun V lv mv hT => by
  refine (ePack hT.ne hG hV1 hW1 (by decide) (by decide) (by omega) (by omega)).mono ?_
  rintro e w' ⟨rfl, h1, h2⟩
  exact ⟨rfl, hT.kept h1 h2⟩
 have CF : Hid (∀ V c1 c3 mv, T2 w V w.heap.size S1 r (.slice c1 l.length c3) mv l (l.filter isC) → Calls (twin Tryz.prog pl) 19 #[.slice c1 l.length c3] V fun e w' => e = .returned (.int .i64 (l.filter isC).length) ∧ w' = V) := fun V c1 c3 mv hT => qconf hT.lr MX.out
 have ML : Hid ((l.filter isC).length ≤ l.length) := List.length_filter_le _ _
 clear hs hx hG hSx hSy hS1x hS1y TW hV1 hWx hWy hp hp1 hW1 hSV hWS hSS hSe
 generalize yax (yvo (netO S1)) = pk at *
 have pp : (pk.toList == pk.toList) = true := by simp
 have eg : ∀ V (r c : Int) (p : ByteArray), (eqGuard .neq 44 (.tmp 95) (.tmp 99) (.agg #[.int .i64 r, .string p, .int .i64 c]) (.agg #[.int .i64 r, .string p, .int .i64 c])).run (twin Tryz.prog pl) V = .ok () V := fun V _ _ _ => run_eqGuard_agg V _ _ _ _ _ _ (by kernel_rfl)
 go_enter q_funcT, Tryz.ntmps7
 go_wp2_with (first
  |(go_at_call_of 13 (Value.int .i64 size); refine (PZ.out _).mono ?_; rintro e wz ⟨rfl, hwz⟩; obtain rfl := hwz.symm)
  |(go_at_call_of 13 (Value.int .i64 to_); refine (PR.out _).mono ?_; rintro e wz ⟨rfl, hwz⟩; obtain rfl := hwz.symm)
  |(go_at_call 16; refine (PF.out _).mono ?_; rintro e wz ⟨rfl, hwz⟩; obtain rfl := hwz.symm)
  |(go_at_call 14; refine B0.out.mono ?_; rintro e w1 ⟨rfl, hN1⟩; have N1 := yac hN1; clear hN1)
  |(go_at_call 15; refine (PL.out _ N1.out).mono ?_; rintro e w2 ⟨rfl, hN2⟩; have N2 := yac hN2; clear hN2)
  |(go_at_call 17; refine (EP1.out _ N2.out).mono ?_; rintro e w3 ⟨c1, c3, rfl, h3⟩; have M3 := yac h3; clear h3 N2)
  |(go_at_call 18; refine (PK1.out _ _ M3.out).mono ?_; rintro e w4 ⟨rfl, h4⟩; have M4 := yac h4; clear h4 M3)
  |(go_at_call 17; refine (EP2.out _ _ M4.out).mono ?_; rintro e w5 ⟨d1, d3, rfl, h5⟩; have M5 := yac h5; clear h5 M4)
  |(go_at_call 18; refine (PK2.out _ _ _ M5.out).mono ?_; rintro e w6 ⟨rfl, h6⟩; have M6 := yac h6; clear h6 M5)
  |(go_at_call 19; refine (CF.out _ _ _ _ M6.out).mono ?_; rintro e wz ⟨rfl, hwz⟩; obtain rfl := hwz.symm))
 clear B0 PL N1 PZ PR PF EP1 EP2 PK1 PK2 CF
 go_loopw [20, 21] (fun kv iv wr => ∃ i : Nat, i ≤ l.length ∧ iv = .int .i64 i ∧ kv = .int .i64 ((l.take i).filter isC).length ∧ ∃ nq, wr = w6.drewN nq) (fun _ iv _ => l.length - (intOf iv).toNat)
 case atStart => exact ⟨0, Nat.zero_le _, rfl, rfl, 0, rfl⟩
 case round =>
  obtain ⟨i, hi, rfl, rfl, nq, rfl⟩ := hrel
  have hm := MX.out
  by_cases hil : i < l.length
  ·have e1 : decide ((i : Int) < (l.length : Int)) = true := by simp; omega
   obtain ⟨ch, hch⟩ : ∃ ch, l[i]? = some ch := ⟨_, List.getElem?_eq_getElem hil⟩
   obtain ⟨g, rfl, q0, q1, q2⟩ := ync M6.out.lr hch
   have ST := yac (yry hch)
   cases e2 : (ch.2 == 3) with
   |false =>
    have hfc : isC ch = false := by unfold isC; simpa using e2
    rw [hfc] at ST
    clear hch
    go_wp2
    go_roundw
    case rel => exact ⟨i + 1, by omega, by go_num, by rw [ST.out]; rfl, _, rfl⟩
    case measure => simp [intOf]; omega
   |true =>
    have hfc : isC ch = true := by unfold isC; simpa using e2
    rw [hfc] at ST
    have hk := conf_at hch hfc
    obtain ⟨g', rfl, z0, z1, z2⟩ := ync M6.out.mr hk
    have hkl := (List.getElem?_eq_some_iff.1 hk).1
    have hml := ML.out
    clear hch hk
    generalize hkk : ((l.take i).filter isC).length = kk at *
    generalize hmm : (l.filter isC).length = mm at *
    go_wp2_with fail
    go_quiet (fail)
    go_wp2
    go_roundw
    case rel => exact ⟨i + 1, by omega, by go_num, by rw [ST.out]; go_num, _, rfl⟩
    case measure => simp [intOf]; omega
  ·have ei : i = l.length := by omega
   subst ei
   have e1 : decide ((l.length : Int) < (l.length : Int)) = false := by simp
   have BQ := M6.out.ne.bel
   go_wp2
   go_ret
   exact ⟨rfl, ydn BQ nq⟩
end Go.Proofs.YtaelaldmibgibaaGreatDoor
