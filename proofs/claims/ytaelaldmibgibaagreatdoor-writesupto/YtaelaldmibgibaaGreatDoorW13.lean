/- The library's Clone of a string, by the shelf's contract. The program's map of records: how a record reads, a look-up, recordOf. The program's recordOf. -/
import Derived.Test.YtaelaldmibgibaaGreatDoorW12
import Derived.Test.YtaelaldmibgibaaGreatDoorShelf
import Derived.Maps.OwnSet
import Derived.Maps.OwnOps

namespace Go.Proofs.YtaelaldmibgibaaGreatDoor
open Go.RowKit

set_option maxHeartbeats 400000 in
theorem clone_any (s : ByteArray) (w : World) (hs : s.size ≤ 1000000000000) :
    Calls Tryz.prog 109 #[.string s] w fun e w' => e = .returned (.string s) ∧ Below w.heap.size w w' := by
  go_enter Tryz.func109, Tryz.ntmps109
  go_wp2_with (go_at_call 169; refine (Tryz.stringslite_Clone s w (by omega)).mono ?_; rintro e w' ⟨rfl, hb⟩)
  go_ret
  exact ⟨rfl, hb⟩

end Go.Proofs.YtaelaldmibgibaaGreatDoor

namespace Go.Proofs.YtaelaldmibgibaaGreatDoor
open Go.RowKit Go.Maps

theorem lawS : Keyed Tryz.prog 9 := string_keyed Tryz.underlying9

/-- six integers as a time -/
def t6 (a0 a1 a2 a3 a4 a5 : Int) : Nat → Int
  | 0 => a0
  | 1 => a1
  | 2 => a2
  | 3 => a3
  | 4 => a4
  | _ => a5

abbrev di (n : Int) : DataW Unit := .lit (.int .i64 n)
/-- a record as it is read -/
def recDat (R : Rec) : DataW Unit :=
  .agg [.lit (.string R.text.data.toList), di R.br, di R.bn, di (R.ch 0), di (R.ch 1), di (R.ch 2), di (R.ch 3), di (R.ch 4), di (R.ch 5), di (R.kn 0), di (R.kn 1), di (R.kn 2), di (R.kn 3), di (R.kn 4), di (R.kn 5)]
/-- how an element of the map reads -/
def recElem (v : Value) : Option (DataW Unit × List MemPlace) :=
  match v with
  | .agg xs => (match xs.toList with
    | [.string t, .int .i64 x, .int .i64 y, .int .i64 a0, .int .i64 a1, .int .i64 a2, .int .i64 a3, .int .i64 a4, .int .i64 a5, .int .i64 b0, .int .i64 b1, .int .i64 b2, .int .i64 b3, .int .i64 b4, .int .i64 b5] =>
      some (recDat ⟨t, x, y, t6 a0 a1 a2 a3 a4 a5, t6 b0 b1 b2 b3 b4 b5⟩, [])
    | _ => none)
  | _ => none
theorem recElem_mk (R : Rec) : recElem (recVal R) = some (recDat R, []) := rfl
theorem recElem_inv {v : Value} {z : DataW Unit × List MemPlace} (h : recElem v = some z) : ∃ R : Rec, v = recVal R ∧ z = (recDat R, []) := by
  unfold recElem at h
  split at h
  · rename_i xs
    split at h
    · rename_i t x y a0 a1 a2 a3 a4 a5 b0 b1 b2 b3 b4 b5 e
      refine ⟨⟨t, x, y, t6 a0 a1 a2 a3 a4 a5, t6 b0 b1 b2 b3 b4 b5⟩, ?_, (Option.some.inj h).symm⟩
      obtain ⟨l⟩ := xs
      simp only at e
      rw [e]
      rfl
    · cases h
  · cases h

/-- the record of nothing -/
def rec0 : Rec := ⟨⟨#[]⟩, 0, 0, fun _ => 0, fun _ => 0⟩
theorem zeroRec (w : World) : (zeroValue 197).run Tryz.prog w = .ok (recVal rec0) w := by kernel_rfl

/-- 'rec, kept := r.records[path]': the record's cells written out -/
theorem wpList_lookup_rec (w : World) {ops : Array Oper} {rest : List Oper} {o : Oper} {a : Act} {Q : Exit → Act → World → Prop} (hg : o.guard = none) (m x : Operand) (t : TypeId) (hop : o.op = Op.lookup t m x true)
    (ht : Tryz.prog.underlying t = some (.map 9 197)) (b n : Nat) (D : DataW Unit)
    (hm : a.eval m = .map (some b)) (hown : w.ownsMap Tryz.prog 9 recElem b n D) (key : Value) (kl : Lit) (hx : a.eval x = key) (hkey : keyOf Tryz.prog 9 key = some kl) (kept : Bool) (hkept : Maps.has D kl = kept) (R : Rec) (hat : D.atKey kl (recDat rec0) = recDat R)
    (hK : wpList Tryz.prog ops Q rest (a.put o.dst (.tuple #[recVal R, .bool kept])) w) :
    wpList Tryz.prog ops Q (o :: rest) a w :=
  wpList_lookup_own_ok w hg m x t hop 9 197 lawS ht recElem (zeroRec w) (recDat rec0) [] (recElem_mk rec0) b n D hm hown key kl hx hkey (fun v ps hv => by
    obtain ⟨R', rfl, hR⟩ := recElem_inv hv
    have e := hat.symm.trans (congrArg Prod.fst hR)
    have : recVal R' = recVal R := by
      simp only [recDat, DataW.agg.injEq, List.cons.injEq, DataW.lit.injEq, Lit.string.injEq, Lit.int.injEq, true_and, and_true] at e
      obtain ⟨h0, h1, h2, h3, h4, h5, h6, h7, h8, h9, h10, h11, h12, h13, h14⟩ := e
      have h0' : R.text = R'.text := ByteArray.ext (Array.toList_inj.1 h0)
      simp only [recVal, h0', h1, h2, h3, h4, h5, h6, h7, h8, h9, h10, h11, h12, h13, h14]
    rw [this, hkept]
    exact hK)

end Go.Proofs.YtaelaldmibgibaaGreatDoor

namespace Go.Proofs.YtaelaldmibgibaaGreatDoor
open Go.RowKit Go.Maps

/-- a time with one number laid in -/
def upT (t : Nat → Int) (s : Nat) (x : Int) : Nat → Int := fun j => if j = s then x else t j

/-- a record in a block of its own -/
structure RecAt (w : World) (b : Nat) (R : Rec) : Prop where
  blk : w.heap[b]? = some (.cells #[.string R.text, .int .i64 R.br, .int .i64 R.bn, .int .i64 (R.ch 0), .int .i64 (R.ch 1), .int .i64 (R.ch 2), .int .i64 (R.ch 3), .int .i64 (R.ch 4), .int .i64 (R.ch 5), .int .i64 (R.kn 0), .int .i64 (R.kn 1), .int .i64 (R.kn 2), .int .i64 (R.kn 3), .int .i64 (R.kn 4), .int .i64 (R.kn 5)] 197 (0, 0))
theorem RecAt.kn {w b R} (h : RecAt w b R) (j : Nat) (hj : j < 6) : w.cell? ⟨b, 9 + j, none⟩ = some (.int .i64 (R.kn j)) := by
  simp only [World.cell?, h.blk]
  match j, hj with
  | 0, _ | 1, _ | 2, _ | 3, _ | 4, _ | 5, _ => rfl
theorem RecAt.fz {w b R} (h : RecAt w b R) (j : Nat) : w.frozen? ⟨b, j, none⟩ = false := by simp [World.frozen?, h.blk]
theorem RecAt.setKn {w b R} (h : RecAt w b R) (s : Nat) (hs : s < 6) (x : Int) : RecAt (w.setCell ⟨b, 9 + s, none⟩ (.int .i64 x)) b ⟨R.text, R.br, R.bn, R.ch, upT R.kn s x⟩ := by
  constructor
  have h1 := heap_setCell_same w b (9 + s) _ _ (.int .i64 x) h.blk
  match s, hs, h1 with
  | 0, _, h1 | 1, _, h1 | 2, _, h1 | 3, _, h1 | 4, _, h1 | 5, _, h1 => simpa [upT] using h1

/-- behind the look-up: two new blocks -/
theorem look_end {w : World} {rb s : Nat} {cm : Nat → Int} {mb : Nat} (h : RepAt w rb s cm mb) (R : Rec) :
    RecAt ((w.alloc (.cells #[.string ⟨#[]⟩, .int .i64 0, .int .i64 0, .int .i64 0, .int .i64 0, .int .i64 0, .int .i64 0, .int .i64 0, .int .i64 0, .int .i64 0, .int .i64 0, .int .i64 0, .int .i64 0, .int .i64 0, .int .i64 0] 197)).alloc (.cells #[.string R.text, .int .i64 R.br, .int .i64 R.bn, .int .i64 (R.ch 0), .int .i64 (R.ch 1), .int .i64 (R.ch 2), .int .i64 (R.ch 3), .int .i64 (R.ch 4), .int .i64 (R.ch 5), .int .i64 (R.kn 0), .int .i64 (R.kn 1), .int .i64 (R.kn 2), .int .i64 (R.kn 3), .int .i64 (R.kn 4), .int .i64 (R.kn 5)] 197)) (w.heap.size + 1) R ∧ RepAt ((w.alloc (.cells #[.string ⟨#[]⟩, .int .i64 0, .int .i64 0, .int .i64 0, .int .i64 0, .int .i64 0, .int .i64 0, .int .i64 0, .int .i64 0, .int .i64 0, .int .i64 0, .int .i64 0, .int .i64 0, .int .i64 0, .int .i64 0] 197)).alloc (.cells #[.string R.text, .int .i64 R.br, .int .i64 R.bn, .int .i64 (R.ch 0), .int .i64 (R.ch 1), .int .i64 (R.ch 2), .int .i64 (R.ch 3), .int .i64 (R.ch 4), .int .i64 (R.ch 5), .int .i64 (R.kn 0), .int .i64 (R.kn 1), .int .i64 (R.kn 2), .int .i64 (R.kn 3), .int .i64 (R.kn 4), .int .i64 (R.kn 5)] 197)) rb s cm mb ∧ Below w.heap.size w ((w.alloc (.cells #[.string ⟨#[]⟩, .int .i64 0, .int .i64 0, .int .i64 0, .int .i64 0, .int .i64 0, .int .i64 0, .int .i64 0, .int .i64 0, .int .i64 0, .int .i64 0, .int .i64 0, .int .i64 0, .int .i64 0, .int .i64 0] 197)).alloc (.cells #[.string R.text, .int .i64 R.br, .int .i64 R.bn, .int .i64 (R.ch 0), .int .i64 (R.ch 1), .int .i64 (R.ch 2), .int .i64 (R.ch 3), .int .i64 (R.ch 4), .int .i64 (R.ch 5), .int .i64 (R.kn 0), .int .i64 (R.kn 1), .int .i64 (R.kn 2), .int .i64 (R.kn 3), .int .i64 (R.kn 4), .int .i64 (R.kn 5)] 197)) := by
  have hb : Below w.heap.size w ((w.alloc (.cells #[.string ⟨#[]⟩, .int .i64 0, .int .i64 0, .int .i64 0, .int .i64 0, .int .i64 0, .int .i64 0, .int .i64 0, .int .i64 0, .int .i64 0, .int .i64 0, .int .i64 0, .int .i64 0, .int .i64 0, .int .i64 0] 197)).alloc (.cells #[.string R.text, .int .i64 R.br, .int .i64 R.bn, .int .i64 (R.ch 0), .int .i64 (R.ch 1), .int .i64 (R.ch 2), .int .i64 (R.ch 3), .int .i64 (R.ch 4), .int .i64 (R.ch 5), .int .i64 (R.kn 0), .int .i64 (R.kn 1), .int .i64 (R.kn 2), .int .i64 (R.kn 3), .int .i64 (R.kn 4), .int .i64 (R.kn 5)] 197)) := ((Below.refl _ _).alloc (Nat.le_refl _) _).alloc (by simp) _
  refine ⟨⟨?_⟩, h.keep (hb.block rb h.lt), hb⟩
  have e : (w.alloc (.cells #[.string ⟨#[]⟩, .int .i64 0, .int .i64 0, .int .i64 0, .int .i64 0, .int .i64 0, .int .i64 0, .int .i64 0, .int .i64 0, .int .i64 0, .int .i64 0, .int .i64 0, .int .i64 0, .int .i64 0, .int .i64 0] 197)).heap.size = w.heap.size + 1 := by simp
  rw [← e]
  exact heap_alloc_new _ _

/-- the own number laid in: two new blocks still -/
theorem rec_end (w : World) (R : Rec) (s : Nat) (hs : s < 6) (x : Int) (k : Nat) :
    (((w.alloc (.cells #[.string ⟨#[]⟩, .int .i64 0, .int .i64 0, .int .i64 0, .int .i64 0, .int .i64 0, .int .i64 0, .int .i64 0, .int .i64 0, .int .i64 0, .int .i64 0, .int .i64 0, .int .i64 0, .int .i64 0, .int .i64 0] 197)).alloc (.cells #[.string R.text, .int .i64 R.br, .int .i64 R.bn, .int .i64 (R.ch 0), .int .i64 (R.ch 1), .int .i64 (R.ch 2), .int .i64 (R.ch 3), .int .i64 (R.ch 4), .int .i64 (R.ch 5), .int .i64 (R.kn 0), .int .i64 (R.kn 1), .int .i64 (R.kn 2), .int .i64 (R.kn 3), .int .i64 (R.kn 4), .int .i64 (R.kn 5)] 197)).drewN k).setCell ⟨w.heap.size + 1, 9 + s, none⟩ (.int .i64 x) = ((w.drewN k).alloc (.cells #[.string ⟨#[]⟩, .int .i64 0, .int .i64 0, .int .i64 0, .int .i64 0, .int .i64 0, .int .i64 0, .int .i64 0, .int .i64 0, .int .i64 0, .int .i64 0, .int .i64 0, .int .i64 0, .int .i64 0, .int .i64 0] 197)).alloc (.cells #[.string R.text, .int .i64 R.br, .int .i64 R.bn, .int .i64 (R.ch 0), .int .i64 (R.ch 1), .int .i64 (R.ch 2), .int .i64 (R.ch 3), .int .i64 (R.ch 4), .int .i64 (R.ch 5), .int .i64 (upT R.kn s x 0), .int .i64 (upT R.kn s x 1), .int .i64 (upT R.kn s x 2), .int .i64 (upT R.kn s x 3), .int .i64 (upT R.kn s x 4), .int .i64 (upT R.kn s x 5)] 197) := by
  have e : ((w.alloc (.cells #[.string ⟨#[]⟩, .int .i64 0, .int .i64 0, .int .i64 0, .int .i64 0, .int .i64 0, .int .i64 0, .int .i64 0, .int .i64 0, .int .i64 0, .int .i64 0, .int .i64 0, .int .i64 0, .int .i64 0, .int .i64 0] 197)).alloc (.cells #[.string R.text, .int .i64 R.br, .int .i64 R.bn, .int .i64 (R.ch 0), .int .i64 (R.ch 1), .int .i64 (R.ch 2), .int .i64 (R.ch 3), .int .i64 (R.ch 4), .int .i64 (R.ch 5), .int .i64 (R.kn 0), .int .i64 (R.kn 1), .int .i64 (R.kn 2), .int .i64 (R.kn 3), .int .i64 (R.kn 4), .int .i64 (R.kn 5)] 197)).drewN k = ((w.drewN k).alloc (.cells #[.string ⟨#[]⟩, .int .i64 0, .int .i64 0, .int .i64 0, .int .i64 0, .int .i64 0, .int .i64 0, .int .i64 0, .int .i64 0, .int .i64 0, .int .i64 0, .int .i64 0, .int .i64 0, .int .i64 0, .int .i64 0] 197)).alloc (.cells #[.string R.text, .int .i64 R.br, .int .i64 R.bn, .int .i64 (R.ch 0), .int .i64 (R.ch 1), .int .i64 (R.ch 2), .int .i64 (R.ch 3), .int .i64 (R.ch 4), .int .i64 (R.ch 5), .int .i64 (R.kn 0), .int .i64 (R.kn 1), .int .i64 (R.kn 2), .int .i64 (R.kn 3), .int .i64 (R.kn 4), .int .i64 (R.kn 5)] 197) := rfl
  rw [e]
  rw [World.setCell_alloc_at _ _ _ _ _ (by simp [World.drewN])]
  match s, hs with
  | 0, _ | 1, _ | 2, _ | 3, _ | 4, _ | 5, _ => simp [upT]

set_option maxRecDepth 100000 in
set_option maxHeartbeats 600000 in
theorem recordOf_kept (rb s : Nat) (cm : Nat → Int) (mb : Nat) (w : World) (h : RepAt w rb s cm mb) (n : Nat) (D : DataW Unit) (hown : w.ownsMap Tryz.prog 9 recElem mb n D) (p : ByteArray) (hp : p.size ≤ maxLen) (R : Rec)
    (hk : Maps.has D (.string p.data.toList) = true) (hat : D.atKey (.string p.data.toList) (recDat rec0) = recDat R) :
    Calls Tryz.prog 104 #[.pointer (some ⟨rb, 0, none⟩), .string p] w fun e w' => e = .returned (recVal ⟨R.text, R.br, R.bn, R.ch, upT R.kn s (cm s)⟩) ∧ Below w.heap.size w w' := by
  have hkey := Go.WideMaps.keyOf_string_mk Tryz.underlying9 hp
  have c0 := h.c0
  have c7 := h.c7
  have hs := h.hs
  have hlt := h.lt
  have LE := hide (look_end h R)
  clear h
  go_enter Tryz.func104, Tryz.ntmps104
  go_wp2_with (first
    | (at_lookup; refine wpList_lookup_rec _ rfl _ _ _ rfl Tryz.underlying184 mb n D rfl (by first | exact hown | exact hown.alloc _) _ _ rfl hkey true hk R hat ?_; simp only [recVal]))
  obtain ⟨W, hW⟩ : ∃ W, W = (w.alloc (.cells #[.string ⟨#[]⟩, .int .i64 0, .int .i64 0, .int .i64 0, .int .i64 0, .int .i64 0, .int .i64 0, .int .i64 0, .int .i64 0, .int .i64 0, .int .i64 0, .int .i64 0, .int .i64 0, .int .i64 0, .int .i64 0] 197)).alloc (.cells #[.string R.text, .int .i64 R.br, .int .i64 R.bn, .int .i64 (R.ch 0), .int .i64 (R.ch 1), .int .i64 (R.ch 2), .int .i64 (R.ch 3), .int .i64 (R.ch 4), .int .i64 (R.ch 5), .int .i64 (R.kn 0), .int .i64 (R.kn 1), .int .i64 (R.kn 2), .int .i64 (R.kn 3), .int .i64 (R.kn 4), .int .i64 (R.kn 5)] 197) := ⟨_, rfl⟩
  rw [← hW]
  have LW : Hid (RecAt W (w.heap.size + 1) R ∧ RepAt W rb s cm mb ∧ Below w.heap.size w W) := by rw [hW]; exact LE
  have HW := hide hW
  clear hW LE hown hkey hk hat c0 c7
  have c0 := LW.out.2.1.c0
  have kq := LW.out.1.kn s hs
  have kf := LW.out.1.fz (9 + s)
  have hs1 : (0 : Int) ≤ (s : Int) := by omega
  have hs2 : (s : Int) < 6 := by omega
  have CN := hide (fun (V : World) (e0 : V.heap[rb]? = W.heap[rb]?) => count_any rb s cm mb V (LW.out.2.1.keep e0))
  go_region_law (first
    | (go_simp; go_at_call 168; refine (CN.out _ (by exact rfl)).mono ?_; rintro e w1 ⟨rfl, nq, rfl⟩; dsimp only))
  all_goals
    have e := HW.out
    subst e
    rw [rec_end w R s hs]
    clear HW LW c0 kq kf CN
    generalize hkn : upT R.kn s (cm s) = kn
    have HK := hide hkn
    clear hkn
    obtain ⟨V, hV, hz⟩ : ∃ V, V = w.drewN (1 + nq) ∧ w.heap.size = V.heap.size := ⟨_, rfl, rfl⟩
    rw [← hV, hz]
    have bV : Below w.heap.size w V := by rw [hV]; exact ⟨rfl, rfl, rfl, Nat.le_refl _, fun _ _ => rfl⟩
    have HB := hide bV
    clear hV hz bV
    go_wp2
    refine bodyPost_ret (v := .agg #[.string R.text, .int .i64 R.br, .int .i64 R.bn, .int .i64 (R.ch 0), .int .i64 (R.ch 1), .int .i64 (R.ch 2), .int .i64 (R.ch 3), .int .i64 (R.ch 4), .int .i64 (R.ch 5), .int .i64 (kn 0), .int .i64 (kn 1), .int .i64 (kn 2), .int .i64 (kn 3), .int .i64 (kn 4), .int .i64 (kn 5)]) (by simp [results, Tryz.results104, go_sem]) rfl ?_
    refine ⟨?_, (HB.out.alloc HB.out.size _).alloc (Nat.le_trans HB.out.size (by simp)) _⟩
    rw [HK.out]
    rfl

end Go.Proofs.YtaelaldmibgibaaGreatDoor
