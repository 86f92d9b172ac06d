/- The program's map of records: how a record reads, a look-up,. -/
import Derived.Test.YtaelaldmibgibaaGreatDoorX10
import Derived.Test.YtaelaldmibgibaaGreatDoorX11

set_option linter.all false
set_option maxHeartbeats 800000
set_option maxRecDepth 100000

namespace Go.Proofs.K
open Go.RowKit Go.Maps
theorem lawS : Keyed Tryz.prog 9 := string_keyed Tryz.underlying9
def t6 (a0 a1 a2 a3 a4 a5 : Int) : Nat → Int
 |0 => a0
 |1 => a1
 |2 => a2
 |3 => a3
 |4 => a4
 |_ => a5
abbrev di (n : Int) : DataW Unit := .lit (.int .i64 n)
def yct (R : Rec) : DataW Unit :=
 .agg [.lit (.string R.text.data.toList), di R.br, di R.bn, di (R.ch 0), di (R.ch 1), di (R.ch 2), di (R.ch 3), di (R.ch 4), di (R.ch 5), di (R.kn 0), di (R.kn 1), di (R.kn 2), di (R.kn 3), di (R.kn 4), di (R.kn 5)]
def yar (v : Value) : Option (DataW Unit × List MemPlace) :=
 match v with
 |.agg xs => (match xs.toList with
  |[.string t, .int .i64 x, .int .i64 y, .int .i64 a0, .int .i64 a1, .int .i64 a2, .int .i64 a3, .int .i64 a4, .int .i64 a5, .int .i64 b0, .int .i64 b1, .int .i64 b2, .int .i64 b3, .int .i64 b4, .int .i64 b5] =>
   some (yct ⟨t, x, y, t6 a0 a1 a2 a3 a4 a5, t6 b0 b1 b2 b3 b4 b5⟩, [])
  |_ => none)
 |_ => none
theorem yhg (R : Rec) : yar (yad R) = some (yct R, []) := rfl
theorem ypy {v : Value} {z : DataW Unit × List MemPlace} (h : yar v = some z) : ∃ R : Rec, v = yad R ∧ z = (yct R, []) := by
 unfold yar at h
 split at h
 ·rename_i xs
  split at h
  ·rename_i t x y a0 a1 a2 a3 a4 a5 b0 b1 b2 b3 b4 b5 e
   refine ⟨⟨t, x, y, t6 a0 a1 a2 a3 a4 a5, t6 b0 b1 b2 b3 b4 b5⟩, ?_, (Option.some.inj h).symm⟩
   obtain ⟨l⟩ := xs
   simp only at e
   rw [e]
   rfl
  ·cases h
 ·cases h
def rec0 : Rec := ⟨⟨#[]⟩, 0, 0, fun _ => 0, fun _ => 0⟩
theorem zeroRec (w : World) : (zeroValue 197).run Tryz.prog w = .ok (yad rec0) w := by kernel_rfl
theorem yho (w : World) {ops : Array Oper} {rest : List Oper} {o : Oper} {a : Act} {Q : Exit → Act → World → Prop} (hg : o.guard = none) (m x : Operand) (t : TypeId) (hop : o.op = Op.lookup t m x true)
  (ht : Tryz.prog.underlying t = some (.map 9 197)) (b n : Nat) (D : DataW Unit)
  (hm : a.eval m = .map (some b)) (hown : w.ownsMap Tryz.prog 9 yar b n D) (key : Value) (kl : Lit) (hx : a.eval x = key) (hkey : keyOf Tryz.prog 9 key = some kl) (kept : Bool) (hkept : Maps.has D kl = kept) (R : Rec) (hat : D.atKey kl (yct rec0) = yct R)
  (hK : wpList Tryz.prog ops Q rest (a.put o.dst (.tuple #[yad R, .bool kept])) w) :
  wpList Tryz.prog ops Q (o :: rest) a w :=
 wpList_lookup_own_ok w hg m x t hop 9 197 lawS ht yar (zeroRec w) (yct rec0) [] (yhg rec0) b n D hm hown key kl hx hkey (fun v ps hv => by
  obtain ⟨R', rfl, hR⟩ := ypy hv
  have e := hat.symm.trans (congrArg Prod.fst hR)
  have : yad R' = yad R := by
   simp only [yct, DataW.agg.injEq, List.cons.injEq, DataW.lit.injEq, Lit.string.injEq, Lit.int.injEq, true_and, and_true] at e
   obtain ⟨h0, h1, h2, h3, h4, h5, h6, h7, h8, h9, h10, h11, h12, h13, h14⟩ := e
   have h0' : R.text = R'.text := ByteArray.ext (Array.toList_inj.1 h0)
   simp only [yad, h0', h1, h2, h3, h4, h5, h6, h7, h8, h9, h10, h11, h12, h13, h14]
  rw [this, hkept]
  exact hK)
theorem before_less (x y : List UInt8) : bytesBefore x y = Op.bytesLess x y := by
 induction x generalizing y with
 |nil => cases y <;> rfl
 |cons a x ih =>
  cases y with
  |nil => rfl
  |cons b y => simp only [bytesBefore, Op.bytesLess, ih]
abbrev yau := List (ByteArray × Rec)
variable {p : ByteArray} {R : Rec} {E : yau} {x : ByteArray × Rec}
def key (p : ByteArray) : Lit := .string p.data.toList
def ent (x : ByteArray × Rec) : Lit × DataW Unit := (key x.1, yct x.2)
def ycb (E : yau) : DataW Unit := .map (E.map ent)
def yoj (p : ByteArray) (R : Rec) (E : yau) : yau := E.filter (fun x => slt x.1 p) ++ (p, R) :: E.filter (fun x => slt p x.1)
def yyz (p : ByteArray) (E : yau) : yau := E.filter (fun x => slt x.1 p) ++ E.filter (fun x => slt p x.1)
def ybh (p : ByteArray) (E : yau) : Option Rec := (E.find? (fun x => seq x.1 p)).map (·.2)
def yav (E : yau) : Prop := E.Pairwise (fun x y => slt x.1 y.1 = true)
def filesE (E : yau) : Files := E.map (fun x => (x.1, x.2.text))
theorem yrt (p q : ByteArray) : (key p).before (key q) = slt p q := by
 unfold key slt
 simp only [Lit.before, before_less, ByteArray.toList_eq]
theorem yfi (p q : ByteArray) : (key p).sameKey (key q) = seq p q := by
 unfold key seq
 simp only [Lit.sameKey, ByteArray.toList_eq]
theorem yew {q : ByteArray} (h : p ≠ q) : seq p q = false := by
 cases e : seq p q with
 |false => rfl
 |true => exact absurd ((ydm p q).1 e) h
theorem others (p : ByteArray) (E : yau) (h : yav E) : E.filter (fun x => !seq x.1 p) = yyz p E := by
 unfold yyz
 induction E with
 |nil => rfl
 |cons x E ih =>
  obtain ⟨h1, h2⟩ := List.pairwise_cons.1 h
  have ih := ih h2
  by_cases hlt : slt x.1 p = true
  ·have e1 : seq x.1 p = false := yew (yjq hlt)
   have e2 := yjp hlt
   simp [hlt, e1, e2, ih]
  ·by_cases hgt : slt p x.1 = true
   ·have e1 : seq x.1 p = false := yew (fun e => yjq hgt e.symm)
    have e0 : slt x.1 p = false := by simpa using hlt
    have el : E.filter (fun x => slt x.1 p) = [] := yhu _ _ (fun y hy => yjp (ydx hgt (h1 y hy)))
    simp [e0, hgt, e1, ih, el]
   ·have e0 : slt x.1 p = false := by simpa using hlt
    have e2 : slt p x.1 = false := by simpa using hgt
    have e1 : seq x.1 p = true := (ydm _ _).2 (yqi e0 e2)
    simp [e0, e2, e1, ih]
theorem insert_app (k : Lit) (d : DataW Unit) (X Y : List (Lit × DataW Unit)) (hX : ∀ x ∈ X, k.before x.1 = false) (hY : ∀ y ∈ Y, k.before y.1 = true) : DataW.insert (k, d) (X ++ Y) = X ++ (k, d) :: Y := by
 induction X with
 |nil =>
  cases Y with
  |nil => rfl
  |cons y Y => simp only [List.nil_append, DataW.insert]; rw [if_pos (hY y (by simp))]
 |cons x X ih =>
  simp only [List.cons_append, DataW.insert]
  rw [if_neg (by rw [hX x (by simp)]; simp), ih (fun y hy => hX y (by simp [hy]))]
theorem ysd (p : ByteArray) (E : yau) : (E.map ent).filter (fun q => !q.1.sameKey (key p)) = (E.filter (fun x => !seq x.1 p)).map ent := by
 rw [List.filter_map]
 congr 1
 apply List.filter_congr
 intro x _
 simp only [Function.comp, ent, yfi]
theorem datOf_del (p : ByteArray) (E : yau) (h : yav E) : (ycb E).del (key p) = ycb (yyz p E) := by
 unfold ycb
 simp only [DataW.del]
 rw [ysd, others p E h]
theorem ywk (p : ByteArray) (R : Rec) (E : yau) (h : yav E) : (ycb E).put (key p) (yct R) = ycb (yoj p R E) := by
 unfold ycb
 simp only [DataW.put]
 rw [ysd, others p E h]
 unfold yyz yoj
 rw [List.map_append, insert_app _ _ _ _ ?_ ?_, List.map_append, List.map_cons]
 ·rfl
 ·intro x hx
  obtain ⟨y, hy, rfl⟩ := List.mem_map.1 hx
  have := (List.mem_filter.1 hy).2
  simp only [ent, yrt]
  exact yjp this
 ·intro x hx
  obtain ⟨y, hy, rfl⟩ := List.mem_map.1 hx
  have := (List.mem_filter.1 hy).2
  simp only [ent, yrt]
  exact this
theorem yjc (p : ByteArray) (E : yau) : Maps.has (ycb E) (key p) = (ybh p E).isSome := by
 unfold ycb ybh
 simp only [Maps.has]
 induction E with
 |nil => rfl
 |cons x E ih =>
  simp only [List.map_cons, List.any_cons, ent, yfi, List.find?_cons]
  cases e : seq x.1 p with
  |true => simp
  |false => simpa [ent, yfi] using ih
theorem yhq (p : ByteArray) (E : yau) (z : DataW Unit) : (ycb E).atKey (key p) z = match ybh p E with | some R => yct R | none => z := by
 unfold ycb ybh
 simp only [DataW.atKey]
 induction E with
 |nil => rfl
 |cons x E ih =>
  simp only [List.map_cons, List.find?_cons, ent, yfi]
  cases e : seq x.1 p with
  |true => rfl
  |false => simpa [ent, yfi] using ih
theorem ytb (E : yau) : Maps.size (ycb E) = E.length := by
 unfold ycb
 simp [Maps.size]
theorem ynb (p : ByteArray) (R : Rec) (E : yau) (h : yav E) : yav (yoj p R E) := by
 unfold yav yoj
 rw [List.pairwise_append]
 refine ⟨h.sublist List.filter_sublist, ?_, ?_⟩
 ·rw [List.pairwise_cons]
  exact ⟨fun y hy => (List.mem_filter.1 hy).2, h.sublist List.filter_sublist⟩
 ·intro x hx y hy
  have h1 := (List.mem_filter.1 hx).2
  rcases List.mem_cons.1 hy with rfl | hy
  ·exact h1
  ·exact ydx h1 (List.mem_filter.1 hy).2
theorem rising_del (p : ByteArray) (E : yau) (h : yav E) : yav (yyz p E) := by
 rw [← others p E h]; exact h.sublist List.filter_sublist
theorem mem_putE (h : x ∈ yoj p R E) : x = (p, R) ∨ x ∈ E := by
 unfold yoj at h
 rcases List.mem_append.1 h with h | h
 ·exact .inr (List.mem_filter.1 h).1
 ·rcases List.mem_cons.1 h with h | h
  ·exact .inl h
  ·exact .inr (List.mem_filter.1 h).1
theorem mem_delE (h : x ∈ yyz p E) : x ∈ E := by
 unfold yyz at h
 rcases List.mem_append.1 h with h | h <;> exact (List.mem_filter.1 h).1
theorem ylq (h : ybh p E = some R) : (p, R) ∈ E := by
 unfold ybh at h
 rw [Option.map_eq_some_iff] at h
 obtain ⟨x, hx, rfl⟩ := h
 have h1 := List.mem_of_find?_eq_some hx
 have h2 := List.find?_some hx
 have := (ydm _ _).1 h2
 rw [← this]
 exact h1
theorem yib {w : World} {b n : Nat} (h : w.ownsMap Tryz.prog 9 yar b n (ycb E)) : w.ownsMap Tryz.prog 9 yar b E.length (ycb E) := by
 obtain ⟨es, clock, hb, F, _, hD⟩ := h
 refine ⟨es, clock, hb, F, ?_, hD⟩
 have e := congrArg Maps.size hD
 rw [ytb] at e
 simp only [Maps.size, length_sorted, List.length_map] at e
 rw [e]
 simp
end Go.Proofs.K

namespace Go.Proofs.K
open Go.RowKit Go.Maps
def upT (t : Nat → Int) (s : Nat) (x : Int) : Nat → Int := fun j => if j = s then x else t j
structure yap (w : World) (b : Nat) (R : Rec) : Prop where
 blk : w.heap[b]? = some (.cells #[.string R.text, .int .i64 R.br, .int .i64 R.bn, .int .i64 (R.ch 0), .int .i64 (R.ch 1), .int .i64 (R.ch 2), .int .i64 (R.ch 3), .int .i64 (R.ch 4), .int .i64 (R.ch 5), .int .i64 (R.kn 0), .int .i64 (R.kn 1), .int .i64 (R.kn 2), .int .i64 (R.kn 3), .int .i64 (R.kn 4), .int .i64 (R.kn 5)] 197 (0, 0))
theorem yap.kn {w b R} (h : yap w b R) (j : Nat) (hj : j < 6) : w.cell? ⟨b, 9 + j, none⟩ = some (.int .i64 (R.kn j)) := by
 simp only [World.cell?, h.blk]
 match j, hj with
 |0, _ | 1, _ | 2, _ | 3, _ | 4, _ | 5, _ => rfl
theorem yap.fz {w b R} (h : yap w b R) (j : Nat) : w.frozen? ⟨b, j, none⟩ = false := by simp [World.frozen?, h.blk]
theorem look_end {w : World} {rb s : Nat} {cm : Nat → Int} {mb : Nat} (h : ybs w rb s cm mb) (R : Rec) :
  yap ((w.alloc (.cells #[.string ⟨#[]⟩, .int .i64 0, .int .i64 0, .int .i64 0, .int .i64 0, .int .i64 0, .int .i64 0, .int .i64 0, .int .i64 0, .int .i64 0, .int .i64 0, .int .i64 0, .int .i64 0, .int .i64 0, .int .i64 0] 197)).alloc (.cells #[.string R.text, .int .i64 R.br, .int .i64 R.bn, .int .i64 (R.ch 0), .int .i64 (R.ch 1), .int .i64 (R.ch 2), .int .i64 (R.ch 3), .int .i64 (R.ch 4), .int .i64 (R.ch 5), .int .i64 (R.kn 0), .int .i64 (R.kn 1), .int .i64 (R.kn 2), .int .i64 (R.kn 3), .int .i64 (R.kn 4), .int .i64 (R.kn 5)] 197)) (w.heap.size + 1) R ∧ ybs ((w.alloc (.cells #[.string ⟨#[]⟩, .int .i64 0, .int .i64 0, .int .i64 0, .int .i64 0, .int .i64 0, .int .i64 0, .int .i64 0, .int .i64 0, .int .i64 0, .int .i64 0, .int .i64 0, .int .i64 0, .int .i64 0, .int .i64 0] 197)).alloc (.cells #[.string R.text, .int .i64 R.br, .int .i64 R.bn, .int .i64 (R.ch 0), .int .i64 (R.ch 1), .int .i64 (R.ch 2), .int .i64 (R.ch 3), .int .i64 (R.ch 4), .int .i64 (R.ch 5), .int .i64 (R.kn 0), .int .i64 (R.kn 1), .int .i64 (R.kn 2), .int .i64 (R.kn 3), .int .i64 (R.kn 4), .int .i64 (R.kn 5)] 197)) rb s cm mb ∧ Below w.heap.size w ((w.alloc (.cells #[.string ⟨#[]⟩, .int .i64 0, .int .i64 0, .int .i64 0, .int .i64 0, .int .i64 0, .int .i64 0, .int .i64 0, .int .i64 0, .int .i64 0, .int .i64 0, .int .i64 0, .int .i64 0, .int .i64 0, .int .i64 0] 197)).alloc (.cells #[.string R.text, .int .i64 R.br, .int .i64 R.bn, .int .i64 (R.ch 0), .int .i64 (R.ch 1), .int .i64 (R.ch 2), .int .i64 (R.ch 3), .int .i64 (R.ch 4), .int .i64 (R.ch 5), .int .i64 (R.kn 0), .int .i64 (R.kn 1), .int .i64 (R.kn 2), .int .i64 (R.kn 3), .int .i64 (R.kn 4), .int .i64 (R.kn 5)] 197)) := by
 have hb : Below w.heap.size w ((w.alloc (.cells #[.string ⟨#[]⟩, .int .i64 0, .int .i64 0, .int .i64 0, .int .i64 0, .int .i64 0, .int .i64 0, .int .i64 0, .int .i64 0, .int .i64 0, .int .i64 0, .int .i64 0, .int .i64 0, .int .i64 0, .int .i64 0] 197)).alloc (.cells #[.string R.text, .int .i64 R.br, .int .i64 R.bn, .int .i64 (R.ch 0), .int .i64 (R.ch 1), .int .i64 (R.ch 2), .int .i64 (R.ch 3), .int .i64 (R.ch 4), .int .i64 (R.ch 5), .int .i64 (R.kn 0), .int .i64 (R.kn 1), .int .i64 (R.kn 2), .int .i64 (R.kn 3), .int .i64 (R.kn 4), .int .i64 (R.kn 5)] 197)) := ((Below.refl _ _).alloc (Nat.le_refl _) _).alloc (by simp) _
 refine ⟨⟨?_⟩, h.keep (hb.block rb h.lt), hb⟩
 have e : (w.alloc (.cells #[.string ⟨#[]⟩, .int .i64 0, .int .i64 0, .int .i64 0, .int .i64 0, .int .i64 0, .int .i64 0, .int .i64 0, .int .i64 0, .int .i64 0, .int .i64 0, .int .i64 0, .int .i64 0, .int .i64 0, .int .i64 0] 197)).heap.size = w.heap.size + 1 := by simp
 rw [← e]
 exact heap_alloc_new _ _
theorem rec_end (w : World) (R : Rec) (s : Nat) (hs : s < 6) (x : Int) (k : Nat) :
  (((w.alloc (.cells #[.string ⟨#[]⟩, .int .i64 0, .int .i64 0, .int .i64 0, .int .i64 0, .int .i64 0, .int .i64 0, .int .i64 0, .int .i64 0, .int .i64 0, .int .i64 0, .int .i64 0, .int .i64 0, .int .i64 0, .int .i64 0] 197)).alloc (.cells #[.string R.text, .int .i64 R.br, .int .i64 R.bn, .int .i64 (R.ch 0), .int .i64 (R.ch 1), .int .i64 (R.ch 2), .int .i64 (R.ch 3), .int .i64 (R.ch 4), .int .i64 (R.ch 5), .int .i64 (R.kn 0), .int .i64 (R.kn 1), .int .i64 (R.kn 2), .int .i64 (R.kn 3), .int .i64 (R.kn 4), .int .i64 (R.kn 5)] 197)).drewN k).setCell ⟨w.heap.size + 1, 9 + s, none⟩ (.int .i64 x) = ((w.drewN k).alloc (.cells #[.string ⟨#[]⟩, .int .i64 0, .int .i64 0, .int .i64 0, .int .i64 0, .int .i64 0, .int .i64 0, .int .i64 0, .int .i64 0, .int .i64 0, .int .i64 0, .int .i64 0, .int .i64 0, .int .i64 0, .int .i64 0] 197)).alloc (.cells #[.string R.text, .int .i64 R.br, .int .i64 R.bn, .int .i64 (R.ch 0), .int .i64 (R.ch 1), .int .i64 (R.ch 2), .int .i64 (R.ch 3), .int .i64 (R.ch 4), .int .i64 (R.ch 5), .int .i64 (upT R.kn s x 0), .int .i64 (upT R.kn s x 1), .int .i64 (upT R.kn s x 2), .int .i64 (upT R.kn s x 3), .int .i64 (upT R.kn s x 4), .int .i64 (upT R.kn s x 5)] 197) := by
 have e : ((w.alloc (.cells #[.string ⟨#[]⟩, .int .i64 0, .int .i64 0, .int .i64 0, .int .i64 0, .int .i64 0, .int .i64 0, .int .i64 0, .int .i64 0, .int .i64 0, .int .i64 0, .int .i64 0, .int .i64 0, .int .i64 0, .int .i64 0] 197)).alloc (.cells #[.string R.text, .int .i64 R.br, .int .i64 R.bn, .int .i64 (R.ch 0), .int .i64 (R.ch 1), .int .i64 (R.ch 2), .int .i64 (R.ch 3), .int .i64 (R.ch 4), .int .i64 (R.ch 5), .int .i64 (R.kn 0), .int .i64 (R.kn 1), .int .i64 (R.kn 2), .int .i64 (R.kn 3), .int .i64 (R.kn 4), .int .i64 (R.kn 5)] 197)).drewN k = ((w.drewN k).alloc (.cells #[.string ⟨#[]⟩, .int .i64 0, .int .i64 0, .int .i64 0, .int .i64 0, .int .i64 0, .int .i64 0, .int .i64 0, .int .i64 0, .int .i64 0, .int .i64 0, .int .i64 0, .int .i64 0, .int .i64 0, .int .i64 0] 197)).alloc (.cells #[.string R.text, .int .i64 R.br, .int .i64 R.bn, .int .i64 (R.ch 0), .int .i64 (R.ch 1), .int .i64 (R.ch 2), .int .i64 (R.ch 3), .int .i64 (R.ch 4), .int .i64 (R.ch 5), .int .i64 (R.kn 0), .int .i64 (R.kn 1), .int .i64 (R.kn 2), .int .i64 (R.kn 3), .int .i64 (R.kn 4), .int .i64 (R.kn 5)] 197) := rfl
 rw [e]
 rw [World.setCell_alloc_at _ _ _ _ _ (by simp [World.drewN])]
 match s, hs with
 |0, _ | 1, _ | 2, _ | 3, _ | 4, _ | 5, _ => simp [upT]
theorem yve (rb s : Nat) (cm : Nat → Int) (mb : Nat) (w : World) (h : ybs w rb s cm mb) (n : Nat) (D : DataW Unit) (hown : w.ownsMap Tryz.prog 9 yar mb n D) (p : ByteArray) (hp : p.size ≤ maxLen) (R : Rec)
  (hk : Maps.has D (.string p.data.toList) = true) (hat : D.atKey (.string p.data.toList) (yct rec0) = yct R) :
  Calls Tryz.prog 104 #[.pointer (some ⟨rb, 0, none⟩), .string p] w fun e w' => e = .returned (yad ⟨R.text, R.br, R.bn, R.ch, upT R.kn s (cm s)⟩) ∧ Below w.heap.size w w' := by
 have hkey := Go.WideMaps.keyOf_string_mk Tryz.underlying9 hp
 have c0 := h.c0
 have c7 := h.c7
 have hs := h.hs
 have hlt := h.lt
 have LE := yab (look_end h R)
 clear h
 go_enter Tryz.func104, Tryz.ntmps104
 go_wp2_with (first
  |(at_lookup; refine yho _ rfl _ _ _ rfl Tryz.underlying184 mb n D rfl (by first | exact hown | exact hown.alloc _) _ _ rfl hkey true hk R hat ?_; simp only [yad]))
 obtain ⟨W, hW⟩ : ∃ W, W = (w.alloc (.cells #[.string ⟨#[]⟩, .int .i64 0, .int .i64 0, .int .i64 0, .int .i64 0, .int .i64 0, .int .i64 0, .int .i64 0, .int .i64 0, .int .i64 0, .int .i64 0, .int .i64 0, .int .i64 0, .int .i64 0, .int .i64 0] 197)).alloc (.cells #[.string R.text, .int .i64 R.br, .int .i64 R.bn, .int .i64 (R.ch 0), .int .i64 (R.ch 1), .int .i64 (R.ch 2), .int .i64 (R.ch 3), .int .i64 (R.ch 4), .int .i64 (R.ch 5), .int .i64 (R.kn 0), .int .i64 (R.kn 1), .int .i64 (R.kn 2), .int .i64 (R.kn 3), .int .i64 (R.kn 4), .int .i64 (R.kn 5)] 197) := ⟨_, rfl⟩
 rw [← hW]
 have LW : Hid (yap W (w.heap.size + 1) R ∧ ybs W rb s cm mb ∧ Below w.heap.size w W) := by rw [hW]; exact LE
 have HW := yab hW
 clear hW LE hown hkey hk hat c0 c7
 have c0 := LW.out.2.1.c0
 have kq := LW.out.1.kn s hs
 have kf := LW.out.1.fz (9 + s)
 have hs1 : (0 : Int) ≤ (s : Int) := by omega
 have hs2 : (s : Int) < 6 := by omega
 have CN := yab (fun (V : World) (e0 : V.heap[rb]? = W.heap[rb]?) => ygx rb s cm mb V (LW.out.2.1.keep e0))
 go_region_law (first
  |(go_simp; go_at_call 168; refine (CN.out _ (by exact rfl)).mono ?_; rintro e w1 ⟨rfl, nq, rfl⟩; dsimp only))
 all_goals
  have e := HW.out
  subst e
  rw [rec_end w R s hs]
  clear HW LW c0 kq kf CN
  generalize hkn : upT R.kn s (cm s) = kn
  have HK := yab hkn
  clear hkn
  obtain ⟨V, hV, hz⟩ : ∃ V, V = w.drewN (1 + nq) ∧ w.heap.size = V.heap.size := ⟨_, rfl, rfl⟩
  rw [← hV, hz]
  have bV : Below w.heap.size w V := by rw [hV]; exact ⟨rfl, rfl, rfl, Nat.le_refl _, fun _ _ => rfl⟩
  have HB := yab bV
  clear hV hz bV
  go_wp2
  refine bodyPost_ret (v := .agg #[.string R.text, .int .i64 R.br, .int .i64 R.bn, .int .i64 (R.ch 0), .int .i64 (R.ch 1), .int .i64 (R.ch 2), .int .i64 (R.ch 3), .int .i64 (R.ch 4), .int .i64 (R.ch 5), .int .i64 (kn 0), .int .i64 (kn 1), .int .i64 (kn 2), .int .i64 (kn 3), .int .i64 (kn 4), .int .i64 (kn 5)]) (by simp [results, Tryz.results104, go_sem]) rfl ?_
  refine ⟨?_, (HB.out.alloc HB.out.size _).alloc (Nat.le_trans HB.out.size (by simp)) _⟩
  rw [HK.out]
  rfl
theorem upT_self (t : Nat → Int) (s : Nat) : upT t s (t s) = t := by
 funext j
 unfold upT
 split
 ·rename_i e; rw [e]
 ·rfl
theorem yxu (rb s : Nat) (cm : Nat → Int) (mb : Nat) (w : World) (h : ybs w rb s cm mb) (n : Nat) (D : DataW Unit) (hown : w.ownsMap Tryz.prog 9 yar mb n D) (p : ByteArray) (hp : p.size ≤ maxLen)
  (hk : Maps.has D (.string p.data.toList) = false) (hat : D.atKey (.string p.data.toList) (yct rec0) = yct rec0) :
  Calls Tryz.prog 104 #[.pointer (some ⟨rb, 0, none⟩), .string p] w fun e w' => e = .returned (yad ⟨⟨#[]⟩, 0, 0, fun _ => 0, cm⟩) ∧ Below w.heap.size w w' := by
 have hkey := Go.WideMaps.keyOf_string_mk Tryz.underlying9 hp
 have c0 := h.c0
 have c7 := h.c7
 have r1 := h.ct 0 (by omega)
 have r2 := h.ct 1 (by omega)
 have r3 := h.ct 2 (by omega)
 have r4 := h.ct 3 (by omega)
 have r5 := h.ct 4 (by omega)
 have r6 := h.ct 5 (by omega)
 simp only [Nat.reduceAdd] at r1 r2 r3 r4 r5 r6
 have hs := h.hs
 have hlt := h.lt
 have LE := yab (look_end h ⟨⟨#[]⟩, 0, 0, fun _ => 0, cm⟩)
 clear h
 go_enter Tryz.func104, Tryz.ntmps104
 go_wp2_with (first
  |(at_lookup; refine yho _ rfl _ _ _ rfl Tryz.underlying184 mb n D rfl (by first | exact hown | exact hown.alloc _) _ _ rfl hkey false hk rec0 hat ?_; simp only [yad, rec0]))
 obtain ⟨W, hW⟩ : ∃ W, W = (w.alloc (.cells #[.string ⟨#[]⟩, .int .i64 0, .int .i64 0, .int .i64 0, .int .i64 0, .int .i64 0, .int .i64 0, .int .i64 0, .int .i64 0, .int .i64 0, .int .i64 0, .int .i64 0, .int .i64 0, .int .i64 0, .int .i64 0] 197)).alloc (.cells #[.string ⟨#[]⟩, .int .i64 0, .int .i64 0, .int .i64 0, .int .i64 0, .int .i64 0, .int .i64 0, .int .i64 0, .int .i64 0, .int .i64 (cm 0), .int .i64 (cm 1), .int .i64 (cm 2), .int .i64 (cm 3), .int .i64 (cm 4), .int .i64 (cm 5)] 197) := ⟨_, rfl⟩
 rw [← hW]
 have LW : Hid (yap W (w.heap.size + 1) ⟨⟨#[]⟩, 0, 0, fun _ => 0, cm⟩ ∧ ybs W rb s cm mb ∧ Below w.heap.size w W) := by rw [hW]; exact LE
 have HW := yab hW
 clear hW LE hown hkey hk hat c0 c7 r1 r2 r3 r4 r5 r6
 have c0 := LW.out.2.1.c0
 have kq : W.cell? ⟨w.heap.size + 1, 9 + s, none⟩ = some (.int .i64 (cm s)) := LW.out.1.kn s hs
 have kf := LW.out.1.fz (9 + s)
 have hs1 : (0 : Int) ≤ (s : Int) := by omega
 have hs2 : (s : Int) < 6 := by omega
 have CN := yab (fun (V : World) (e0 : V.heap[rb]? = W.heap[rb]?) => ygx rb s cm mb V (LW.out.2.1.keep e0))
 go_region_law (first
  |(go_simp; go_at_call 168; refine (CN.out _ (by exact rfl)).mono ?_; rintro e w1 ⟨rfl, nq, rfl⟩; dsimp only))
 all_goals
  have e := HW.out
  subst e
  have RE := rec_end w ⟨⟨#[]⟩, 0, 0, fun _ => 0, cm⟩ s hs (cm s) (1 + nq)
  simp only at RE
  rw [RE]
  clear RE HW LW c0 kq kf CN
  generalize hkn : upT cm s (cm s) = kn
  have HK : Hid (kn = cm) := hkn.symm.trans (upT_self cm s)
  clear hkn
  obtain ⟨V, hV, hz⟩ : ∃ V, V = w.drewN (1 + nq) ∧ w.heap.size = V.heap.size := ⟨_, rfl, rfl⟩
  rw [← hV, hz]
  have bV : Below w.heap.size w V := by rw [hV]; exact ⟨rfl, rfl, rfl, Nat.le_refl _, fun _ _ => rfl⟩
  have HB := yab bV
  clear hV hz bV
  go_wp2
  refine bodyPost_ret (v := .agg #[.string ⟨#[]⟩, .int .i64 0, .int .i64 0, .int .i64 0, .int .i64 0, .int .i64 0, .int .i64 0, .int .i64 0, .int .i64 0, .int .i64 (kn 0), .int .i64 (kn 1), .int .i64 (kn 2), .int .i64 (kn 3), .int .i64 (kn 4), .int .i64 (kn 5)]) (by simp [results, Tryz.results104, go_sem]) rfl ?_
  refine ⟨?_, (HB.out.alloc HB.out.size _).alloc (Nat.le_trans HB.out.size (by simp)) _⟩
  rw [HK.out]
  rfl
variable {a w w' : World} {b mb n rb s : Nat} {cm : Nat → Int} {D : DataW Unit} {E : yau}
theorem Fr.turned {S : Nat → Prop} (h : Fr S a w) (ht : w.mapTurned w' b) (hb : S b ∨ a.heap.size ≤ b) : Fr S a w' := by
 obtain ⟨es, clock, es', clock', h0, rfl⟩ := ht
 refine ⟨h.os, h.tape, h.output, by simpa [ChangeMaps.setBlock] using h.size, fun k hk hs => ?_⟩
 rw [ChangeMaps.heap_setBlock_other h0 _ (by rintro rfl; rcases hb with hb | hb; exact hs hb; omega)]
 exact h.block k hk hs
theorem ylb {k : Nat} (ht : w.mapTurned w' b) (hk : k ≠ b) : w'.heap[k]? = w.heap[k]? := by
 obtain ⟨es, clock, es', clock', h0, rfl⟩ := ht
 exact ChangeMaps.heap_setBlock_other h0 _ hk
theorem Below.undrew (h : Below a.drew.heap.size a.drew w) : Below a.heap.size a w := ⟨h.os, h.tape, h.output, h.size, h.block⟩
def muM (t : TypeId) (m k v : Value) : Sem Unit := Instr.mapUpdate t m k v
theorem muEq (t : TypeId) (m k v : Value) : Instr.mapUpdate t m k v = muM t m k v := rfl
attribute [local go_sem ↓] muEq
structure Kp (w w1 : World) (rb s : Nat) (cm : Nat → Int) (mb : Nat) (E : yau) (R : Rec) : Prop where
 rc : yap w1 w.heap.size R
 rep : ybs w1 rb s cm mb
 own : w1.ownsMap Tryz.prog 9 yar mb E.length (ycb E)
 below : Below w.heap.size w w1
 size : w.heap.size < w1.heap.size
theorem ybs.ne (h : ybs w rb s cm mb) (ho : w.ownsMap Tryz.prog 9 yar mb n D) : rb ≠ mb := by
 obtain ⟨es, clock, hb, _⟩ := ho
 intro e
 have := h.blk
 rw [e, hb] at this
 cases this
theorem ybf (h : w.ownsMap Tryz.prog 9 yar mb n D) (hk : w'.heap[mb]? = w.heap[mb]?) : w'.ownsMap Tryz.prog 9 yar mb n D := by
 obtain ⟨es, clock, hb, r⟩ := h
 exact ⟨es, clock, by rw [hk]; exact hb, r⟩
theorem Kp.more {w1 w2 : World} {R : Rec} (h : Kp w w1 rb s cm mb E R) (hb : Below w1.heap.size w1 w2) : Kp w w2 rb s cm mb E R :=
 ⟨⟨by rw [hb.block _ h.size]; exact h.rc.blk⟩, h.rep.keep (hb.block _ h.rep.lt), ybf h.own (hb.block _ h.own.lt), h.below.trans (hb.mono h.below.size), Nat.lt_of_lt_of_le h.size hb.size⟩
theorem Kp.made (h : ybs w rb s cm mb) (ho : w.ownsMap Tryz.prog 9 yar mb E.length (ycb E)) (R : Rec) (k : Nat) :
  Kp w ((w.alloc (.cells #[.string R.text, .int .i64 R.br, .int .i64 R.bn, .int .i64 (R.ch 0), .int .i64 (R.ch 1), .int .i64 (R.ch 2), .int .i64 (R.ch 3), .int .i64 (R.ch 4), .int .i64 (R.ch 5), .int .i64 (R.kn 0), .int .i64 (R.kn 1), .int .i64 (R.kn 2), .int .i64 (R.kn 3), .int .i64 (R.kn 4), .int .i64 (R.kn 5)] 197)).drewN k) rb s cm mb E R := by
 refine ⟨⟨heap_alloc_new _ _⟩, h.keep (Below.heap_alloc _ _ _ h.lt), ybf ho (Below.heap_alloc _ _ _ ho.lt), ?_, ?_⟩
 ·have := (Below.refl w.heap.size w).alloc (Nat.le_refl _) (.cells #[.string R.text, .int .i64 R.br, .int .i64 R.bn, .int .i64 (R.ch 0), .int .i64 (R.ch 1), .int .i64 (R.ch 2), .int .i64 (R.ch 3), .int .i64 (R.ch 4), .int .i64 (R.ch 5), .int .i64 (R.kn 0), .int .i64 (R.kn 1), .int .i64 (R.kn 2), .int .i64 (R.kn 3), .int .i64 (R.kn 4), .int .i64 (R.kn 5)] 197)
  exact ⟨this.os, this.tape, this.output, this.size, this.block⟩
 ·show w.heap.size < (w.alloc _).heap.size
  simp
theorem yap.cells {w b R} (h : yap w b R) : w.cell? ⟨b, 0, none⟩ = some (.string R.text) ∧ w.cell? ⟨b, 1, none⟩ = some (.int .i64 R.br) ∧ w.cell? ⟨b, 2, none⟩ = some (.int .i64 R.bn) ∧ w.cell? ⟨b, 3, none⟩ = some (.int .i64 (R.ch 0)) ∧ w.cell? ⟨b, 4, none⟩ = some (.int .i64 (R.ch 1)) ∧ w.cell? ⟨b, 5, none⟩ = some (.int .i64 (R.ch 2)) ∧ w.cell? ⟨b, 6, none⟩ = some (.int .i64 (R.ch 3)) ∧ w.cell? ⟨b, 7, none⟩ = some (.int .i64 (R.ch 4)) ∧ w.cell? ⟨b, 8, none⟩ = some (.int .i64 (R.ch 5)) ∧ w.cell? ⟨b, 9, none⟩ = some (.int .i64 (R.kn 0)) ∧ w.cell? ⟨b, 10, none⟩ = some (.int .i64 (R.kn 1)) ∧ w.cell? ⟨b, 11, none⟩ = some (.int .i64 (R.kn 2)) ∧ w.cell? ⟨b, 12, none⟩ = some (.int .i64 (R.kn 3)) ∧ w.cell? ⟨b, 13, none⟩ = some (.int .i64 (R.kn 4)) ∧ w.cell? ⟨b, 14, none⟩ = some (.int .i64 (R.kn 5)) := by
 refine ⟨?_, ?_, ?_, ?_, ?_, ?_, ?_, ?_, ?_, ?_, ?_, ?_, ?_, ?_, ?_⟩ <;> (simp only [World.cell?, h.blk]; rfl)
theorem keep_in (rb s : Nat) (cm : Nat → Int) (mb : Nat) (w : World) (h : ybs w rb s cm mb) (E : yau) (hE : yav E) (hl : E.length < maxLen) (hown : w.ownsMap Tryz.prog 9 yar mb E.length (ycb E)) (p : ByteArray) (hp : p.size ≤ 1000000000000) (R : Rec) (hbn : 0 < R.bn) :
  Calls Tryz.prog 112 #[.pointer (some ⟨rb, 0, none⟩), .string p, .agg #[.string R.text, .int .i64 R.br, .int .i64 R.bn, .int .i64 (R.ch 0), .int .i64 (R.ch 1), .int .i64 (R.ch 2), .int .i64 (R.ch 3), .int .i64 (R.ch 4), .int .i64 (R.ch 5), .int .i64 (R.kn 0), .int .i64 (R.kn 1), .int .i64 (R.kn 2), .int .i64 (R.kn 3), .int .i64 (R.kn 4), .int .i64 (R.kn 5)]] w fun e w' => e = .returned (.tuple #[]) ∧ ybs w' rb s cm mb ∧ w'.ownsMap Tryz.prog 9 yar mb (yoj p R E).length (ycb (yoj p R E)) ∧ Fr (fun k => k = mb) w w' := by
 have hkey : keyOf Tryz.prog 9 (.string p) = some (key p) := Go.WideMaps.keyOf_string_mk Tryz.underlying9 (by unfold maxLen; omega)
 have KM := yab (fun k => Kp.made h hown R k)
 have hlt := h.lt
 have hne : rb ≠ w.heap.size := by omega
 have r1 := h.ct 0 (by omega)
 have r2 := h.ct 1 (by omega)
 have r3 := h.ct 2 (by omega)
 have r4 := h.ct 3 (by omega)
 have r5 := h.ct 4 (by omega)
 have r6 := h.ct 5 (by omega)
 simp only [Nat.reduceAdd] at r1 r2 r3 r4 r5 r6
 clear h hown
 go_enter Tryz.func112, Tryz.ntmps112
 go_wp2
 go_region_law (first
  |(go_simp; go_at_call 170; refine (ykl _ _ _ R.ch R.kn cm _ hbn).mono ?_; rintro e w1 ⟨rfl, hb1⟩; dsimp only))
 all_goals
  have K1 := yab ((KM.out 1).more hb1)
  clear hb1 KM r1 r2 r3 r4 r5 r6
  obtain ⟨k0, k1, k2, k3, k4, k5, k6, k7, k8, k9, k10, k11, k12, k13, k14⟩ := K1.out.rc.cells
  have c7 := K1.out.rep.c7
  go_wp2
  go_region_law (first
   |(go_simp; go_at_call 109; refine (yox p _ hp).mono ?_; rintro e w2 ⟨rfl, hb2⟩; have K2 := yab (K1.out.more (Below.undrew hb2)); clear hb2; obtain ⟨q0, q1, q2, q3, q4, q5, q6, q7, q8, q9, q10, q11, q12, q13, q14⟩ := K2.out.rc.cells; have c7' := K2.out.rep.c7; obtain ⟨w3, hrun, hown3, hturn⟩ := K2.out.own.store lawS Tryz.underlying184 hl hkey (yhg R); have hrun' : (muM 184 (.map (some mb)) (.string p) (.agg #[.string R.text, .int .i64 R.br, .int .i64 R.bn, .int .i64 (R.ch 0), .int .i64 (R.ch 1), .int .i64 (R.ch 2), .int .i64 (R.ch 3), .int .i64 (R.ch 4), .int .i64 (R.ch 5), .int .i64 (R.kn 0), .int .i64 (R.kn 1), .int .i64 (R.kn 2), .int .i64 (R.kn 3), .int .i64 (R.kn 4), .int .i64 (R.kn 5)])).run Tryz.prog w2 = .ok () w3 := hrun; have HO := yab hown3; have HT := yab hturn; clear hrun hown3 hturn; dsimp only))
 all_goals
  have ne := K2.out.rep.ne K2.out.own
  have F2 : Hid (Fr (fun k => k = mb) w w3) := (Fr.of_below K2.out.below).turned HT.out (.inl rfl)
  have R3 := yab (K2.out.rep.keep (ylb HT.out ne))
  have O3 := yab (yib (by have := HO.out; rw [ywk p R E hE] at this; exact this))
  go_wp2
  go_end0
  exact ⟨rfl, R3.out, O3.out, F2.out⟩
theorem keep_out (rb s : Nat) (cm : Nat → Int) (mb : Nat) (w : World) (h : ybs w rb s cm mb) (E : yau) (hE : yav E) (hown : w.ownsMap Tryz.prog 9 yar mb E.length (ycb E)) (p : ByteArray) (hp : p.size ≤ 1000000000000) (R : Rec) (hbn : R.bn = 0) (hkn : eqT R.kn cm = true) :
  Calls Tryz.prog 112 #[.pointer (some ⟨rb, 0, none⟩), .string p, .agg #[.string R.text, .int .i64 R.br, .int .i64 R.bn, .int .i64 (R.ch 0), .int .i64 (R.ch 1), .int .i64 (R.ch 2), .int .i64 (R.ch 3), .int .i64 (R.ch 4), .int .i64 (R.ch 5), .int .i64 (R.kn 0), .int .i64 (R.kn 1), .int .i64 (R.kn 2), .int .i64 (R.kn 3), .int .i64 (R.kn 4), .int .i64 (R.kn 5)]] w fun e w' => e = .returned (.tuple #[]) ∧ ybs w' rb s cm mb ∧ w'.ownsMap Tryz.prog 9 yar mb (yyz p E).length (ycb (yyz p E)) ∧ Fr (fun k => k = mb) w w' := by
 have hkey : keyOf Tryz.prog 9 (.string p) = some (key p) := Go.WideMaps.keyOf_string_mk Tryz.underlying9 (by unfold maxLen; omega)
 have KM := yab (fun k => Kp.made h hown R k)
 have hlt := h.lt
 have hne : rb ≠ w.heap.size := by omega
 have r1 := h.ct 0 (by omega)
 have r2 := h.ct 1 (by omega)
 have r3 := h.ct 2 (by omega)
 have r4 := h.ct 3 (by omega)
 have r5 := h.ct 4 (by omega)
 have r6 := h.ct 5 (by omega)
 simp only [Nat.reduceAdd] at r1 r2 r3 r4 r5 r6
 clear h hown
 have MK := yab (fun V => yhy R.text R.br R.bn R.ch R.kn cm V (by omega))
 rw [hkn] at MK
 clear hkn hbn
 go_enter Tryz.func112, Tryz.ntmps112
 go_wp2
 go_region_law (first
  |(go_simp; go_at_call 170; refine (MK.out _).mono ?_; rintro e w1 ⟨rfl, hb1⟩; dsimp only))
 all_goals
  have K1 := yab ((KM.out 1).more hb1)
  clear hb1 KM r1 r2 r3 r4 r5 r6
  have c7 := K1.out.rep.c7
  have O1 := K1.out.own
  go_wp2_with (at_delete; refine wpList_delete_own _ rfl _ _ 184 9 rfl 197 lawS Tryz.underlying184 _ mb E.length (ycb E) rfl O1 _ _ rfl hkey ?_; intro w3 hown3 hturn; have HO := yab hown3; have HT := yab hturn; clear hown3 hturn)
  have ne := K1.out.rep.ne K1.out.own
  have F2 : Hid (Fr (fun k => k = mb) w w3) := (Fr.of_below K1.out.below).turned HT.out (.inl rfl)
  have R3 := yab (K1.out.rep.keep (ylb HT.out ne))
  have O3 := yab (yib (by have := HO.out; rw [datOf_del p E hE] at this; exact this))
  go_wp2
  go_end0
  exact ⟨rfl, R3.out, O3.out, F2.out⟩
end Go.Proofs.K
