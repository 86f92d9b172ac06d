/- The program's map of records: how a record reads, a look-up, recordOf. The program's map of records as a list of records by rising paths. -/
import Derived.Test.YtaelaldmibgibaaGreatRows
import Derived.WalkKit
import Derived.WalkSpells
import Derived.WalkLawsBesides
import Derived.Deep.AppendLies
import Derived.Deep.MidRow
import Derived.Deep.DrawnRows
import Derived.BigQuiet
import Derived.Deep.QuietTactic
import Derived.Deep.RegionWith
import Derived.Deep.RegionHeld3
import Derived.Test.YtaelaldmibgibaaGreatP02
import Derived.ChangeKeysEq
import Derived.Deep.RegionLaw
import Derived.Deep.DeepMust
import Derived.Maps.OwnSet
import Derived.Maps.OwnOps
import Derived.Test.YtaelaldmibgibaaGreatP01
import Derived.Test.YtaelaldmibgibaaGreatP03
import Derived.Test.YtaelaldmibgibaaGreatP18
import Derived.Test.YtaelaldmibgibaaGreatP04
import Derived.Test.YtaelaldmibgibaaGreatP19
import Derived.Test.YtaelaldmibgibaaGreatP22
import Derived.Test.YtaelaldmibgibaaGreatP20
import Derived.Test.YtaelaldmibgibaaGreatP23
import Derived.Test.YtaelaldmibgibaaGreatP24
import Derived.Test.YtaelaldmibgibaaGreatP25
import Derived.Maps.Range

set_option linter.unusedVariables false
set_option linter.unusedSimpArgs false
set_option linter.unusedSectionVars false

namespace Go.Proofs.YtaelaldmibgibaaGreat
open Go.RowKit Go.Maps

theorem lawS : Keyed Tryz.prog 9 := string_keyed Tryz.underlying9

/-- six integers as a time -/
def t6 (a0 a1 a2 a3 a4 a5 : Int) : Nat → Int
  | 0 => a0
  | 1 => a1
  | 2 => a2
  | 3 => a3
  | 4 => a4
  | _ => a5

abbrev di (n : Int) : DataW Unit := .lit (.int .i64 n)
/-- a record as it is read -/
def recDat (R : Rec) : DataW Unit :=
  .agg [.lit (.string R.text.data.toList), di R.br, di R.bn, di (R.ch 0), di (R.ch 1), di (R.ch 2), di (R.ch 3), di (R.ch 4), di (R.ch 5), di (R.kn 0), di (R.kn 1), di (R.kn 2), di (R.kn 3), di (R.kn 4), di (R.kn 5)]
/-- how an element of the map reads -/
def recElem (v : Value) : Option (DataW Unit × List MemPlace) :=
  match v with
  | .agg xs => (match xs.toList with
    | [.string t, .int .i64 x, .int .i64 y, .int .i64 a0, .int .i64 a1, .int .i64 a2, .int .i64 a3, .int .i64 a4, .int .i64 a5, .int .i64 b0, .int .i64 b1, .int .i64 b2, .int .i64 b3, .int .i64 b4, .int .i64 b5] =>
      some (recDat ⟨t, x, y, t6 a0 a1 a2 a3 a4 a5, t6 b0 b1 b2 b3 b4 b5⟩, [])
    | _ => none)
  | _ => none
theorem recElem_mk (R : Rec) : recElem (recVal R) = some (recDat R, []) := rfl
theorem recElem_inv {v : Value} {z : DataW Unit × List MemPlace} (h : recElem v = some z) : ∃ R : Rec, v = recVal R ∧ z = (recDat R, []) := by
  unfold recElem at h
  split at h
  · rename_i xs
    split at h
    · rename_i t x y a0 a1 a2 a3 a4 a5 b0 b1 b2 b3 b4 b5 e
      refine ⟨⟨t, x, y, t6 a0 a1 a2 a3 a4 a5, t6 b0 b1 b2 b3 b4 b5⟩, ?_, (Option.some.inj h).symm⟩
      obtain ⟨l⟩ := xs
      simp only at e
      rw [e]
      rfl
    · cases h
  · cases h

/-- the record of nothing -/
def rec0 : Rec := ⟨⟨#[]⟩, 0, 0, fun _ => 0, fun _ => 0⟩
theorem zeroRec (w : World) : (zeroValue 120).run Tryz.prog w = .ok (recVal rec0) w := by kernel_rfl

/-- 'rec, kept := r.records[path]': the record's cells written out -/
theorem wpList_lookup_rec (w : World) {ops : Array Oper} {rest : List Oper} {o : Oper} {a : Act} {Q : Exit → Act → World → Prop} (hg : o.guard = none) (m x : Operand) (t : TypeId) (hop : o.op = Op.lookup t m x true)
    (ht : Tryz.prog.underlying t = some (.map 9 120)) (b n : Nat) (D : DataW Unit)
    (hm : a.eval m = .map (some b)) (hown : w.ownsMap Tryz.prog 9 recElem b n D) (key : Value) (kl : Lit) (hx : a.eval x = key) (hkey : keyOf Tryz.prog 9 key = some kl) (kept : Bool) (hkept : Maps.has D kl = kept) (R : Rec) (hat : D.atKey kl (recDat rec0) = recDat R)
    (hK : wpList Tryz.prog ops Q rest (a.put o.dst (.tuple #[recVal R, .bool kept])) w) :
    wpList Tryz.prog ops Q (o :: rest) a w :=
  wpList_lookup_own_ok w hg m x t hop 9 120 lawS ht recElem (zeroRec w) (recDat rec0) [] (recElem_mk rec0) b n D hm hown key kl hx hkey (fun v ps hv => by
    obtain ⟨R', rfl, hR⟩ := recElem_inv hv
    have e := hat.symm.trans (congrArg Prod.fst hR)
    have : recVal R' = recVal R := by
      simp only [recDat, DataW.agg.injEq, List.cons.injEq, DataW.lit.injEq, Lit.string.injEq, Lit.int.injEq, true_and, and_true] at e
      obtain ⟨h0, h1, h2, h3, h4, h5, h6, h7, h8, h9, h10, h11, h12, h13, h14⟩ := e
      have h0' : R.text = R'.text := ByteArray.ext (Array.toList_inj.1 h0)
      simp only [recVal, h0', h1, h2, h3, h4, h5, h6, h7, h8, h9, h10, h11, h12, h13, h14]
    rw [this, hkept]
    exact hK)

end Go.Proofs.YtaelaldmibgibaaGreat

namespace Go.Proofs.YtaelaldmibgibaaGreat
open Go.RowKit Go.Maps

theorem before_less (x y : List UInt8) : bytesBefore x y = Op.bytesLess x y := by
  induction x generalizing y with
  | nil => cases y <;> rfl
  | cons a x ih =>
    cases y with
    | nil => rfl
    | cons b y => simp only [bytesBefore, Op.bytesLess, ih]

abbrev Recs := List (ByteArray × Rec)
def key (p : ByteArray) : Lit := .string p.data.toList
def ent (x : ByteArray × Rec) : Lit × DataW Unit := (key x.1, recDat x.2)
def datOf (E : Recs) : DataW Unit := .map (E.map ent)
def putE (p : ByteArray) (R : Rec) (E : Recs) : Recs := E.filter (fun x => slt x.1 p) ++ (p, R) :: E.filter (fun x => slt p x.1)
def delE (p : ByteArray) (E : Recs) : Recs := E.filter (fun x => slt x.1 p) ++ E.filter (fun x => slt p x.1)
def getE (p : ByteArray) (E : Recs) : Option Rec := (E.find? (fun x => seq x.1 p)).map (·.2)
def RisingE (E : Recs) : Prop := E.Pairwise (fun x y => slt x.1 y.1 = true)
def filesE (E : Recs) : Files := E.map (fun x => (x.1, x.2.text))

theorem before_key (p q : ByteArray) : (key p).before (key q) = slt p q := by
  unfold key slt
  simp only [Lit.before, before_less, ByteArray.toList_eq]
theorem same_key (p q : ByteArray) : (key p).sameKey (key q) = seq p q := by
  unfold key seq
  simp only [Lit.sameKey, ByteArray.toList_eq]
theorem key_inj {p q : ByteArray} (h : key p = key q) : p = q := by
  apply (seq_iff p q).1
  rw [← same_key, h, same_key]
  exact (seq_iff q q).2 rfl
theorem seq_false {p q : ByteArray} (h : p ≠ q) : seq p q = false := by
  cases e : seq p q with
  | false => rfl
  | true => exact absurd ((seq_iff p q).1 e) h

/-- the entries at another key than a path's -/
theorem others (p : ByteArray) (E : Recs) (h : RisingE E) : E.filter (fun x => !seq x.1 p) = delE p E := by
  unfold delE
  induction E with
  | nil => rfl
  | cons x E ih =>
    obtain ⟨h1, h2⟩ := List.pairwise_cons.1 h
    have ih := ih h2
    by_cases hlt : slt x.1 p = true
    · have e1 : seq x.1 p = false := seq_false (slt_ne hlt)
      have e2 := slt_asymm hlt
      simp [hlt, e1, e2, ih]
    · by_cases hgt : slt p x.1 = true
      · have e1 : seq x.1 p = false := seq_false (fun e => slt_ne hgt e.symm)
        have e0 : slt x.1 p = false := by simpa using hlt
        have el : E.filter (fun x => slt x.1 p) = [] := filter_none _ _ (fun y hy => slt_asymm (slt_trans hgt (h1 y hy)))
        simp [e0, hgt, e1, ih, el]
      · have e0 : slt x.1 p = false := by simpa using hlt
        have e2 : slt p x.1 = false := by simpa using hgt
        have e1 : seq x.1 p = true := (seq_iff _ _).2 (slt_tri e0 e2)
        simp [e0, e2, e1, ih]

theorem insert_app (k : Lit) (d : DataW Unit) (X Y : List (Lit × DataW Unit)) (hX : ∀ x ∈ X, k.before x.1 = false) (hY : ∀ y ∈ Y, k.before y.1 = true) : DataW.insert (k, d) (X ++ Y) = X ++ (k, d) :: Y := by
  induction X with
  | nil =>
    cases Y with
    | nil => rfl
    | cons y Y => simp only [List.nil_append, DataW.insert]; rw [if_pos (hY y (by simp))]
  | cons x X ih =>
    simp only [List.cons_append, DataW.insert]
    rw [if_neg (by rw [hX x (by simp)]; simp), ih (fun y hy => hX y (by simp [hy]))]

theorem filter_ent (p : ByteArray) (E : Recs) : (E.map ent).filter (fun q => !q.1.sameKey (key p)) = (E.filter (fun x => !seq x.1 p)).map ent := by
  rw [List.filter_map]
  congr 1
  apply List.filter_congr
  intro x _
  simp only [Function.comp, ent, same_key]

theorem datOf_del (p : ByteArray) (E : Recs) (h : RisingE E) : (datOf E).del (key p) = datOf (delE p E) := by
  unfold datOf
  simp only [DataW.del]
  rw [filter_ent, others p E h]
theorem datOf_put (p : ByteArray) (R : Rec) (E : Recs) (h : RisingE E) : (datOf E).put (key p) (recDat R) = datOf (putE p R E) := by
  unfold datOf
  simp only [DataW.put]
  rw [filter_ent, others p E h]
  unfold delE putE
  rw [List.map_append, insert_app _ _ _ _ ?_ ?_, List.map_append, List.map_cons]
  · rfl
  · intro x hx
    obtain ⟨y, hy, rfl⟩ := List.mem_map.1 hx
    have := (List.mem_filter.1 hy).2
    simp only [ent, before_key]
    exact slt_asymm this
  · intro x hx
    obtain ⟨y, hy, rfl⟩ := List.mem_map.1 hx
    have := (List.mem_filter.1 hy).2
    simp only [ent, before_key]
    exact this
theorem has_datOf (p : ByteArray) (E : Recs) : Maps.has (datOf E) (key p) = (getE p E).isSome := by
  unfold datOf getE
  simp only [Maps.has]
  induction E with
  | nil => rfl
  | cons x E ih =>
    simp only [List.map_cons, List.any_cons, ent, same_key, List.find?_cons]
    cases e : seq x.1 p with
    | true => simp
    | false => simpa [ent, same_key] using ih
theorem atKey_datOf (p : ByteArray) (E : Recs) (z : DataW Unit) : (datOf E).atKey (key p) z = match getE p E with | some R => recDat R | none => z := by
  unfold datOf getE
  simp only [DataW.atKey]
  induction E with
  | nil => rfl
  | cons x E ih =>
    simp only [List.map_cons, List.find?_cons, ent, same_key]
    cases e : seq x.1 p with
    | true => rfl
    | false => simpa [ent, same_key] using ih
theorem size_datOf (E : Recs) : Maps.size (datOf E) = E.length := by
  unfold datOf
  simp [Maps.size]

theorem rising_put (p : ByteArray) (R : Rec) (E : Recs) (h : RisingE E) : RisingE (putE p R E) := by
  unfold RisingE putE
  rw [List.pairwise_append]
  refine ⟨h.sublist List.filter_sublist, ?_, ?_⟩
  · rw [List.pairwise_cons]
    exact ⟨fun y hy => (List.mem_filter.1 hy).2, h.sublist List.filter_sublist⟩
  · intro x hx y hy
    have h1 := (List.mem_filter.1 hx).2
    rcases List.mem_cons.1 hy with rfl | hy
    · exact h1
    · exact slt_trans h1 (List.mem_filter.1 hy).2
theorem rising_del (p : ByteArray) (E : Recs) (h : RisingE E) : RisingE (delE p E) := by
  rw [← others p E h]; exact h.sublist List.filter_sublist
theorem mem_putE {p : ByteArray} {R : Rec} {E : Recs} {x : ByteArray × Rec} (h : x ∈ putE p R E) : x = (p, R) ∨ x ∈ E := by
  unfold putE at h
  rcases List.mem_append.1 h with h | h
  · exact .inr (List.mem_filter.1 h).1
  · rcases List.mem_cons.1 h with h | h
    · exact .inl h
    · exact .inr (List.mem_filter.1 h).1
theorem mem_delE {p : ByteArray} {E : Recs} {x : ByteArray × Rec} (h : x ∈ delE p E) : x ∈ E := by
  unfold delE at h
  rcases List.mem_append.1 h with h | h <;> exact (List.mem_filter.1 h).1
theorem mem_getE {p : ByteArray} {E : Recs} {R : Rec} (h : getE p E = some R) : (p, R) ∈ E := by
  unfold getE at h
  rw [Option.map_eq_some_iff] at h
  obtain ⟨x, hx, rfl⟩ := h
  have h1 := List.mem_of_find?_eq_some hx
  have h2 := List.find?_some hx
  have := (seq_iff _ _).1 h2
  rw [← this]
  exact h1

theorem files_put (p t : ByteArray) (R : Rec) (E : Recs) (h : R.text = t) : filesE (putE p R E) = put p t (filesE E) := by
  unfold filesE putE put
  rw [List.map_append, List.map_cons, List.filter_map, List.filter_map, h]
  rfl
theorem files_del (p : ByteArray) (E : Recs) : filesE (delE p E) = del p (filesE E) := by
  unfold filesE delE del
  rw [List.map_append, List.filter_map, List.filter_map]
  rfl
theorem files_get (p : ByteArray) (E : Recs) : get p (filesE E) = (getE p E).map (·.text) := by
  unfold filesE getE get
  rw [List.find?_map, Option.map_map, Option.map_map]
  rfl
theorem files_length (E : Recs) : (filesE E).length = E.length := by simp [filesE]
theorem files_rising (E : Recs) (h : RisingE E) : Rising (filesE E) := by
  unfold Rising filesE
  rw [List.pairwise_map]
  exact h

/-- as many as there are -/
theorem ownsMap_tight {w : World} {b n : Nat} {E : Recs} (h : w.ownsMap Tryz.prog 9 recElem b n (datOf E)) : w.ownsMap Tryz.prog 9 recElem b E.length (datOf E) := by
  obtain ⟨es, clock, hb, F, _, hD⟩ := h
  refine ⟨es, clock, hb, F, ?_, hD⟩
  have e := congrArg Maps.size hD
  rw [size_datOf] at e
  simp only [Maps.size, length_sorted, List.length_map] at e
  rw [e]
  simp

end Go.Proofs.YtaelaldmibgibaaGreat
