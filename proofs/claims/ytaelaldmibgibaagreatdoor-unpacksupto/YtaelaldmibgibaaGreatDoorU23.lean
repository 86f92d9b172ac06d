/- The program's map of records: how a record reads, a look-up, recordOf. The program's map of records as a list of records by rising paths. The program's lines of records, without memory. The program's files: how many records of the map are of files that are there. The program's List of a replica: the map's keys, sorted. -/
import Derived.Test.YtaelaldmibgibaaGreatDoorU22
import Derived.Maps.OwnSet
import Derived.Maps.OwnOps
import Derived.Maps.Range
import Derived.Maps.RangeWalk
import Derived.Sort.MapsRangeIn
import Derived.Test.YtaelaldmibgibaaGreatDoorShelf
import Derived.Sort.OwnSorted
import Derived.Test.YtaelaldmibgibaaGreatDoorU06

set_option linter.unusedVariables false
set_option linter.unusedSimpArgs false

namespace Go.Proofs.YtaelaldmibgibaaGreatDoor
open Go.RowKit Go.Maps

theorem lawS : Keyed Tryz.prog 9 := string_keyed Tryz.underlying9

/-- six integers as a time -/
def t6 (a0 a1 a2 a3 a4 a5 : Int) : Nat → Int
  | 0 => a0
  | 1 => a1
  | 2 => a2
  | 3 => a3
  | 4 => a4
  | _ => a5

abbrev di (n : Int) : DataW Unit := .lit (.int .i64 n)
/-- a record as it is read -/
def recDat (R : Rec) : DataW Unit :=
  .agg [.lit (.string R.text.data.toList), di R.br, di R.bn, di (R.ch 0), di (R.ch 1), di (R.ch 2), di (R.ch 3), di (R.ch 4), di (R.ch 5), di (R.kn 0), di (R.kn 1), di (R.kn 2), di (R.kn 3), di (R.kn 4), di (R.kn 5)]
/-- how an element of the map reads -/
def recElem (v : Value) : Option (DataW Unit × List MemPlace) :=
  match v with
  | .agg xs => (match xs.toList with
    | [.string t, .int .i64 x, .int .i64 y, .int .i64 a0, .int .i64 a1, .int .i64 a2, .int .i64 a3, .int .i64 a4, .int .i64 a5, .int .i64 b0, .int .i64 b1, .int .i64 b2, .int .i64 b3, .int .i64 b4, .int .i64 b5] =>
      some (recDat ⟨t, x, y, t6 a0 a1 a2 a3 a4 a5, t6 b0 b1 b2 b3 b4 b5⟩, [])
    | _ => none)
  | _ => none
theorem recElem_mk (R : Rec) : recElem (recVal R) = some (recDat R, []) := rfl
theorem recElem_inv {v : Value} {z : DataW Unit × List MemPlace} (h : recElem v = some z) : ∃ R : Rec, v = recVal R ∧ z = (recDat R, []) := by
  unfold recElem at h
  split at h
  · rename_i xs
    split at h
    · rename_i t x y a0 a1 a2 a3 a4 a5 b0 b1 b2 b3 b4 b5 e
      refine ⟨⟨t, x, y, t6 a0 a1 a2 a3 a4 a5, t6 b0 b1 b2 b3 b4 b5⟩, ?_, (Option.some.inj h).symm⟩
      obtain ⟨l⟩ := xs
      simp only at e
      rw [e]
      rfl
    · cases h
  · cases h

/-- the record of nothing -/
def rec0 : Rec := ⟨⟨#[]⟩, 0, 0, fun _ => 0, fun _ => 0⟩
theorem zeroRec (w : World) : (zeroValue 197).run Tryz.prog w = .ok (recVal rec0) w := by kernel_rfl

/-- 'rec, kept := r.records[path]': the record's cells written out -/
theorem wpList_lookup_rec (w : World) {ops : Array Oper} {rest : List Oper} {o : Oper} {a : Act} {Q : Exit → Act → World → Prop} (hg : o.guard = none) (m x : Operand) (t : TypeId) (hop : o.op = Op.lookup t m x true)
    (ht : Tryz.prog.underlying t = some (.map 9 197)) (b n : Nat) (D : DataW Unit)
    (hm : a.eval m = .map (some b)) (hown : w.ownsMap Tryz.prog 9 recElem b n D) (key : Value) (kl : Lit) (hx : a.eval x = key) (hkey : keyOf Tryz.prog 9 key = some kl) (kept : Bool) (hkept : Maps.has D kl = kept) (R : Rec) (hat : D.atKey kl (recDat rec0) = recDat R)
    (hK : wpList Tryz.prog ops Q rest (a.put o.dst (.tuple #[recVal R, .bool kept])) w) :
    wpList Tryz.prog ops Q (o :: rest) a w :=
  wpList_lookup_own_ok w hg m x t hop 9 197 lawS ht recElem (zeroRec w) (recDat rec0) [] (recElem_mk rec0) b n D hm hown key kl hx hkey (fun v ps hv => by
    obtain ⟨R', rfl, hR⟩ := recElem_inv hv
    have e := hat.symm.trans (congrArg Prod.fst hR)
    have : recVal R' = recVal R := by
      simp only [recDat, DataW.agg.injEq, List.cons.injEq, DataW.lit.injEq, Lit.string.injEq, Lit.int.injEq, true_and, and_true] at e
      obtain ⟨h0, h1, h2, h3, h4, h5, h6, h7, h8, h9, h10, h11, h12, h13, h14⟩ := e
      have h0' : R.text = R'.text := ByteArray.ext (Array.toList_inj.1 h0)
      simp only [recVal, h0', h1, h2, h3, h4, h5, h6, h7, h8, h9, h10, h11, h12, h13, h14]
    rw [this, hkept]
    exact hK)

end Go.Proofs.YtaelaldmibgibaaGreatDoor

namespace Go.Proofs.YtaelaldmibgibaaGreatDoor
open Go.RowKit Go.Maps

theorem before_less (x y : List UInt8) : bytesBefore x y = Op.bytesLess x y := by
  induction x generalizing y with
  | nil => cases y <;> rfl
  | cons a x ih =>
    cases y with
    | nil => rfl
    | cons b y => simp only [bytesBefore, Op.bytesLess, ih]

abbrev Recs := List (ByteArray × Rec)
def key (p : ByteArray) : Lit := .string p.data.toList
def ent (x : ByteArray × Rec) : Lit × DataW Unit := (key x.1, recDat x.2)
def datOf (E : Recs) : DataW Unit := .map (E.map ent)
def putE (p : ByteArray) (R : Rec) (E : Recs) : Recs := E.filter (fun x => slt x.1 p) ++ (p, R) :: E.filter (fun x => slt p x.1)
def delE (p : ByteArray) (E : Recs) : Recs := E.filter (fun x => slt x.1 p) ++ E.filter (fun x => slt p x.1)
def getE (p : ByteArray) (E : Recs) : Option Rec := (E.find? (fun x => seq x.1 p)).map (·.2)
def RisingE (E : Recs) : Prop := E.Pairwise (fun x y => slt x.1 y.1 = true)
def filesE (E : Recs) : Files := E.map (fun x => (x.1, x.2.text))

theorem before_key (p q : ByteArray) : (key p).before (key q) = slt p q := by
  unfold key slt
  simp only [Lit.before, before_less, ByteArray.toList_eq]
theorem same_key (p q : ByteArray) : (key p).sameKey (key q) = seq p q := by
  unfold key seq
  simp only [Lit.sameKey, ByteArray.toList_eq]
theorem key_inj {p q : ByteArray} (h : key p = key q) : p = q := by
  apply (seq_iff p q).1
  rw [← same_key, h, same_key]
  exact (seq_iff q q).2 rfl
theorem seq_false {p q : ByteArray} (h : p ≠ q) : seq p q = false := by
  cases e : seq p q with
  | false => rfl
  | true => exact absurd ((seq_iff p q).1 e) h

/-- the entries at another key than a path's -/
theorem others (p : ByteArray) (E : Recs) (h : RisingE E) : E.filter (fun x => !seq x.1 p) = delE p E := by
  unfold delE
  induction E with
  | nil => rfl
  | cons x E ih =>
    obtain ⟨h1, h2⟩ := List.pairwise_cons.1 h
    have ih := ih h2
    by_cases hlt : slt x.1 p = true
    · have e1 : seq x.1 p = false := seq_false (slt_ne hlt)
      have e2 := slt_asymm hlt
      simp [hlt, e1, e2, ih]
    · by_cases hgt : slt p x.1 = true
      · have e1 : seq x.1 p = false := seq_false (fun e => slt_ne hgt e.symm)
        have e0 : slt x.1 p = false := by simpa using hlt
        have el : E.filter (fun x => slt x.1 p) = [] := filter_none _ _ (fun y hy => slt_asymm (slt_trans hgt (h1 y hy)))
        simp [e0, hgt, e1, ih, el]
      · have e0 : slt x.1 p = false := by simpa using hlt
        have e2 : slt p x.1 = false := by simpa using hgt
        have e1 : seq x.1 p = true := (seq_iff _ _).2 (slt_tri e0 e2)
        simp [e0, e2, e1, ih]

theorem insert_app (k : Lit) (d : DataW Unit) (X Y : List (Lit × DataW Unit)) (hX : ∀ x ∈ X, k.before x.1 = false) (hY : ∀ y ∈ Y, k.before y.1 = true) : DataW.insert (k, d) (X ++ Y) = X ++ (k, d) :: Y := by
  induction X with
  | nil =>
    cases Y with
    | nil => rfl
    | cons y Y => simp only [List.nil_append, DataW.insert]; rw [if_pos (hY y (by simp))]
  | cons x X ih =>
    simp only [List.cons_append, DataW.insert]
    rw [if_neg (by rw [hX x (by simp)]; simp), ih (fun y hy => hX y (by simp [hy]))]

theorem filter_ent (p : ByteArray) (E : Recs) : (E.map ent).filter (fun q => !q.1.sameKey (key p)) = (E.filter (fun x => !seq x.1 p)).map ent := by
  rw [List.filter_map]
  congr 1
  apply List.filter_congr
  intro x _
  simp only [Function.comp, ent, same_key]

theorem datOf_del (p : ByteArray) (E : Recs) (h : RisingE E) : (datOf E).del (key p) = datOf (delE p E) := by
  unfold datOf
  simp only [DataW.del]
  rw [filter_ent, others p E h]
theorem datOf_put (p : ByteArray) (R : Rec) (E : Recs) (h : RisingE E) : (datOf E).put (key p) (recDat R) = datOf (putE p R E) := by
  unfold datOf
  simp only [DataW.put]
  rw [filter_ent, others p E h]
  unfold delE putE
  rw [List.map_append, insert_app _ _ _ _ ?_ ?_, List.map_append, List.map_cons]
  · rfl
  · intro x hx
    obtain ⟨y, hy, rfl⟩ := List.mem_map.1 hx
    have := (List.mem_filter.1 hy).2
    simp only [ent, before_key]
    exact slt_asymm this
  · intro x hx
    obtain ⟨y, hy, rfl⟩ := List.mem_map.1 hx
    have := (List.mem_filter.1 hy).2
    simp only [ent, before_key]
    exact this
theorem has_datOf (p : ByteArray) (E : Recs) : Maps.has (datOf E) (key p) = (getE p E).isSome := by
  unfold datOf getE
  simp only [Maps.has]
  induction E with
  | nil => rfl
  | cons x E ih =>
    simp only [List.map_cons, List.any_cons, ent, same_key, List.find?_cons]
    cases e : seq x.1 p with
    | true => simp
    | false => simpa [ent, same_key] using ih
theorem atKey_datOf (p : ByteArray) (E : Recs) (z : DataW Unit) : (datOf E).atKey (key p) z = match getE p E with | some R => recDat R | none => z := by
  unfold datOf getE
  simp only [DataW.atKey]
  induction E with
  | nil => rfl
  | cons x E ih =>
    simp only [List.map_cons, List.find?_cons, ent, same_key]
    cases e : seq x.1 p with
    | true => rfl
    | false => simpa [ent, same_key] using ih
theorem size_datOf (E : Recs) : Maps.size (datOf E) = E.length := by
  unfold datOf
  simp [Maps.size]

theorem rising_put (p : ByteArray) (R : Rec) (E : Recs) (h : RisingE E) : RisingE (putE p R E) := by
  unfold RisingE putE
  rw [List.pairwise_append]
  refine ⟨h.sublist List.filter_sublist, ?_, ?_⟩
  · rw [List.pairwise_cons]
    exact ⟨fun y hy => (List.mem_filter.1 hy).2, h.sublist List.filter_sublist⟩
  · intro x hx y hy
    have h1 := (List.mem_filter.1 hx).2
    rcases List.mem_cons.1 hy with rfl | hy
    · exact h1
    · exact slt_trans h1 (List.mem_filter.1 hy).2
theorem rising_del (p : ByteArray) (E : Recs) (h : RisingE E) : RisingE (delE p E) := by
  rw [← others p E h]; exact h.sublist List.filter_sublist
theorem mem_putE {p : ByteArray} {R : Rec} {E : Recs} {x : ByteArray × Rec} (h : x ∈ putE p R E) : x = (p, R) ∨ x ∈ E := by
  unfold putE at h
  rcases List.mem_append.1 h with h | h
  · exact .inr (List.mem_filter.1 h).1
  · rcases List.mem_cons.1 h with h | h
    · exact .inl h
    · exact .inr (List.mem_filter.1 h).1
theorem mem_delE {p : ByteArray} {E : Recs} {x : ByteArray × Rec} (h : x ∈ delE p E) : x ∈ E := by
  unfold delE at h
  rcases List.mem_append.1 h with h | h <;> exact (List.mem_filter.1 h).1
theorem mem_getE {p : ByteArray} {E : Recs} {R : Rec} (h : getE p E = some R) : (p, R) ∈ E := by
  unfold getE at h
  rw [Option.map_eq_some_iff] at h
  obtain ⟨x, hx, rfl⟩ := h
  have h1 := List.mem_of_find?_eq_some hx
  have h2 := List.find?_some hx
  have := (seq_iff _ _).1 h2
  rw [← this]
  exact h1

theorem files_put (p t : ByteArray) (R : Rec) (E : Recs) (h : R.text = t) : filesE (putE p R E) = put p t (filesE E) := by
  unfold filesE putE put
  rw [List.map_append, List.map_cons, List.filter_map, List.filter_map, h]
  rfl
theorem files_del (p : ByteArray) (E : Recs) : filesE (delE p E) = del p (filesE E) := by
  unfold filesE delE del
  rw [List.map_append, List.filter_map, List.filter_map]
  rfl
theorem files_get (p : ByteArray) (E : Recs) : get p (filesE E) = (getE p E).map (·.text) := by
  unfold filesE getE get
  rw [List.find?_map, Option.map_map, Option.map_map]
  rfl
theorem files_length (E : Recs) : (filesE E).length = E.length := by simp [filesE]
theorem files_rising (E : Recs) (h : RisingE E) : Rising (filesE E) := by
  unfold Rising filesE
  rw [List.pairwise_map]
  exact h

/-- as many as there are -/
theorem ownsMap_tight {w : World} {b n : Nat} {E : Recs} (h : w.ownsMap Tryz.prog 9 recElem b n (datOf E)) : w.ownsMap Tryz.prog 9 recElem b E.length (datOf E) := by
  obtain ⟨es, clock, hb, F, _, hD⟩ := h
  refine ⟨es, clock, hb, F, ?_, hD⟩
  have e := congrArg Maps.size hD
  rw [size_datOf] at e
  simp only [Maps.size, length_sorted, List.length_map] at e
  rw [e]
  simp

end Go.Proofs.YtaelaldmibgibaaGreatDoor

namespace Go.Proofs.YtaelaldmibgibaaGreatDoor
open Go.RowKit Go.Lib

theorem pieces_len (c : UInt8) : ∀ (k : Nat) (s : Bs), (splitK [c] 0 k s).length = min (k + 1) (s.count c + 1)
  | 0, s => by simp [splitK]
  | k + 1, s => by
    rcases idx_one c s with ⟨_, q⟩ | ⟨a, b, h1, h2, _⟩
    · rw [pieces_miss c _ s q, List.count_eq_zero_of_not_mem q]
      simp
    · rw [h1, pieces_hit c k a b h2, List.length_cons, pieces_len c k b, List.count_append, List.count_eq_zero_of_not_mem h2, List.count_cons_self]
      omega
theorem fields_join (t : Bs) : sepBy 32 (fieldsR t) = lineR t := pieces_join 32 _ _
theorem fields_of (ps : List Bs) (h0 : ps ≠ []) (h6 : ps.length ≤ 6) (h : ∀ p ∈ ps, (32 : UInt8) ∉ p) : splitN (sepBy 32 ps) [32] 6 = ps := by
  unfold splitN
  have := sepBy_len 32 ps
  have h1 : 0 < ps.length := List.length_pos_iff.2 h0
  exact pieces_of 32 ps _ h0 h (by omega)
/-- a text's first line, and what is behind it -/
theorem line_cases (t : Bs) : (lineR t = t ∧ restR t = [] ∧ (10 : UInt8) ∉ t) ∨ (t = lineR t ++ 10 :: restR t ∧ (10 : UInt8) ∉ lineR t) := by
  unfold lineR restR
  rcases idx_one 10 t with ⟨_, q⟩ | ⟨a, b, h1, h2, _⟩
  · rw [cut_miss 10 t q]
    exact .inl ⟨rfl, rfl, q⟩
  · rw [h1, cut_hit 10 a b h2]
    exact .inr ⟨rfl, h2⟩
theorem line_of (a b : Bs) (h : (10 : UInt8) ∉ a) : lineR (a ++ 10 :: b) = a ∧ restR (a ++ 10 :: b) = b := by
  unfold lineR restR
  rw [cut_hit 10 a b h]
  exact ⟨rfl, rfl⟩
theorem takeWhile_no (a : Bs) (h : (10 : UInt8) ∉ a) : a.takeWhile (fun c => c != 10) = a := by
  have := List.takeWhile_append_of_pos (p := fun c : UInt8 => c != 10) (l₁ := a) (l₂ := []) (fun c hc => by simp only [bne_iff_ne, ne_eq]; rintro rfl; exact h hc)
  simpa using this
theorem blanks_line (t : Bs) : blanks t = (lineR t).count 32 := by
  unfold blanks
  rcases line_cases t with ⟨h1, _, h3⟩ | ⟨h1, h2⟩
  · rw [h1, takeWhile_no t h3]
  · generalize lineR t = a at *
    rw [h1, List.takeWhile_append_of_pos (fun c hc => by simp only [bne_iff_ne, ne_eq]; rintro rfl; exact h2 hc)]
    simp
theorem fields_len (t : Bs) : (fieldsR t).length = min 6 (blanks t + 1) := by
  unfold fieldsR splitN
  rw [pieces_len, blanks_line]
  have := List.count_le_length (a := (32 : UInt8)) (l := lineR t)
  omega

/-- a text of whole lines -/
def nlEnd (t : Bs) : Prop := t = [] ∨ ∃ a, t = a ++ [10]
theorem nl_line {t : Bs} (h : nlEnd t) (h0 : t ≠ []) : t = lineR t ++ 10 :: restR t ∧ (10 : UInt8) ∉ lineR t := by
  rcases line_cases t with ⟨_, _, h3⟩ | q
  · rcases h with h | ⟨a, h⟩
    · exact absurd h h0
    · exact absurd (by rw [h]; simp) h3
  · exact q
theorem nl_drop {a b : Bs} (h : nlEnd (a ++ b)) : nlEnd b := by
  rcases List.eq_nil_or_concat b with rfl | ⟨b', x, rfl⟩
  · exact .inl rfl
  · refine .inr ⟨b', ?_⟩
    rcases h with h | ⟨c, h⟩
    · simp at h
    · rw [List.concat_eq_append, ← List.append_assoc] at h
      have := List.append_inj_right' h rfl
      rw [List.concat_eq_append, this]
theorem nl_rest {t : Bs} (h : nlEnd t) : nlEnd (restR t) := by
  rcases line_cases t with ⟨_, h2, _⟩ | ⟨q, _⟩
  · exact .inl h2
  · rw [q] at h
    exact nl_drop (a := lineR t ++ [10]) (by simpa using h)

/-- the fields behind a path -/
def DS.flds (d : DS) : List Bs := timeT d.known :: (if d.there = true then [decDigits d.by_ ++ 58 :: decDigits d.num, timeT d.chg, 61 :: hexT d.text] else [[45]])
/-- a file's birth is one of its changes -/
def DS.born (d : DS) : Prop := d.there = true → 1 ≤ d.num ∧ d.num ≤ d.chg.getD d.by_ 0
theorem flds_T (p : Bs) (d : DS) : p ++ d.T = sepBy 32 (p :: d.flds) ++ [10] := by
  unfold DS.flds DS.T
  cases d.there with
  | true => simp [sepBy, DS.tail]
  | false => simp [sepBy]
theorem hexT_mem (t : Bs) (c : UInt8) (h : c ∈ hexT t) : c.toNat ≠ 10 ∧ c.toNat ≠ 32 := by
  unfold hexT at h
  rw [List.mem_flatten] at h
  obtain ⟨l, hl, hc⟩ := h
  obtain ⟨x, _, rfl⟩ := List.mem_map.1 hl
  have hx := x.toNat_lt
  simp only [List.mem_cons, List.not_mem_nil, or_false] at hc
  rcases hc with rfl | rfl
  · exact hexd_ne ⟨x.toNat / 16, by omega⟩
  · exact hexd_ne ⟨x.toNat % 16, by omega⟩
theorem timeT_no (l : List Nat) : (10 : UInt8) ∉ timeT l ∧ (32 : UInt8) ∉ timeT l := by
  constructor
  · intro h
    rcases timeT_mem l _ h with e | e
    · exact absurd e (by decide)
    · exact absurd e (by decide)
  · intro h
    rcases timeT_mem l _ h with e | e
    · exact absurd e (by decide)
    · exact absurd e (by decide)
theorem flds_no (d : DS) : ∀ p ∈ d.flds, (10 : UInt8) ∉ p ∧ (32 : UInt8) ∉ p := by
  intro p hp
  unfold DS.flds at hp
  rcases List.mem_cons.1 hp with rfl | hp
  · exact timeT_no _
  · split at hp
    · simp only [List.mem_cons, List.not_mem_nil, or_false] at hp
      rcases hp with rfl | rfl | rfl
      · constructor
        · intro h
          rcases List.mem_append.1 h with h | h
          · exact dig_no _ 10 (by decide) h
          · rcases List.mem_cons.1 h with h | h
            · exact absurd h (by decide)
            · exact dig_no _ 10 (by decide) h
        · intro h
          rcases List.mem_append.1 h with h | h
          · exact dig_no _ 32 (by decide) h
          · rcases List.mem_cons.1 h with h | h
            · exact absurd h (by decide)
            · exact dig_no _ 32 (by decide) h
      · exact timeT_no _
      · constructor
        · intro h
          rcases List.mem_cons.1 h with h | h
          · exact absurd h (by decide)
          · exact (hexT_mem _ _ h).1 rfl
        · intro h
          rcases List.mem_cons.1 h with h | h
          · exact absurd h (by decide)
          · exact (hexT_mem _ _ h).2 rfl
    · simp only [List.mem_cons, List.not_mem_nil, or_false] at hp
      rw [hp]
      decide
theorem sepBy_no (c x : UInt8) (hx : x ≠ c) : ∀ ps : List Bs, (∀ p ∈ ps, x ∉ p) → x ∉ sepBy c ps := by
  intro ps h q
  cases ps with
  | nil => simp [sepBy] at q
  | cons p ps =>
    unfold sepBy at q
    rcases List.mem_append.1 q with q | q
    · exact h p (by simp) q
    · rw [List.mem_flatten] at q
      obtain ⟨l, hl, hc⟩ := q
      obtain ⟨y, hy, rfl⟩ := List.mem_map.1 hl
      rcases List.mem_cons.1 hc with hc | hc
      · exact hx hc
      · exact h y (by simp [hy]) hc
theorem flds_len (d : DS) : 2 ≤ d.flds.length ∧ d.flds.length ≤ 4 := by
  unfold DS.flds
  split <;> simp

/-- the record that the fields behind a path tell -/
def dsOf (n : Nat) (k : List Nat) : Option FileR → DS
  | none => ⟨k, false, 0, 0, List.replicate n 0, []⟩
  | some f => ⟨k, true, f.br, f.bn, f.ch, f.text⟩
def recR (n : Nat) : List Bs → Option DS
  | [] => none
  | a :: fs => (timeR n a).bind fun k => (fileR n fs).bind fun f => some (dsOf n k f)
theorem recR_iff (n : Nat) (hn : 1 ≤ n) (h6 : n ≤ 6) (fs : List Bs) (d : DS) : recR n fs = some d ↔ d.ok n ∧ d.born ∧ fs = d.flds := by
  constructor
  · intro h
    cases fs with
    | nil => cases h
    | cons a fs =>
      unfold recR at h
      obtain ⟨k, h1, h⟩ := Option.bind_eq_some_iff.1 h
      obtain ⟨f, h2, h⟩ := Option.bind_eq_some_iff.1 h
      obtain ⟨a1, a2, rfl⟩ := (timeR_iff n hn a k).1 h1
      cases f with
      | none =>
        cases h
        have e := (fileR_none n fs).1 h2
        refine ⟨⟨a1, a2, fun q => absurd (show false = true from q) (by decide), fun _ => ⟨rfl, rfl, rfl, rfl⟩⟩, fun q => absurd (show false = true from q) (by decide), ?_⟩
        rw [e]
        rfl
      | some f =>
        cases h
        obtain ⟨b1, b2, b3, b4, b5, b6, b7, e⟩ := (fileR_some n hn h6 fs f).1 h2
        refine ⟨⟨a1, a2, fun _ => ⟨b1, b3, b4, b5, b6⟩, fun q => absurd (show true = false from q) (by decide)⟩, fun _ => ⟨b2, b7⟩, ?_⟩
        rw [e]
        rfl
  · rintro ⟨h1, h2, rfl⟩
    obtain ⟨kn, th, by_, num, chg, text⟩ := d
    have ht := (timeR_iff n hn (timeT kn) kn).2 ⟨h1.kl, h1.kb, rfl⟩
    cases th with
    | true =>
      have hf := (fileR_some n hn h6 [decDigits by_ ++ 58 :: decDigits num, timeT chg, 61 :: hexT text] ⟨text, by_, num, chg⟩).2
        ⟨(h1.yes rfl).1, (h2 rfl).1, (h1.yes rfl).2.1, (h1.yes rfl).2.2.1, (h1.yes rfl).2.2.2.1, (h1.yes rfl).2.2.2.2, (h2 rfl).2, rfl⟩
      show ((timeR n (timeT kn)).bind fun k => (fileR n [decDigits by_ ++ 58 :: decDigits num, timeT chg, 61 :: hexT text]).bind fun f => some (dsOf n k f)) = _
      rw [ht, hf]
      rfl
    | false =>
      have hf := (fileR_none n [[45]]).2 rfl
      obtain ⟨e1, e2, e3, e4⟩ := h1.none rfl
      simp only at e1 e2 e3 e4
      subst e1 e2 e3 e4
      show ((timeR n (timeT kn)).bind fun k => (fileR n [[45]]).bind fun f => some (dsOf n k f)) = _
      rw [ht, hf]
      rfl

/-- a record as the program has it -/
def toRec (d : DS) : Rec := ⟨ofBs d.text, d.by_, d.num, lfn d.chg, lfn d.known⟩
def toE (D : Drs) : Recs := D.map (fun y => (y.1, toRec y.2))
/-- may the record stand in a replica -/
def couldB (s : Nat) (cm : Nat → Int) (R : Rec) : Bool := decide (R.kn s = cm s) && (eqT (gboth R.ch R.kn) R.kn && (decide (0 < R.bn) || !eqT R.kn cm))
/-- the records that a text begins with: the text behind them, and they -/
def recsR (n s : Nat) (cm : Nat → Int) : Nat → Bs → ByteArray → Option (Bs × Drs)
  | 0, _, _ => none
  | f + 1, t, last => if (fieldsR t).length < 3 then some (t, []) else
      (recR n (fieldsR t).tail).bind fun d => if (pathOk (ofBs ((fieldsR t).headD [])) && slt last (ofBs ((fieldsR t).headD [])) && couldB s cm (toRec d)) = true then
        (recsR n s cm f (restR t) (ofBs ((fieldsR t).headD []))).map fun x => (x.1, (ofBs ((fieldsR t).headD []), d) :: x.2) else none
theorem flds_line (p : ByteArray) (hp : pathOk p = true) (d : DS) (R : Bs) : lineR (bs p ++ (d.T ++ R)) = sepBy 32 (bs p :: d.flds) ∧ restR (bs p ++ (d.T ++ R)) = R ∧ fieldsR (bs p ++ (d.T ++ R)) = bs p :: d.flds := by
  have hpl := path_plain p hp
  have p10 : (10 : UInt8) ∉ bs p := fun h => by have := hpl.1 _ h; simp at this
  have p32 : (32 : UInt8) ∉ bs p := fun h => by have := List.count_pos_iff.2 h; omega
  have hno : ∀ q ∈ bs p :: d.flds, (10 : UInt8) ∉ q ∧ (32 : UInt8) ∉ q := fun q hq => by
    rcases List.mem_cons.1 hq with rfl | hq
    · exact ⟨p10, p32⟩
    · exact flds_no d q hq
  have e : bs p ++ (d.T ++ R) = sepBy 32 (bs p :: d.flds) ++ 10 :: R := by
    rw [← List.append_assoc, flds_T]
    simp
  have hl := line_of (sepBy 32 (bs p :: d.flds)) R (sepBy_no 32 10 (by decide) _ (fun q hq => (hno q hq).1))
  rw [← e] at hl
  refine ⟨hl.1, hl.2, ?_⟩
  unfold fieldsR
  rw [hl.1]
  exact fields_of _ (by simp) (by have := (flds_len d).2; simp; omega) (fun q hq => (hno q hq).2)
theorem recsR_iff (n s : Nat) (hn : 1 ≤ n) (h6 : n ≤ 6) (cm : Nat → Int) : ∀ (f : Nat) (t : Bs) (last : ByteArray) (R : Bs) (D : Drs), nlEnd t → t.length < f →
    (recsR n s cm f t last = some (R, D) ↔ t = drsT D ++ R ∧ blanks R < 2 ∧ okDrs n D ∧ (∀ y ∈ D, y.2.born ∧ couldB s cm (toRec y.2) = true) ∧ ∀ y ∈ D, slt last y.1 = true) := by
  intro f
  induction f with
  | zero => intro t last R D _ hf; omega
  | succ f ih =>
    intro t last R D hnl hf
    have hlen := fields_len t
    unfold recsR
    by_cases h3 : (fieldsR t).length < 3
    · rw [if_pos h3]
      have hb : blanks t < 2 := by omega
      constructor
      · intro h
        cases h
        exact ⟨rfl, hb, okDrs_nil n, by simp, by simp⟩
      · rintro ⟨rfl, h2, h3', h4, h5⟩
        cases D with
        | nil => rfl
        | cons y D =>
          obtain ⟨p, d⟩ := y
          rw [drsT_cons, List.append_assoc, List.append_assoc] at hb
          have := line_rec p d (drsT D ++ R) (h3'.paths (p, d) (by simp))
          omega
    · rw [if_neg h3]
      have hb : 2 ≤ blanks t := by omega
      constructor
      · intro h
        obtain ⟨d, hd, h⟩ := Option.bind_eq_some_iff.1 h
        split at h
        · rename_i hc
          simp only [Bool.and_eq_true] at hc
          obtain ⟨⟨c1, c2⟩, c3⟩ := hc
          obtain ⟨x, hx, h⟩ := Option.map_eq_some_iff.1 h
          obtain ⟨R', D'⟩ := x
          cases h
          have ht0 : t ≠ [] := by rintro rfl; simp [blanks] at hb
          obtain ⟨q1, q2⟩ := nl_line hnl ht0
          have hrl : (restR t).length < f := by have := congrArg List.length q1; simp at this; omega
          obtain ⟨i1, i2, i3, i4, i5⟩ := (ih (restR t) _ _ D' (nl_rest hnl) hrl).1 hx
          obtain ⟨r1, r2, r3⟩ := (recR_iff n hn h6 _ d).1 hd
          have hfs : fieldsR t = bs (ofBs ((fieldsR t).headD [])) :: d.flds := by
            rw [bs_ofBs, ← r3]
            cases hh : fieldsR t with
            | nil => rw [hh] at h3; simp at h3
            | cons a l => rfl
          generalize ofBs ((fieldsR t).headD []) = p at *
          have et : t = bs p ++ (d.T ++ restR t) := by
            rw [← List.append_assoc, flds_T, ← hfs, fields_join]
            simpa using q1
          have hall : ∀ y ∈ (p, d) :: D', y.2.born ∧ couldB s cm (toRec y.2) = true := fun y hy => by
            rcases List.mem_cons.1 hy with rfl | hy
            · exact ⟨r2, c3⟩
            · exact i4 y hy
          refine ⟨?_, i2, ⟨?_, ?_, ?_⟩, hall, ?_⟩
          · rw [drsT_cons, List.append_assoc, List.append_assoc, ← i1]
            exact et
          · intro y hy
            rcases List.mem_cons.1 hy with rfl | hy
            · exact c1
            · exact i3.paths y hy
          · intro y hy
            rcases List.mem_cons.1 hy with rfl | hy
            · exact r1
            · exact i3.oks y hy
          · rw [List.pairwise_cons]
            exact ⟨fun y hy => i5 y hy, i3.rise⟩
          · intro y hy
            rcases List.mem_cons.1 hy with rfl | hy
            · exact c2
            · exact slt_trans c2 (i5 y hy)
        · cases h
      · rintro ⟨rfl, h2, h3', h4, h5⟩
        cases D with
        | nil =>
          simp only [drsT, List.map_nil, List.flatten_nil, List.nil_append] at hb
          omega
        | cons y D =>
          obtain ⟨p, d⟩ := y
          have hp := h3'.paths (p, d) (by simp)
          have e : drsT ((p, d) :: D) ++ R = bs p ++ (d.T ++ (drsT D ++ R)) := by rw [drsT_cons, List.append_assoc, List.append_assoc]
          obtain ⟨l1, l2, l3⟩ := flds_line p hp d (drsT D ++ R)
          rw [e] at hnl hf ⊢
          have hp0 : 0 < (bs p).length := by
            unfold pathOk at hp
            rw [bs_len]
            simp only [Bool.and_eq_true, decide_eq_true_eq] at hp
            omega
          have I := (ih (drsT D ++ R) p R D (nl_drop (a := bs p ++ d.T) (by simpa using hnl)) (by simp at hf ⊢; omega)).2
            ⟨rfl, h2, ⟨fun y hy => h3'.paths y (List.mem_cons_of_mem _ hy), fun y hy => h3'.oks y (List.mem_cons_of_mem _ hy), (List.pairwise_cons.1 h3'.rise).2⟩, fun y hy => h4 y (List.mem_cons_of_mem _ hy), fun y hy => (List.pairwise_cons.1 h3'.rise).1 y hy⟩
          rw [l2, l3, List.tail_cons, List.headD_cons, ofBs_bs, (recR_iff n hn h6 _ d).2 ⟨h3'.oks (p, d) (by simp), (h4 (p, d) (by simp)).1, rfl⟩]
          simp only [Option.bind_some]
          rw [if_pos (by simp only [Bool.and_eq_true]; exact ⟨⟨hp, h5 (p, d) (by simp)⟩, (h4 (p, d) (by simp)).2⟩), I]
          rfl

end Go.Proofs.YtaelaldmibgibaaGreatDoor

namespace Go.Proofs.YtaelaldmibgibaaGreatDoor
open Go.RowKit Go.Maps

theorem ranges_keep {w w' : World} {b r n cnt : Nat} {D : DataW Unit} {left : Lit → Bool} (h : w.ranges Tryz.prog 9 recElem b r n D left cnt) (hb : w'.heap[b]? = w.heap[b]?) (hr : w'.heap[r]? = w.heap[r]?) : w'.ranges Tryz.prog 9 recElem b r n D left cnt := by
  obtain ⟨es, clock, since, seen, c0, h1, F, hs, hD, h2, rest⟩ := h
  exact ⟨es, clock, since, seen, c0, by rw [hb]; exact h1, F, hs, hD, by rw [hr]; exact h2, rest⟩

theorem key_of {x : ByteArray} {kl : Lit} (h : keyOf Tryz.prog 9 (.string x) = some kl) : kl = key x ∧ x.size ≤ maxLen := by
  simp [keyOf, mapKey, Tryz.underlying9] at h
  exact ⟨h.2.symm, h.1⟩
theorem recDat_bn {R R' : Rec} (h : recDat R = recDat R') : R.bn = R'.bn := by
  simp only [recDat, DataW.agg.injEq, List.cons.injEq, DataW.lit.injEq, Lit.string.injEq, Lit.int.injEq, true_and, and_true] at h
  exact h.2.2.1
theorem rec_at {E : Recs} {x : ByteArray} {d : DataW Unit} (h : ∀ zd, (datOf E).atKey (key x) zd = d) : ∃ R, (x, R) ∈ E ∧ d = recDat R := by
  cases hg : getE x E with
  | none =>
    have h1 := h (.lit (.bool true))
    have h2 := h (.lit (.bool false))
    rw [atKey_datOf, hg] at h1 h2
    simp only at h1 h2
    rw [← h2] at h1
    simp at h1
  | some R =>
    have h1 := h (.lit (.bool true))
    rw [atKey_datOf, hg] at h1
    exact ⟨R, mem_getE hg, h1.symm⟩

/-- those that are still to come -/
def lf (left : Lit → Bool) (E : Recs) : Nat := (E.filter (fun x => left (key x.1))).length
theorem getE_mem {E : Recs} {x : ByteArray × Rec} (h : x ∈ E) : (getE x.1 E).isSome = true := by
  unfold getE
  rw [Option.isSome_map, List.find?_isSome]
  exact ⟨x, h, (seq_iff _ _).2 rfl⟩
theorem lf_start (E : Recs) : lf (Maps.has (datOf E)) E = E.length := by
  unfold lf
  rw [filter_all]
  intro x hx
  rw [has_datOf]
  exact getE_mem hx
theorem lf_end {left : Lit → Bool} (h : ∀ kl, left kl = false) (E : Recs) : lf left E = 0 := by
  unfold lf
  rw [filter_none _ _ (fun x _ => h _)]
  rfl
theorem lf_step {E : Recs} (hE : RisingE E) {left : Lit → Bool} {x : ByteArray} {R : Rec} (hx : (x, R) ∈ E) (hl : left (key x) = true) : lf left E = lf (fun z => left z && !z.sameKey (key x)) E + 1 := by
  unfold lf
  simp only [same_key]
  induction E with
  | nil => simp at hx
  | cons y E ih =>
    obtain ⟨h1, h2⟩ := List.pairwise_cons.1 hE
    rcases List.mem_cons.1 hx with rfl | hx
    · have e : E.filter (fun y => left (key y.1) && !seq y.1 x) = E.filter (fun y => left (key y.1)) := by
        apply List.filter_congr
        intro z hz
        rw [seq_false (fun e => slt_ne (h1 z hz) e.symm)]
        simp
      have e2 : seq x x = true := (seq_iff _ _).2 rfl
      simp [hl, e, e2]
    · have ih := ih h2 hx
      have e2 : seq y.1 x = false := seq_false (slt_ne (h1 _ hx))
      cases e : left (key y.1) with
      | true => simp only [List.filter_cons, e, e2, Bool.not_false, Bool.and_self, if_true, List.length_cons, ih]
      | false => simpa [e] using ih

theorem recInv (v : Value) (y : DataW Unit × List MemPlace) (h : recElem v = some y) : ∃ R : Rec, v = recVal R := by
  obtain ⟨R, rfl, _⟩ := recElem_inv h
  exact ⟨R, rfl⟩

set_option maxRecDepth 100000 in
set_option maxHeartbeats 800000 in
theorem pfiles_any (rb s : Nat) (cm : Nat → Int) (mb : Nat) (w : World) (h : RepAt w rb s cm mb) (E : Recs) (hE : RisingE E) (hl : E.length < 1000000) (hbn : ∀ x ∈ E, 0 < x.2.bn) (hown : w.ownsMap Tryz.prog 9 recElem mb E.length (datOf E)) :
    Calls Tryz.prog 129 #[.pointer (some ⟨rb, 0, none⟩)] w fun e w' => e = .returned (.int .i64 E.length) ∧ Below w.heap.size w w' := by
  have c7 := h.c7
  have hml := hown.lt
  clear h
  go_enter Tryz.func129, Tryz.ntmps129
  go_wp2_with (first
    | (at_range; refine wpList_range_own _ rfl _ 184 rfl 9 197 lawS Tryz.underlying184 _ mb E.length _ rfl hown ?_; intro w0 hrg0 hg0 hs0)
    | go_in)
  go_frame
  have hb0 : Hid (Below w.heap.size w w0) := (Below.refl _ _).grown hg0 (by simp) (fun j hj => by cases hj)
  go_loopw [3] (fun nv wr => ∃ (left : Lit → Bool) (cnt : Nat), wr.ranges Tryz.prog 9 recElem mb w.heap.size E.length (datOf E) left cnt ∧ (∃ k : Nat, nv = .int .i64 k ∧ k + lf left E = E.length) ∧ Hid (Below w.heap.size w wr)) (fun _ wr => wr.rangeLeft mb w.heap.size)
  case atStart => exact ⟨_, _, hrg0, ⟨0, rfl, by rw [lf_start]; omega⟩, hb0⟩
  case round =>
    obtain ⟨left, cnt, hrg, ⟨k, rfl, hk⟩, hbw⟩ := hrel
    go_wp2_with (first
      | (at_next; refine wpList_next_ranges _ rfl _ rfl 9 lawS recElem Value.string recVal (fun key kl h => Maps.keyOf_string_inv Tryz.underlying9 h) recInv mb w.heap.size E.length (datOf E) left cnt rfl hrg ?_ ?_)
      | go_in)
    · intro hc0 hl0
      rw [lf_end hl0] at hk
      simp only [Nat.add_zero] at hk
      subst hk
      go_wp2
      go_ret
      exact ⟨rfl, hbw.out⟩
    · intro x R kl yd yp w1 cnt1 hkey hlk hv hat hrg1 hlt hg1 hs1 hen
      obtain ⟨rfl, _⟩ := key_of hkey
      obtain ⟨R', hm, hd⟩ := rec_at hat
      have hyd : yd = recDat R := by rw [recElem_mk] at hv; have := Option.some.inj hv; simp at this; exact this.1.symm
      have hR : 0 < R.bn := by rw [recDat_bn (hyd.symm.trans hd)]; exact hbn _ hm
      have LS := hide (lf_step hE hm hlk)
      have HB1 : Hid (Below w.heap.size w w1) := hbw.out.grown hg1 hbw.out.size (fun j hj => by cases hj; exact Nat.le_refl _)
      have RG := hide hrg
      have RG1 := hide hrg1
      have hd0 : decide (0 < R.bn) = true := by simp [hR]
      have hw : IntKind.i64.wrap ((k : Int) + 1) = (k + 1 : Nat) := by rw [IntKind.wrap_i64]; omega
      have HK := hide hk
      clear hkey hat hv hyd hd hR hm hg1 hrg hrg1 hown hk
      simp only [recVal] at hen ⊢
      go_wp2_with (go_at_call 113; refine (isThere_any _ _ _ _ _ _ _ _ _ _).mono ?_; rintro e w2 ⟨rfl, hb2⟩)
      have HB2 : Hid (Below w.heap.size w w2) := (HB1.out.alloc HB1.out.size _).trans (hb2.mono (by have := HB1.out.size; simp; omega))
      have hsz1 := HB1.out.size
      have RG2 := hide (ranges_keep (w' := w2) RG1.out ((hb2.block _ (by simp; omega)).trans (Below.heap_alloc _ _ _ (by omega))) ((hb2.block _ (by have := RG1.out.lt; simp; omega)).trans (Below.heap_alloc _ _ _ RG1.out.lt)))
      clear hb2
      go_roundw
      case rel => exact ⟨_, cnt1, RG2.out, ⟨k + 1, by first | rfl | go_num, by have := HK.out; have := LS.out; omega⟩, HB2⟩
      case measure => rw [RG2.out.left_eq, RG.out.left_eq]; exact hlt

end Go.Proofs.YtaelaldmibgibaaGreatDoor

namespace Go.Proofs.YtaelaldmibgibaaGreatDoor
open Go.RowKit Go.Maps Go.Sort

theorem less_iff (x y : List UInt8) : Op.bytesLess x y = true ↔ x < y := by
  induction x generalizing y with
  | nil =>
    cases y with
    | nil => simp [Op.bytesLess]
    | cons b y => simp [Op.bytesLess]
  | cons a x ih =>
    cases y with
    | nil => simp [Op.bytesLess]
    | cons b y =>
      rw [List.cons_lt_cons_iff, ← ih]
      simp [Op.bytesLess]
theorem le_less (x y : List UInt8) : decide (x ≤ y) = !Op.bytesLess y x := by
  cases e : Op.bytesLess y x with
  | true => simp only [Bool.not_true, decide_eq_false_iff_not]; exact fun h => h ((less_iff y x).1 e)
  | false => simp only [Bool.not_false, decide_eq_true_eq]; exact fun h => by rw [(less_iff y x).2 h] at e; cases e
theorem eq_of_rising (T : List (List UInt8)) : ∀ (ts : List (List UInt8)), T.Pairwise (fun a b => Op.bytesLess a b = true) → ts.Pairwise (fun a b => Op.bytesLess b a = false) → ts.Perm T → ts = T := by
  induction T with
  | nil => intro ts _ _ hp; exact List.Perm.eq_nil hp
  | cons a T ih =>
    intro ts hT hts hp
    cases ts with
    | nil => exact absurd hp.symm.eq_nil (by simp)
    | cons b ts =>
      obtain ⟨h1, h2⟩ := List.pairwise_cons.1 hT
      obtain ⟨h3, h4⟩ := List.pairwise_cons.1 hts
      have e : b = a := by
        have hb : b ∈ a :: T := hp.subset (by simp)
        have ha : a ∈ b :: ts := hp.symm.subset (by simp)
        rcases List.mem_cons.1 hb with hb | hb
        · exact hb
        · rcases List.mem_cons.1 ha with ha | ha
          · exact ha.symm
          · have := h1 b hb
            rw [h3 a ha] at this
            cases this
      subst e
      rw [ih ts h2 h4 ((List.perm_cons b).1 hp)]
theorem sorted_eq (ss T : List (List UInt8)) (hT : T.Pairwise (fun a b => Op.bytesLess a b = true)) (hp : ss.Perm T) : (ss.mergeSort fun x y => decide (x ≤ y)) = T := by
  refine eq_of_rising T _ hT ?_ ((List.mergeSort_perm _ _).trans hp)
  have := List.pairwise_mergeSort (le := fun x y : List UInt8 => decide (x ≤ y)) ?_ ?_ ss
  · refine this.imp ?_
    intro a b h
    rw [le_less] at h
    simpa using h
  · intro a b c h h'
    rw [le_less] at h h' ⊢
    cases e : Op.bytesLess c a with
    | false => rfl
    | true =>
      simp at h h'
      have hab : Op.bytesLess a b = true ∨ a = b := by
        cases e2 : Op.bytesLess a b with
        | true => exact .inl rfl
        | false => exact .inr (bl_tri _ _ e2 h)
      rcases hab with hab | rfl
      · rw [bl_trans _ _ _ e hab] at h'; cases h'
      · rw [e] at h'; cases h'
  · intro a b
    rw [le_less, le_less]
    cases e : Op.bytesLess b a with
    | false => rfl
    | true =>
      cases e2 : Op.bytesLess a b with
      | false => rfl
      | true =>
        have := bl_trans _ _ _ e e2
        rw [bl_irrefl] at this
        cases this

def lst (x : ByteArray) : List UInt8 := x.data.toList
theorem svs_lst (l : List ByteArray) : svs l = (l.map lst).map encStr := by
  unfold svs
  rw [List.map_map]
  apply List.map_congr_left
  intro x _
  rfl
theorem rising_lst {E : Recs} (h : RisingE E) : ((E.map (·.1)).map lst).Pairwise (fun a b => Op.bytesLess a b = true) := by
  rw [List.map_map, List.pairwise_map]
  refine h.imp ?_
  intro a b h
  unfold slt at h
  rw [ByteArray.toList_eq, ByteArray.toList_eq] at h
  exact h

/-- the paths that have come -/
def come (left : Lit → Bool) (E : Recs) : List ByteArray := (E.filter (fun x => !left (key x.1))).map (·.1)
theorem come_start (E : Recs) : come (Maps.has (datOf E)) E = [] := by
  unfold come
  rw [filter_none _ _ (fun x hx => by rw [has_datOf, getE_mem hx]; rfl)]
  rfl
theorem come_end {left : Lit → Bool} (h : ∀ kl, left kl = false) (E : Recs) : come left E = E.map (·.1) := by
  unfold come
  rw [filter_all _ _ (fun x _ => by rw [h]; rfl)]
theorem come_step {E : Recs} (hE : RisingE E) {left : Lit → Bool} {x : ByteArray} {R : Rec} (hx : (x, R) ∈ E) (hl : left (key x) = true) : (come (fun z => left z && !z.sameKey (key x)) E).Perm (x :: come left E) := by
  unfold come
  simp only [same_key]
  induction E with
  | nil => simp at hx
  | cons y E ih =>
    obtain ⟨h1, h2⟩ := List.pairwise_cons.1 hE
    rcases List.mem_cons.1 hx with rfl | hx
    · have e : E.filter (fun y => !(left (key y.1) && !seq y.1 x)) = E.filter (fun y => !left (key y.1)) := by
        apply List.filter_congr
        intro z hz
        rw [seq_false (fun e => slt_ne (h1 z hz) e.symm)]
        simp
      have e2 : seq x x = true := (seq_iff _ _).2 rfl
      rw [List.filter_cons, List.filter_cons, e]
      simp only [hl, e2, Bool.not_true, Bool.and_false, Bool.not_false, if_true]
      exact List.Perm.refl _
    · have ih := ih h2 hx
      have e2 : seq y.1 x = false := seq_false (slt_ne (h1 _ hx))
      rw [List.filter_cons, List.filter_cons]
      cases e : left (key y.1) with
      | true => simpa [e2] using ih
      | false =>
        simp only [e2, Bool.false_and, Bool.not_false, if_true, List.map_cons]
        exact (List.Perm.cons _ ih).trans (List.Perm.swap _ _ _)
theorem come_le (left : Lit → Bool) (E : Recs) : (come left E).length ≤ E.length := by
  unfold come
  rw [List.length_map]
  exact List.length_filter_le _ _

theorem row_more {w1 w2 : World} {o : Obj} {base : Nat} {e : TypeId} {size : Nat} {v : Value} {n : Nat} {xs : List Value} (h : w1.ownsRow base e size v n xs) (hb : Below (w1.alloc o).heap.size (w1.alloc o) w2) : w2.ownsRow base e size v n xs :=
  ownsRow_keep h (fun k e => by have := (World.ownsRow.lt h k e).2; exact (hb.block k (by simp; omega)).trans (Below.heap_alloc _ _ _ this))
theorem ranges_more {w1 w2 : World} {o : Obj} {b r n cnt : Nat} {D : DataW Unit} {left : Lit → Bool} (h : w1.ranges Tryz.prog 9 recElem b r n D left cnt) (hb : Below (w1.alloc o).heap.size (w1.alloc o) w2) : w2.ranges Tryz.prog 9 recElem b r n D left cnt :=
  ranges_keep h ((hb.block _ (by have := h.owns.lt; simp; omega)).trans (Below.heap_alloc _ _ _ h.owns.lt)) ((hb.block _ (by have := h.lt; simp; omega)).trans (Below.heap_alloc _ _ _ h.lt))
theorem below_more {w w1 w2 : World} {o : Obj} (h : Below w.heap.size w w1) (hb : Below (w1.alloc o).heap.size (w1.alloc o) w2) : Below w.heap.size w w2 :=
  (h.alloc h.size _).trans (hb.mono (by have := h.size; simp; omega))

set_option maxRecDepth 100000 in
set_option maxHeartbeats 1000000 in
theorem plist_any (rb s : Nat) (cm : Nat → Int) (mb : Nat) (w : World) (h : RepAt w rb s cm mb) (E : Recs) (hE : RisingE E) (hl : E.length < 1000000) (hbn : ∀ x ∈ E, 0 < x.2.bn) (hown : w.ownsMap Tryz.prog 9 recElem mb E.length (datOf E)) :
    Calls Tryz.prog 165 #[.pointer (some ⟨rb, 0, none⟩)] w fun e w' => ∃ v, e = .returned v ∧ w'.ownsRow w.heap.size 9 1 v E.length (svs (E.map (·.1))) ∧ Below w.heap.size w w' := by
  have c7 := h.c7
  have hml := hown.lt
  clear h
  go_enter Tryz.func165, Tryz.ntmps165
  go_wp2_with (first
    | (at_range; refine wpList_range_own _ rfl _ 184 rfl 9 197 lawS Tryz.underlying184 _ mb E.length _ rfl hown ?_; intro w0 hrg0 hg0 hs0)
    | go_in)
  go_frame
  have hb0 : Hid (Below w.heap.size w w0) := (Below.refl _ _).grown hg0 (by simp) (fun j hj => by cases hj)
  go_loopw [3] (fun v wr => ∃ (left : Lit → Bool) (cnt : Nat), wr.ranges Tryz.prog 9 recElem mb w.heap.size E.length (datOf E) left cnt ∧ (∃ l : List ByteArray, wr.ownsRow w.heap.size 9 1 v l.length (svs l) ∧ l.Perm (come left E)) ∧ Hid (Below w.heap.size w wr)) (fun _ wr => wr.rangeLeft mb w.heap.size)
  case atStart => exact ⟨_, _, hrg0, ⟨[], World.ownsRow_nil _ _ _ _, by rw [come_start]⟩, hb0⟩
  case round =>
    obtain ⟨left, cnt, hrg, ⟨l, hrow, hperm⟩, hbw⟩ := hrel
    go_wp2_with (first
      | (at_next; refine wpList_next_ranges _ rfl _ rfl 9 lawS recElem Value.string recVal (fun key kl h => Maps.keyOf_string_inv Tryz.underlying9 h) recInv mb w.heap.size E.length (datOf E) left cnt rfl hrg ?_ ?_)
      | go_in)
    · intro hc0 hl0
      rw [come_end hl0] at hperm
      clear hrg hrg0 hown
      have hsz := hbw.out.size
      rcases hrow.2 with ⟨rfl, h0⟩ | ⟨g, cap, cur, rfl, hbase, hb, h1, h2, h3, h4⟩
      · have el : l = [] := List.length_eq_zero_iff.1 h0
        subst el
        have eE : E = [] := by have := hperm.symm.eq_nil; simpa using this
        subst eE
        go_wp2_with (go_at_call 176; refine (Tryz.slices_Sort_string_none none 0 wr).mono ?_; rintro e w5 ⟨rfl, rfl⟩)
        go_ret
        exact ⟨_, rfl, World.ownsRow_nil _ _ _ _, hbw.out⟩
      · have hss : (l.map lst).length = l.length := by simp
        have hH : Holds encStr wr g 0 (l.map lst).toArray := holds_of_block hb (by rw [hss, ← svs_lst]; simpa using h4)
        have hll : l.length = E.length := by rw [hperm.length_eq, List.length_map]
        have SC := hide (Tryz.slices_Sort_string g 0 cap (l.map lst) wr hH (Array.getElem?_eq_some_iff.1 hb).1 (by rw [hss]; omega))
        rw [sorted_eq (l.map lst) _ (rising_lst hE) (hperm.map lst), hss] at SC
        have HB := hide hb
        have HLL := hide hll
        clear hH hb h4 hrow hll
        go_wp2_with (go_at_call 176; refine SC.out.mono ?_; rintro e w5 ⟨rfl, nn, os, hw5⟩; have HW := hide hw5; clear hw5)
        go_ret
        have ew := HW.out
        subst ew
        refine ⟨_, rfl, ?_, hbw.out.grown (grownBy_sorted _) hsz (fun j hj => by cases hj; exact hbase)⟩
        have := ownsRow_sorted (n := nn) (os := os) (ss := l.map lst) (ts := (E.map (·.1)).map lst) (by simp [HLL.out]) hbase HB.out (by rw [hss]; exact h1) h2 h3
        rw [hss, ← svs_lst] at this
        rw [← HLL.out]
        exact this
    · intro x R kl yd yp w1 cnt1 hkey hlk hv hat hrg1 hlt hg1 hs1 hen
      obtain ⟨rfl, _⟩ := key_of hkey
      obtain ⟨R', hm, hd⟩ := rec_at hat
      have hyd : yd = recDat R := by rw [recElem_mk] at hv; have := Option.some.inj hv; simp at this; exact this.1.symm
      have hR : 0 < R.bn := by rw [recDat_bn (hyd.symm.trans hd)]; exact hbn _ hm
      have LS := hide (come_step hE hm hlk)
      have hll : l.length ≤ E.length := by rw [hperm.length_eq]; exact come_le left E
      have HB1 : Hid (Below w.heap.size w w1) := hbw.out.grown hg1 hbw.out.size (fun j hj => by cases hj; exact Nat.le_refl _)
      have NI := hide (row_ne_iter hrow hrg)
      have hrow1 := hide (ownsRow_keep (w' := w1) hrow (fun k e => by have := World.ownsRow.lt hrow k e; exact hg1.block k this.2 (fun e' => NI.out (by rw [e, ← e']))))
      have RG := hide hrg
      have RG1 := hide hrg1
      have HP := hide hperm
      have hd0 : decide (0 < R.bn) = true := by simp [hR]
      clear hkey hat hv hyd hd hR hm hg1 hrg hrg1 hown hrow hperm
      simp only [recVal] at hen ⊢
      go_wp2_with (first
        | (go_at_call 113; refine (isThere_any _ _ _ _ _ _ _ _ _ _).mono ?_; rintro e w2 ⟨rfl, hb2⟩; have hrow2 := hide (row_more hrow1.out hb2); have RG2 := hide (ranges_more RG1.out hb2); have HB2 := hide (below_more HB1.out hb2); clear hb2)
        | (at_builtin; refine app_str _ rfl (.tmp 19) (.tmp 21) rfl w.heap.size _ _ _ rfl (hrow2.out.alloc _) w2.heap.size x rfl (by simp) (by omega) (by have := HB2.out.size; simp; omega) ?_; intro g2 c2 w3 ho3 hgr3 hat3 hl3))
      have NI2 := hide (row_ne_iter hrow2.out RG2.out)
      have HB3 := hide (grown_below (HB2.out.alloc HB2.out.size _) hgr3 (fun q hq => (World.ownsRow.lt hrow2.out q hq).1))
      have RG3 := hide ((RG2.out.alloc _).kept hgr3 (fun e => by have := (World.ownsRow.lt hrow2.out mb e.symm).1; omega) NI2.out)
      have HR := hide ho3
      clear hgr3 ho3 hat3
      go_roundw
      case rel => exact ⟨_, cnt1, RG3.out, ⟨l ++ [x], by rw [svs_append, List.length_append]; exact HR.out, ((List.perm_append_comm).trans (List.Perm.cons x HP.out)).trans LS.out.symm⟩, HB3⟩
      case measure => rw [RG3.out.left_eq, RG.out.left_eq]; exact hlt

end Go.Proofs.YtaelaldmibgibaaGreatDoor
