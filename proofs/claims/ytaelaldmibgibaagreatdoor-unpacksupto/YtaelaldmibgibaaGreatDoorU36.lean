/- The program's lines of records, without memory. -/
import Derived.Test.YtaelaldmibgibaaGreatDoorU35
import Derived.Test.YtaelaldmibgibaaGreatDoorU16

set_option linter.unusedVariables false
set_option linter.unusedSimpArgs false

namespace Go.Proofs.YtaelaldmibgibaaGreatDoor
open Go.RowKit Go.Lib

theorem pieces_len (c : UInt8) : ∀ (k : Nat) (s : Bs), (splitK [c] 0 k s).length = min (k + 1) (s.count c + 1)
  | 0, s => by simp [splitK]
  | k + 1, s => by
    rcases idx_one c s with ⟨_, q⟩ | ⟨a, b, h1, h2, _⟩
    · rw [pieces_miss c _ s q, List.count_eq_zero_of_not_mem q]
      simp
    · rw [h1, pieces_hit c k a b h2, List.length_cons, pieces_len c k b, List.count_append, List.count_eq_zero_of_not_mem h2, List.count_cons_self]
      omega
theorem fields_join (t : Bs) : sepBy 32 (fieldsR t) = lineR t := pieces_join 32 _ _
theorem fields_of (ps : List Bs) (h0 : ps ≠ []) (h6 : ps.length ≤ 6) (h : ∀ p ∈ ps, (32 : UInt8) ∉ p) : splitN (sepBy 32 ps) [32] 6 = ps := by
  unfold splitN
  have := sepBy_len 32 ps
  have h1 : 0 < ps.length := List.length_pos_iff.2 h0
  exact pieces_of 32 ps _ h0 h (by omega)
/-- a text's first line, and what is behind it -/
theorem line_cases (t : Bs) : (lineR t = t ∧ restR t = [] ∧ (10 : UInt8) ∉ t) ∨ (t = lineR t ++ 10 :: restR t ∧ (10 : UInt8) ∉ lineR t) := by
  unfold lineR restR
  rcases idx_one 10 t with ⟨_, q⟩ | ⟨a, b, h1, h2, _⟩
  · rw [cut_miss 10 t q]
    exact .inl ⟨rfl, rfl, q⟩
  · rw [h1, cut_hit 10 a b h2]
    exact .inr ⟨rfl, h2⟩
theorem line_of (a b : Bs) (h : (10 : UInt8) ∉ a) : lineR (a ++ 10 :: b) = a ∧ restR (a ++ 10 :: b) = b := by
  unfold lineR restR
  rw [cut_hit 10 a b h]
  exact ⟨rfl, rfl⟩
theorem takeWhile_no (a : Bs) (h : (10 : UInt8) ∉ a) : a.takeWhile (fun c => c != 10) = a := by
  have := List.takeWhile_append_of_pos (p := fun c : UInt8 => c != 10) (l₁ := a) (l₂ := []) (fun c hc => by simp only [bne_iff_ne, ne_eq]; rintro rfl; exact h hc)
  simpa using this
theorem blanks_line (t : Bs) : blanks t = (lineR t).count 32 := by
  unfold blanks
  rcases line_cases t with ⟨h1, _, h3⟩ | ⟨h1, h2⟩
  · rw [h1, takeWhile_no t h3]
  · generalize lineR t = a at *
    rw [h1, List.takeWhile_append_of_pos (fun c hc => by simp only [bne_iff_ne, ne_eq]; rintro rfl; exact h2 hc)]
    simp
theorem fields_len (t : Bs) : (fieldsR t).length = min 6 (blanks t + 1) := by
  unfold fieldsR splitN
  rw [pieces_len, blanks_line]
  have := List.count_le_length (a := (32 : UInt8)) (l := lineR t)
  omega

/-- a text of whole lines -/
def nlEnd (t : Bs) : Prop := t = [] ∨ ∃ a, t = a ++ [10]
theorem nl_line {t : Bs} (h : nlEnd t) (h0 : t ≠ []) : t = lineR t ++ 10 :: restR t ∧ (10 : UInt8) ∉ lineR t := by
  rcases line_cases t with ⟨_, _, h3⟩ | q
  · rcases h with h | ⟨a, h⟩
    · exact absurd h h0
    · exact absurd (by rw [h]; simp) h3
  · exact q
theorem nl_drop {a b : Bs} (h : nlEnd (a ++ b)) : nlEnd b := by
  rcases List.eq_nil_or_concat b with rfl | ⟨b', x, rfl⟩
  · exact .inl rfl
  · refine .inr ⟨b', ?_⟩
    rcases h with h | ⟨c, h⟩
    · simp at h
    · rw [List.concat_eq_append, ← List.append_assoc] at h
      have := List.append_inj_right' h rfl
      rw [List.concat_eq_append, this]
theorem nl_rest {t : Bs} (h : nlEnd t) : nlEnd (restR t) := by
  rcases line_cases t with ⟨_, h2, _⟩ | ⟨q, _⟩
  · exact .inl h2
  · rw [q] at h
    exact nl_drop (a := lineR t ++ [10]) (by simpa using h)

/-- the fields behind a path -/
def DS.flds (d : DS) : List Bs := timeT d.known :: (if d.there = true then [decDigits d.by_ ++ 58 :: decDigits d.num, timeT d.chg, 61 :: hexT d.text] else [[45]])
/-- a file's birth is one of its changes -/
def DS.born (d : DS) : Prop := d.there = true → 1 ≤ d.num ∧ d.num ≤ d.chg.getD d.by_ 0
theorem flds_T (p : Bs) (d : DS) : p ++ d.T = sepBy 32 (p :: d.flds) ++ [10] := by
  unfold DS.flds DS.T
  cases d.there with
  | true => simp [sepBy, DS.tail]
  | false => simp [sepBy]
theorem hexT_mem (t : Bs) (c : UInt8) (h : c ∈ hexT t) : c.toNat ≠ 10 ∧ c.toNat ≠ 32 := by
  unfold hexT at h
  rw [List.mem_flatten] at h
  obtain ⟨l, hl, hc⟩ := h
  obtain ⟨x, _, rfl⟩ := List.mem_map.1 hl
  have hx := x.toNat_lt
  simp only [List.mem_cons, List.not_mem_nil, or_false] at hc
  rcases hc with rfl | rfl
  · exact hexd_ne ⟨x.toNat / 16, by omega⟩
  · exact hexd_ne ⟨x.toNat % 16, by omega⟩
theorem timeT_no (l : List Nat) : (10 : UInt8) ∉ timeT l ∧ (32 : UInt8) ∉ timeT l := by
  constructor
  · intro h
    rcases timeT_mem l _ h with e | e
    · exact absurd e (by decide)
    · exact absurd e (by decide)
  · intro h
    rcases timeT_mem l _ h with e | e
    · exact absurd e (by decide)
    · exact absurd e (by decide)
theorem flds_no (d : DS) : ∀ p ∈ d.flds, (10 : UInt8) ∉ p ∧ (32 : UInt8) ∉ p := by
  intro p hp
  unfold DS.flds at hp
  rcases List.mem_cons.1 hp with rfl | hp
  · exact timeT_no _
  · split at hp
    · simp only [List.mem_cons, List.not_mem_nil, or_false] at hp
      rcases hp with rfl | rfl | rfl
      · constructor
        · intro h
          rcases List.mem_append.1 h with h | h
          · exact dig_no _ 10 (by decide) h
          · rcases List.mem_cons.1 h with h | h
            · exact absurd h (by decide)
            · exact dig_no _ 10 (by decide) h
        · intro h
          rcases List.mem_append.1 h with h | h
          · exact dig_no _ 32 (by decide) h
          · rcases List.mem_cons.1 h with h | h
            · exact absurd h (by decide)
            · exact dig_no _ 32 (by decide) h
      · exact timeT_no _
      · constructor
        · intro h
          rcases List.mem_cons.1 h with h | h
          · exact absurd h (by decide)
          · exact (hexT_mem _ _ h).1 rfl
        · intro h
          rcases List.mem_cons.1 h with h | h
          · exact absurd h (by decide)
          · exact (hexT_mem _ _ h).2 rfl
    · simp only [List.mem_cons, List.not_mem_nil, or_false] at hp
      rw [hp]
      decide
theorem sepBy_no (c x : UInt8) (hx : x ≠ c) : ∀ ps : List Bs, (∀ p ∈ ps, x ∉ p) → x ∉ sepBy c ps := by
  intro ps h q
  cases ps with
  | nil => simp [sepBy] at q
  | cons p ps =>
    unfold sepBy at q
    rcases List.mem_append.1 q with q | q
    · exact h p (by simp) q
    · rw [List.mem_flatten] at q
      obtain ⟨l, hl, hc⟩ := q
      obtain ⟨y, hy, rfl⟩ := List.mem_map.1 hl
      rcases List.mem_cons.1 hc with hc | hc
      · exact hx hc
      · exact h y (by simp [hy]) hc
theorem flds_len (d : DS) : 2 ≤ d.flds.length ∧ d.flds.length ≤ 4 := by
  unfold DS.flds
  split <;> simp

/-- the record that the fields behind a path tell -/
def dsOf (n : Nat) (k : List Nat) : Option FileR → DS
  | none => ⟨k, false, 0, 0, List.replicate n 0, []⟩
  | some f => ⟨k, true, f.br, f.bn, f.ch, f.text⟩
def recR (n : Nat) : List Bs → Option DS
  | [] => none
  | a :: fs => (timeR n a).bind fun k => (fileR n fs).bind fun f => some (dsOf n k f)
theorem recR_iff (n : Nat) (hn : 1 ≤ n) (h6 : n ≤ 6) (fs : List Bs) (d : DS) : recR n fs = some d ↔ d.ok n ∧ d.born ∧ fs = d.flds := by
  constructor
  · intro h
    cases fs with
    | nil => cases h
    | cons a fs =>
      unfold recR at h
      obtain ⟨k, h1, h⟩ := Option.bind_eq_some_iff.1 h
      obtain ⟨f, h2, h⟩ := Option.bind_eq_some_iff.1 h
      obtain ⟨a1, a2, rfl⟩ := (timeR_iff n hn a k).1 h1
      cases f with
      | none =>
        cases h
        have e := (fileR_none n fs).1 h2
        refine ⟨⟨a1, a2, fun q => absurd (show false = true from q) (by decide), fun _ => ⟨rfl, rfl, rfl, rfl⟩⟩, fun q => absurd (show false = true from q) (by decide), ?_⟩
        rw [e]
        rfl
      | some f =>
        cases h
        obtain ⟨b1, b2, b3, b4, b5, b6, b7, e⟩ := (fileR_some n hn h6 fs f).1 h2
        refine ⟨⟨a1, a2, fun _ => ⟨b1, b3, b4, b5, b6⟩, fun q => absurd (show true = false from q) (by decide)⟩, fun _ => ⟨b2, b7⟩, ?_⟩
        rw [e]
        rfl
  · rintro ⟨h1, h2, rfl⟩
    obtain ⟨kn, th, by_, num, chg, text⟩ := d
    have ht := (timeR_iff n hn (timeT kn) kn).2 ⟨h1.kl, h1.kb, rfl⟩
    cases th with
    | true =>
      have hf := (fileR_some n hn h6 [decDigits by_ ++ 58 :: decDigits num, timeT chg, 61 :: hexT text] ⟨text, by_, num, chg⟩).2
        ⟨(h1.yes rfl).1, (h2 rfl).1, (h1.yes rfl).2.1, (h1.yes rfl).2.2.1, (h1.yes rfl).2.2.2.1, (h1.yes rfl).2.2.2.2, (h2 rfl).2, rfl⟩
      show ((timeR n (timeT kn)).bind fun k => (fileR n [decDigits by_ ++ 58 :: decDigits num, timeT chg, 61 :: hexT text]).bind fun f => some (dsOf n k f)) = _
      rw [ht, hf]
      rfl
    | false =>
      have hf := (fileR_none n [[45]]).2 rfl
      obtain ⟨e1, e2, e3, e4⟩ := h1.none rfl
      simp only at e1 e2 e3 e4
      subst e1 e2 e3 e4
      show ((timeR n (timeT kn)).bind fun k => (fileR n [[45]]).bind fun f => some (dsOf n k f)) = _
      rw [ht, hf]
      rfl

/-- a record as the program has it -/
def toRec (d : DS) : Rec := ⟨ofBs d.text, d.by_, d.num, lfn d.chg, lfn d.known⟩
def toE (D : Drs) : Recs := D.map (fun y => (y.1, toRec y.2))
def leB (a b : Nat → Int) : Bool := eqT (gboth a b) b
/-- may the record stand in a replica -/
def couldB (s : Nat) (cm : Nat → Int) (R : Rec) : Bool := decide (R.kn s = cm s) && (eqT (gboth R.ch R.kn) R.kn && (decide (0 < R.bn) || !eqT R.kn cm))
/-- the records that a text begins with: the text behind them, and they -/
def recsR (n s : Nat) (cm : Nat → Int) : Nat → Bs → ByteArray → Option (Bs × Drs)
  | 0, _, _ => none
  | f + 1, t, last => if (fieldsR t).length < 3 then some (t, []) else
      (recR n (fieldsR t).tail).bind fun d => if (pathOk (ofBs ((fieldsR t).headD [])) && slt last (ofBs ((fieldsR t).headD [])) && couldB s cm (toRec d)) = true then
        (recsR n s cm f (restR t) (ofBs ((fieldsR t).headD []))).map fun x => (x.1, (ofBs ((fieldsR t).headD []), d) :: x.2) else none
theorem flds_line (p : ByteArray) (hp : pathOk p = true) (d : DS) (R : Bs) : lineR (bs p ++ (d.T ++ R)) = sepBy 32 (bs p :: d.flds) ∧ restR (bs p ++ (d.T ++ R)) = R ∧ fieldsR (bs p ++ (d.T ++ R)) = bs p :: d.flds := by
  have hpl := path_plain p hp
  have p10 : (10 : UInt8) ∉ bs p := fun h => by have := hpl.1 _ h; simp at this
  have p32 : (32 : UInt8) ∉ bs p := fun h => by have := List.count_pos_iff.2 h; omega
  have hno : ∀ q ∈ bs p :: d.flds, (10 : UInt8) ∉ q ∧ (32 : UInt8) ∉ q := fun q hq => by
    rcases List.mem_cons.1 hq with rfl | hq
    · exact ⟨p10, p32⟩
    · exact flds_no d q hq
  have e : bs p ++ (d.T ++ R) = sepBy 32 (bs p :: d.flds) ++ 10 :: R := by
    rw [← List.append_assoc, flds_T]
    simp
  have hl := line_of (sepBy 32 (bs p :: d.flds)) R (sepBy_no 32 10 (by decide) _ (fun q hq => (hno q hq).1))
  rw [← e] at hl
  refine ⟨hl.1, hl.2, ?_⟩
  unfold fieldsR
  rw [hl.1]
  exact fields_of _ (by simp) (by have := (flds_len d).2; simp; omega) (fun q hq => (hno q hq).2)
theorem recsR_iff (n s : Nat) (hn : 1 ≤ n) (h6 : n ≤ 6) (cm : Nat → Int) : ∀ (f : Nat) (t : Bs) (last : ByteArray) (R : Bs) (D : Drs), nlEnd t → t.length < f →
    (recsR n s cm f t last = some (R, D) ↔ t = drsT D ++ R ∧ blanks R < 2 ∧ okDrs n D ∧ (∀ y ∈ D, y.2.born ∧ couldB s cm (toRec y.2) = true) ∧ ∀ y ∈ D, slt last y.1 = true) := by
  intro f
  induction f with
  | zero => intro t last R D _ hf; omega
  | succ f ih =>
    intro t last R D hnl hf
    have hlen := fields_len t
    unfold recsR
    by_cases h3 : (fieldsR t).length < 3
    · rw [if_pos h3]
      have hb : blanks t < 2 := by omega
      constructor
      · intro h
        cases h
        exact ⟨rfl, hb, okDrs_nil n, by simp, by simp⟩
      · rintro ⟨rfl, h2, h3', h4, h5⟩
        cases D with
        | nil => rfl
        | cons y D =>
          obtain ⟨p, d⟩ := y
          rw [drsT_cons, List.append_assoc, List.append_assoc] at hb
          have := line_rec p d (drsT D ++ R) (h3'.paths (p, d) (by simp))
          omega
    · rw [if_neg h3]
      have hb : 2 ≤ blanks t := by omega
      constructor
      · intro h
        obtain ⟨d, hd, h⟩ := Option.bind_eq_some_iff.1 h
        split at h
        · rename_i hc
          simp only [Bool.and_eq_true] at hc
          obtain ⟨⟨c1, c2⟩, c3⟩ := hc
          obtain ⟨x, hx, h⟩ := Option.map_eq_some_iff.1 h
          obtain ⟨R', D'⟩ := x
          cases h
          have ht0 : t ≠ [] := by rintro rfl; simp [blanks] at hb
          obtain ⟨q1, q2⟩ := nl_line hnl ht0
          have hrl : (restR t).length < f := by have := congrArg List.length q1; simp at this; omega
          obtain ⟨i1, i2, i3, i4, i5⟩ := (ih (restR t) _ _ D' (nl_rest hnl) hrl).1 hx
          obtain ⟨r1, r2, r3⟩ := (recR_iff n hn h6 _ d).1 hd
          have hfs : fieldsR t = bs (ofBs ((fieldsR t).headD [])) :: d.flds := by
            rw [bs_ofBs, ← r3]
            cases hh : fieldsR t with
            | nil => rw [hh] at h3; simp at h3
            | cons a l => rfl
          generalize ofBs ((fieldsR t).headD []) = p at *
          have et : t = bs p ++ (d.T ++ restR t) := by
            rw [← List.append_assoc, flds_T, ← hfs, fields_join]
            simpa using q1
          have hall : ∀ y ∈ (p, d) :: D', y.2.born ∧ couldB s cm (toRec y.2) = true := fun y hy => by
            rcases List.mem_cons.1 hy with rfl | hy
            · exact ⟨r2, c3⟩
            · exact i4 y hy
          refine ⟨?_, i2, ⟨?_, ?_, ?_⟩, hall, ?_⟩
          · rw [drsT_cons, List.append_assoc, List.append_assoc, ← i1]
            exact et
          · intro y hy
            rcases List.mem_cons.1 hy with rfl | hy
            · exact c1
            · exact i3.paths y hy
          · intro y hy
            rcases List.mem_cons.1 hy with rfl | hy
            · exact r1
            · exact i3.oks y hy
          · rw [List.pairwise_cons]
            exact ⟨fun y hy => i5 y hy, i3.rise⟩
          · intro y hy
            rcases List.mem_cons.1 hy with rfl | hy
            · exact c2
            · exact slt_trans c2 (i5 y hy)
        · cases h
      · rintro ⟨rfl, h2, h3', h4, h5⟩
        cases D with
        | nil =>
          simp only [drsT, List.map_nil, List.flatten_nil, List.nil_append] at hb
          omega
        | cons y D =>
          obtain ⟨p, d⟩ := y
          have hp := h3'.paths (p, d) (by simp)
          have e : drsT ((p, d) :: D) ++ R = bs p ++ (d.T ++ (drsT D ++ R)) := by rw [drsT_cons, List.append_assoc, List.append_assoc]
          obtain ⟨l1, l2, l3⟩ := flds_line p hp d (drsT D ++ R)
          rw [e] at hnl hf ⊢
          have hp0 : 0 < (bs p).length := by
            unfold pathOk at hp
            rw [bs_len]
            simp only [Bool.and_eq_true, decide_eq_true_eq] at hp
            omega
          have I := (ih (drsT D ++ R) p R D (nl_drop (a := bs p ++ d.T) (by simpa using hnl)) (by simp at hf ⊢; omega)).2
            ⟨rfl, h2, ⟨fun y hy => h3'.paths y (List.mem_cons_of_mem _ hy), fun y hy => h3'.oks y (List.mem_cons_of_mem _ hy), (List.pairwise_cons.1 h3'.rise).2⟩, fun y hy => h4 y (List.mem_cons_of_mem _ hy), fun y hy => (List.pairwise_cons.1 h3'.rise).1 y hy⟩
          rw [l2, l3, List.tail_cons, List.headD_cons, ofBs_bs, (recR_iff n hn h6 _ d).2 ⟨h3'.oks (p, d) (by simp), (h4 (p, d) (by simp)).1, rfl⟩]
          simp only [Option.bind_some]
          rw [if_pos (by simp only [Bool.and_eq_true]; exact ⟨⟨hp, h5 (p, d) (by simp)⟩, (h4 (p, d) (by simp)).2⟩), I]
          rfl

end Go.Proofs.YtaelaldmibgibaaGreatDoor
