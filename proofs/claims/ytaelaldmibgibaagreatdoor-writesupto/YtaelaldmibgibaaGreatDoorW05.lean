/- What a net is, without memory: for each replica its count and its files, by rising paths; what the calls make of it. The document's answer and a net without memory: what hangs together (RInv); place changes nothing of it. The document's answer: Read. The document's answer: what a write or a removal makes of a net without memory. -/
import Derived.Test.YtaelaldmibgibaaGreatDoorW04

namespace Go.Proofs.YtaelaldmibgibaaGreatDoor

theorem bl_irrefl (x : List UInt8) : Op.bytesLess x x = false := by
  induction x with
  | nil => rfl
  | cons a x ih => simp [Op.bytesLess, ih]
theorem bl_trans (x y z : List UInt8) (h : Op.bytesLess x y = true) (h' : Op.bytesLess y z = true) : Op.bytesLess x z = true := by
  induction x generalizing y z with
  | nil =>
    cases z with
    | nil => cases y <;> simp [Op.bytesLess] at h'
    | cons c z => rfl
  | cons a x ih =>
    cases y with
    | nil => simp [Op.bytesLess] at h
    | cons b y =>
      cases z with
      | nil => simp [Op.bytesLess] at h'
      | cons c z =>
        simp only [Op.bytesLess, Bool.or_eq_true, decide_eq_true_eq, Bool.and_eq_true, beq_iff_eq] at *
        rcases h with h | ⟨rfl, h⟩
        · rcases h' with h' | ⟨rfl, h'⟩
          · exact .inl (UInt8.lt_trans h h')
          · exact .inl h
        · rcases h' with h' | ⟨rfl, h'⟩
          · exact .inl h'
          · exact .inr ⟨rfl, ih y z h h'⟩
theorem bl_tri (x y : List UInt8) (h : Op.bytesLess x y = false) (h' : Op.bytesLess y x = false) : x = y := by
  induction x generalizing y with
  | nil =>
    cases y with
    | nil => rfl
    | cons b y => simp [Op.bytesLess] at h
  | cons a x ih =>
    cases y with
    | nil => simp [Op.bytesLess] at h'
    | cons b y =>
      simp only [Op.bytesLess, Bool.or_eq_false_iff, decide_eq_false_iff_not, Bool.and_eq_false_iff, beq_eq_false_iff_ne] at *
      have e : a = b := by
        apply UInt8.toNat_inj.1
        have h1 := h.1
        have h2 := h'.1
        rw [UInt8.lt_iff_toNat_lt] at h1 h2
        omega
      subst e
      rw [ih y (by simpa using h.2) (by simpa using h'.2)]

theorem slt_irrefl (a : ByteArray) : slt a a = false := bl_irrefl _
theorem slt_trans {a b c : ByteArray} (h : slt a b = true) (h' : slt b c = true) : slt a c = true := bl_trans _ _ _ h h'
theorem slt_asymm {a b : ByteArray} (h : slt a b = true) : slt b a = false := by
  cases e : slt b a with
  | false => rfl
  | true => rw [← slt_irrefl a]; exact (slt_trans h e).symm
theorem slt_tri {a b : ByteArray} (h : slt a b = false) (h' : slt b a = false) : a = b := by
  apply (seq_iff a b).1
  unfold seq
  rw [beq_iff_eq]
  exact bl_tri _ _ h h'
theorem slt_ne {a b : ByteArray} (h : slt a b = true) : a ≠ b := fun e => by rw [e, slt_irrefl] at h; cases h

abbrev Files := List (ByteArray × ByteArray)
/-- rising by the paths -/
def Rising (F : Files) : Prop := F.Pairwise (fun x y => slt x.1 y.1 = true)
def put (p t : ByteArray) (F : Files) : Files := F.filter (fun x => slt x.1 p) ++ (p, t) :: F.filter (fun x => slt p x.1)
def del (p : ByteArray) (F : Files) : Files := F.filter (fun x => slt x.1 p) ++ F.filter (fun x => slt p x.1)
def get (p : ByteArray) (F : Files) : Option ByteArray := (F.find? (fun x => seq x.1 p)).map (·.2)

/-- where files are parted about a path -/
structure Parts (p : ByteArray) (X M Y : Files) : Prop where
  lo : ∀ x ∈ X, slt x.1 p = true
  hi : ∀ x ∈ Y, slt p x.1 = true
  mid : ∀ x ∈ M, x.1 = p
theorem filter_all {α : Type} (f : α → Bool) (l : List α) (h : ∀ x ∈ l, f x = true) : l.filter f = l := List.filter_eq_self.2 h
theorem filter_none {α : Type} (f : α → Bool) (l : List α) (h : ∀ x ∈ l, f x = false) : l.filter f = [] := List.filter_eq_nil_iff.2 (fun x hx => by rw [h x hx]; simp)
theorem Parts.fl {p : ByteArray} {X M Y : Files} (h : Parts p X M Y) : (X ++ M ++ Y).filter (fun x => slt x.1 p) = X := by
  rw [List.filter_append, List.filter_append, filter_all _ X h.lo, filter_none _ M (fun x hx => by rw [h.mid x hx]; exact slt_irrefl p), filter_none _ Y (fun x hx => slt_asymm (h.hi x hx))]
  simp
theorem Parts.fr {p : ByteArray} {X M Y : Files} (h : Parts p X M Y) : (X ++ M ++ Y).filter (fun x => slt p x.1) = Y := by
  rw [List.filter_append, List.filter_append, filter_all _ Y h.hi, filter_none _ M (fun x hx => by rw [h.mid x hx]; exact slt_irrefl p), filter_none _ X (fun x hx => slt_asymm (h.lo x hx))]
  simp
theorem Parts.put {p t : ByteArray} {X M Y : Files} (h : Parts p X M Y) : put p t (X ++ M ++ Y) = X ++ (p, t) :: Y := by
  unfold Go.Proofs.YtaelaldmibgibaaGreatDoor.put; rw [h.fl, h.fr]
theorem Parts.del {p : ByteArray} {X M Y : Files} (h : Parts p X M Y) : del p (X ++ M ++ Y) = X ++ Y := by
  unfold Go.Proofs.YtaelaldmibgibaaGreatDoor.del; rw [h.fl, h.fr]
theorem Parts.get {p : ByteArray} {X M Y : Files} (h : Parts p X M Y) : get p (X ++ M ++ Y) = M.head?.map (·.2) := by
  unfold Go.Proofs.YtaelaldmibgibaaGreatDoor.get
  have hX : X.find? (fun x => seq x.1 p) = none := List.find?_eq_none.2 (fun x hx hs => slt_ne (h.lo x hx) ((seq_iff _ _).1 hs))
  have hY : Y.find? (fun x => seq x.1 p) = none := List.find?_eq_none.2 (fun x hx hs => slt_ne (h.hi x hx) ((seq_iff _ _).1 hs).symm)
  rw [List.find?_append, List.find?_append, hX, hY]
  cases M with
  | nil => rfl
  | cons m M =>
    have := (seq_iff m.1 p).2 (h.mid m (by simp))
    simp [this]

/-- a net -/
structure Abs where
  n : Nat
  F : Nat → Files
  c : Nat → Int

def Abs.set (A : Abs) (r : Nat) (F : Files) (c : Int) : Abs := { A with F := fun q => if q = r then F else A.F q, c := fun q => if q = r then c else A.c q }
/-- is a replica asked wrongly? -/
def Abs.out (A : Abs) (r : Int) : Bool := decide (r < 0 ∨ (A.n : Int) ≤ r)

def Abs.writeE (A : Abs) (r : Int) (p t : ByteArray) : Int :=
  if A.out r = true then 1 else if pathOk p = false then 2 else if 60 < t.size then 3
  else if 1000000000 ≤ A.c r.toNat ∨ (get p (A.F r.toNat) = none ∧ 20 ≤ (A.F r.toNat).length) then 5 else 0
def Abs.write (A : Abs) (r : Int) (p t : ByteArray) : Abs :=
  if A.writeE r p t = 0 then A.set r.toNat (put p t (A.F r.toNat)) (A.c r.toNat + 1) else A
def Abs.removeE (A : Abs) (r : Int) (p : ByteArray) : Int :=
  if A.out r = true then 1 else if pathOk p = false then 2 else if get p (A.F r.toNat) = none then 4
  else if 1000000000 ≤ A.c r.toNat then 5 else 0
def Abs.remove (A : Abs) (r : Int) (p : ByteArray) : Abs :=
  if A.removeE r p = 0 then A.set r.toNat (del p (A.F r.toNat)) (A.c r.toNat + 1) else A
def Abs.readE (A : Abs) (r : Int) (p : ByteArray) : Int :=
  if A.out r = true then 1 else if pathOk p = false then 2 else if get p (A.F r.toNat) = none then 4 else 0
def Abs.readT (A : Abs) (r : Int) (p : ByteArray) : ByteArray :=
  if A.readE r p = 0 then (get p (A.F r.toNat)).getD ⟨#[]⟩ else ⟨#[]⟩

end Go.Proofs.YtaelaldmibgibaaGreatDoor

namespace Go.Proofs.YtaelaldmibgibaaGreatDoor
open Go.RowKit

def Sorted (ps : List ByteArray) : Prop := ps.Pairwise (fun a b => slt a b = true)
/-- the files of a row of spots -/
def rowF (ps : List ByteArray) (l : List SP) : Files := ((ps.zip l).filter (·.2.there)).map (fun x => (x.1, x.2.text))
def rowM (p : ByteArray) (s : SP) : Files := if s.there = true then [(p, s.text)] else []

theorem rowF_split (a b : List ByteArray) (p : ByteArray) (la lb : List SP) (s : SP) (h : a.length = la.length) : rowF (a ++ p :: b) (la ++ s :: lb) = rowF a la ++ rowM p s ++ rowF b lb := by
  unfold rowF rowM
  rw [List.zip_append h, List.filter_append, List.map_append, List.zip_cons_cons, List.filter_cons]
  by_cases ht : s.there = true
  · simp [ht]
  · simp [ht]
theorem rowF_mem {ps : List ByteArray} {l : List SP} {x : ByteArray × ByteArray} (h : x ∈ rowF ps l) : x.1 ∈ ps := by
  unfold rowF at h
  rw [List.mem_map] at h
  obtain ⟨y, hy, rfl⟩ := h
  exact (List.of_mem_zip (List.mem_filter.1 hy).1).1
theorem rowF_length (ps : List ByteArray) (l : List SP) (h : ps.length = l.length) : (rowF ps l).length = filesOf l := by
  unfold rowF filesOf
  rw [List.length_map]
  induction l generalizing ps with
  | nil => simp
  | cons s l ih =>
    cases ps with
    | nil => simp at h
    | cons p ps =>
      rw [List.zip_cons_cons, List.filter_cons, List.filter_cons]
      have := ih ps (by simpa using h)
      by_cases ht : s.there = true <;> simp [ht, this]

structure RInv (S : RS) (A : Abs) : Prop where
  n : A.n = S.n
  sorted : Sorted S.paths
  len : ∀ (r : Nat) (x : Value × List SP), S.rows[r]? = some x → x.2.length = S.paths.length
  files : ∀ (r : Nat) (v : Value) (l : List SP), S.rows[r]? = some (v, l) → A.F r = rowF S.paths l
  cnt : ∀ r, r < S.n → A.c r = S.count r ∧ 0 ≤ A.c r
  tm : ∀ (r : Nat) (v : Value) (l : List SP) (cw : Value) (c : List Int), S.rows[r]? = some (v, l) → S.coms[r]? = some (cw, c) → ∀ s ∈ l, s.tm = c

/-- about a path that is there -/
theorem sorted_split {a b : List ByteArray} {p : ByteArray} (h : Sorted (a ++ p :: b)) : (∀ q ∈ a, slt q p = true) ∧ (∀ q ∈ b, slt p q = true) := by
  unfold Sorted at h
  rw [List.pairwise_append] at h
  exact ⟨fun q hq => h.2.2 q hq p (by simp), fun q hq => (List.pairwise_cons.1 h.2.1).1 q hq⟩
theorem parts_of {a b : List ByteArray} {p : ByteArray} {la lb : List SP} {s : SP} (h : Sorted (a ++ p :: b)) : Parts p (rowF a la) (rowM p s) (rowF b lb) :=
  ⟨fun x hx => (sorted_split h).1 _ (rowF_mem hx), fun x hx => (sorted_split h).2 _ (rowF_mem hx), fun x hx => by
    unfold rowM at hx
    split at hx
    · simp at hx; rw [hx]
    · simp at hx⟩

theorem atOf_take (ps : List ByteArray) (p : ByteArray) : ∀ q ∈ ps.take (atOf ps p), slt q p = true := by
  unfold atOf
  induction ps with
  | nil => simp
  | cons x ps ih =>
    rw [List.takeWhile_cons]
    by_cases hx : slt x p = true
    · rw [if_pos hx]
      intro q hq
      simp at hq
      rcases hq with rfl | hq
      · exact hx
      · exact ih q hq
    · rw [if_neg hx]; simp
theorem atOf_le (ps : List ByteArray) (p : ByteArray) : atOf ps p ≤ ps.length := by
  unfold atOf
  induction ps with
  | nil => simp
  | cons x ps ih =>
    rw [List.takeWhile_cons]
    split
    · simp; exact ih
    · simp
theorem atOf_get (ps : List ByteArray) (p q : ByteArray) (h : ps[atOf ps p]? = some q) : slt q p = false := by
  unfold atOf at h
  induction ps with
  | nil => simp at h
  | cons x ps ih =>
    rw [List.takeWhile_cons] at h
    by_cases hx : slt x p = true
    · rw [if_pos hx] at h
      simp at h
      exact ih h
    · rw [if_neg hx] at h
      simp at h
      subst h
      simpa using hx
theorem atOf_drop (ps : List ByteArray) (p : ByteArray) (hs : Sorted ps) (hnew : ps[atOf ps p]? ≠ some p) : ∀ q ∈ ps.drop (atOf ps p), slt p q = true := by
  intro q hq
  obtain ⟨i, hi, rfl⟩ := List.mem_iff_getElem.1 hq
  simp only [List.length_drop] at hi
  rw [List.getElem_drop]
  have hlt : atOf ps p < ps.length := by omega
  have h0 := atOf_get ps p ps[atOf ps p] (List.getElem?_eq_getElem hlt)
  have h1 : slt p ps[atOf ps p] = true := by
    cases e : slt p ps[atOf ps p] with
    | true => rfl
    | false =>
      have := slt_tri h0 e
      exact absurd (by rw [List.getElem?_eq_getElem hlt, this]) hnew
  cases i with
  | zero => simpa using h1
  | succ i =>
    have := List.pairwise_iff_getElem.1 hs (atOf ps p) (atOf ps p + (i + 1)) hlt (by omega) (by omega)
    exact slt_trans h1 this
theorem sorted_ins (ps : List ByteArray) (p : ByteArray) (hs : Sorted ps) (hnew : ps[atOf ps p]? ≠ some p) : Sorted (ps.take (atOf ps p) ++ p :: ps.drop (atOf ps p)) := by
  unfold Sorted
  rw [List.pairwise_append]
  refine ⟨hs.sublist (List.take_sublist _ _), ?_, ?_⟩
  · rw [List.pairwise_cons]
    exact ⟨atOf_drop ps p hs hnew, hs.sublist (List.drop_sublist _ _)⟩
  · intro x hx y hy
    have h1 := atOf_take ps p x hx
    rw [List.mem_cons] at hy
    rcases hy with rfl | hy
    · exact h1
    · exact slt_trans h1 (atOf_drop ps p hs hnew y hy)

/-- a new path changes nothing of what there is -/
theorem RInv.placed {w : World} {b : Nat} {ρ : Nat → Nat × Nat} {S S' : RS} {A : Abs} (h : RInv S A) (hR : RefRep w b ρ S) (p : ByteArray) (hnew : S.paths[atOf S.paths p]? ≠ some p)
    (hRow : Rowed S S' (atOf S.paths p) (S.paths.take (atOf S.paths p) ++ p :: S.paths.drop (atOf S.paths p)) S.n) (hl : S'.rows.length = S.n) : RInv S' A := by
  have hat := atOf_le S.paths p
  have key : ∀ (r : Nat) (v' : Value) (l' : List SP), S'.rows[r]? = some (v', l') → ∃ (v : Value) (l : List SP) (fr : SP) (cw : Value) (c : List Int), S.rows[r]? = some (v, l) ∧ l' = l.take (atOf S.paths p) ++ fr :: l.drop (atOf S.paths p) ∧ S.coms[r]? = some (cw, c) ∧ Fresh S.n c fr := by
    intro r v' l' hx
    have hr : r < S.n := by have := (List.getElem?_eq_some_iff.1 hx).1; omega
    have hrl : r < S.rows.length := by rw [hR.rowl]; exact hr
    obtain ⟨v, l, hx0⟩ : ∃ v l, S.rows[r]? = some (v, l) := ⟨S.rows[r].1, S.rows[r].2, List.getElem?_eq_getElem hrl⟩
    obtain ⟨v'', fr, cw, c, h1, h2, h3⟩ := hRow.lo r v l hx0 hr
    rw [h1] at hx
    simp at hx
    exact ⟨v, l, fr, cw, c, hx0, hx.2.symm, h2, h3⟩
  refine ⟨by rw [h.n, hRow.n], ?_, ?_, ?_, ?_, ?_⟩
  · rw [hRow.paths]; exact sorted_ins _ _ h.sorted hnew
  · rintro r ⟨v', l'⟩ hx
    obtain ⟨v, l, fr, cw, c, h0, rfl, _, _⟩ := key r v' l' hx
    have := h.len r _ h0
    simp only at this
    rw [hRow.paths]
    simp only [List.length_append, List.length_cons, List.length_take, List.length_drop]
    omega
  · intro r v' l' hx
    obtain ⟨v, l, fr, cw, c, h0, rfl, _, hf⟩ := key r v' l' hx
    have hlen := h.len r _ h0
    simp only at hlen
    rw [hRow.paths, rowF_split _ _ _ _ _ _ (by rw [List.length_take, List.length_take, hlen]), h.files r v l h0]
    have e : rowM p fr = [] := by unfold rowM; rw [hf.there]; simp
    rw [e, List.append_nil]
    unfold rowF
    rw [← List.map_append, ← List.filter_append, ← List.zip_append (by rw [List.length_take, List.length_take, hlen]), List.take_append_drop, List.take_append_drop]
  · intro r hr
    have := h.cnt r (by rw [← hRow.n]; exact hr)
    unfold RS.count at *
    rw [hRow.coms]
    exact this
  · intro r v' l' cw c hx hc s hs
    obtain ⟨v, l, fr, cw', c', h0, rfl, h2, hf⟩ := key r v' l' hx
    rw [hRow.coms, h2] at hc
    simp at hc
    obtain ⟨rfl, rfl⟩ := hc
    have hs' : s ∈ l ∨ s = fr := by
      simp only [List.mem_append, List.mem_cons] at hs
      rcases hs with hs | hs | hs
      · exact .inl (List.mem_of_mem_take hs)
      · exact .inr hs
      · exact .inl (List.mem_of_mem_drop hs)
    rcases hs' with hs' | rfl
    · exact h.tm r v l _ _ h0 h2 s hs'
    · exact hf.tm

/-- place, of whatever path -/
theorem place_any (b : Nat) (p : ByteArray) (ρ : Nat → Nat × Nat) (S : RS) (A : Abs) (w : World) (h : RefRep w b ρ S) (hI : RInv S A) (hm : S.paths.length ≤ 100000000) :
    Calls Tryz.prog 56 #[.pointer (some ⟨b, 0, none⟩), .string p] w fun e w' => ∃ ρ' S' at_, e = .returned (.int .i64 (at_ : Nat)) ∧ RefRep w' b ρ' S' ∧ RInv S' A ∧ Grow w ρ ρ' ∧ Fr (fun k => (ρ k).1 ≠ 0) w w' ∧
      S'.paths[at_]? = some p ∧ S'.n = S.n ∧ S'.paths.length ≤ S.paths.length + 1 ∧ (∀ q ∈ S'.paths, q ∈ S.paths ∨ q = p) := by
  have hat := atOf_le S.paths p
  by_cases hin : S.paths[atOf S.paths p]? = some p
  · refine (place_old b p ρ S w h hin).mono ?_
    rintro e w' ⟨rfl, rfl⟩
    exact ⟨ρ, S, _, rfl, h, hI, Grow.refl _ _, Fr.refl _ _, hin, rfl, by omega, fun q hq => .inl hq⟩
  · have fin : ∀ (e : Ending) (w' : World), (∃ ρ' S', e = .returned (.int .i64 (atOf S.paths p)) ∧ RefRep w' b ρ' S' ∧ Grow w ρ ρ' ∧ Fr (fun k => (ρ k).1 ≠ 0) w w' ∧
        Rowed S S' (atOf S.paths p) (S.paths.take (atOf S.paths p) ++ p :: S.paths.drop (atOf S.paths p)) S.n) → ∃ ρ' S' at_, e = .returned (.int .i64 (at_ : Nat)) ∧ RefRep w' b ρ' S' ∧ RInv S' A ∧ Grow w ρ ρ' ∧ Fr (fun k => (ρ k).1 ≠ 0) w w' ∧
      S'.paths[at_]? = some p ∧ S'.n = S.n ∧ S'.paths.length ≤ S.paths.length + 1 ∧ (∀ q ∈ S'.paths, q ∈ S.paths ∨ q = p) := by
      rintro e w' ⟨ρ', S', rfl, hR', hG, hF, hRow⟩
      refine ⟨ρ', S', _, rfl, hR', hI.placed h p hin hRow (by rw [hR'.rowl, hRow.n]), hG, hF, ?_, hRow.n, ?_, ?_⟩
      · rw [hRow.paths, List.getElem?_append_right (by rw [List.length_take]; omega), List.length_take]
        have : atOf S.paths p - min (atOf S.paths p) S.paths.length = 0 := by omega
        rw [this]; rfl
      · rw [hRow.paths]
        simp only [List.length_append, List.length_cons, List.length_take, List.length_drop]; omega
      · intro q hq
        rw [hRow.paths] at hq
        rcases List.mem_append.1 hq with hq | hq
        · exact .inl (List.mem_of_mem_take hq)
        · rcases List.mem_cons.1 hq with hq | hq
          · exact .inr hq
          · exact .inl (List.mem_of_mem_drop hq)
    rcases Nat.lt_or_ge (atOf S.paths p) S.paths.length with hlt | hge
    · exact (place_mid b p ρ S w h hin hI.len hm hlt).mono fin
    · exact (place_end b p ρ S w h hin hI.len hm (by omega)).mono fin

end Go.Proofs.YtaelaldmibgibaaGreatDoor

namespace Go.Proofs.YtaelaldmibgibaaGreatDoor
open Go.RowKit

/-- the spot of a path, in a replica -/
theorem spot_at {w : World} {b : Nat} {ρ : Nat → Nat × Nat} {S : RS} {A : Abs} (h : RefRep w b ρ S) (hI : RInv S A) (r : Nat) (hr : r < S.n) (i : Nat) (p : ByteArray) (hp : S.paths[i]? = some p) :
    ∃ sg sc g cap l s, S.sv = .slice (some ⟨sg, 0, none⟩) S.n sc ∧ w.cell? ⟨b, 3, none⟩ = some (.slice (some ⟨sg, 0, none⟩) S.n sc) ∧ w.cell? ⟨sg, r, none⟩ = some (.slice (some ⟨g, 0, none⟩) l.length cap) ∧ S.rows[r]? = some (.slice (some ⟨g, 0, none⟩) l.length cap, l) ∧ l[i]? = some s ∧ l.length = S.paths.length ∧
      A.F r = rowF (S.paths.take i) (l.take i) ++ rowM p s ++ rowF (S.paths.drop (i + 1)) (l.drop (i + 1)) ∧ Parts p (rowF (S.paths.take i) (l.take i)) (rowM p s) (rowF (S.paths.drop (i + 1)) (l.drop (i + 1))) ∧
      g < w.heap.size ∧ (∀ j, j < 6 → w.cell? ⟨g, i * 6 + j, none⟩ = s.cells[j]?) ∧ (∀ k, w.frozen? ⟨g, k, none⟩ = false) := by
  obtain ⟨sg, sc, v, l, es, hs, hx, hrow, _, _, _, _⟩ := h.theRow r hr
  have hl := hI.len r _ hx
  simp only at hl
  obtain ⟨hi, rfl⟩ := List.getElem?_eq_some_iff.1 hp
  have hks : l[i]? = some (l[i]'(by omega)) := List.getElem?_eq_getElem (by omega)
  generalize l[i]'(by omega) = s at hks
  obtain ⟨g, cap, rfl, hg, _, hc, hf⟩ := spot_cells hrow i s hks
  have e1 : S.paths = S.paths.take i ++ S.paths[i] :: S.paths.drop (i + 1) := by rw [← List.drop_eq_getElem_cons hi, List.take_append_drop]
  have e2 : l = l.take i ++ s :: l.drop (i + 1) := by
    obtain ⟨hil, rfl⟩ := List.getElem?_eq_some_iff.1 hks
    rw [← List.drop_eq_getElem_cons hil, List.take_append_drop]
  refine ⟨sg, sc, g, cap, l, s, es, by rw [h.c3, es], hs, hx, hks, hl, ?_, ?_, hg, hc, hf⟩
  · rw [hI.files r _ l hx]
    have := rowF_split (S.paths.take i) (S.paths.drop (i + 1)) S.paths[i] (l.take i) (l.drop (i + 1)) s (by rw [List.length_take, List.length_take]; omega)
    rw [← e1, ← e2] at this
    exact this
  · refine parts_of (a := S.paths.take i) (b := S.paths.drop (i + 1)) ?_
    rw [← e1]; exact hI.sorted

theorem rowM_head (p : ByteArray) (s : SP) : (rowM p s).head?.map (·.2) = if s.there = true then some s.text else none := by
  unfold rowM; split <;> rfl

theorem asked_bad (b : Nat) (r : Int) (s : ByteArray) (ρ : Nat → Nat × Nat) (S : RS) (A : Abs) (w : World) (h : RefRep w b ρ S) (hI : RInv S A) (hs : s.size ≤ maxLen) (ho : A.out r = true) :
    Calls Tryz.prog 150 #[.pointer (some ⟨b, 0, none⟩), .int .i64 r, .string s] w fun e w' => e = .returned (.int .i64 1) ∧ w' = w := by
  have := asked_any b r s ρ S w h hs
  unfold Abs.out at ho
  rw [hI.n] at ho
  rw [if_pos (by simpa using ho)] at this
  exact this
theorem asked_path (b : Nat) (r : Int) (s : ByteArray) (ρ : Nat → Nat × Nat) (S : RS) (A : Abs) (w : World) (h : RefRep w b ρ S) (hI : RInv S A) (hs : s.size ≤ maxLen) (ho : A.out r = false) (hp : pathOk s = false) :
    Calls Tryz.prog 150 #[.pointer (some ⟨b, 0, none⟩), .int .i64 r, .string s] w fun e w' => e = .returned (.int .i64 2) ∧ w' = w := by
  have := asked_any b r s ρ S w h hs
  unfold Abs.out at ho
  rw [hI.n] at ho
  rw [if_neg (by simpa using ho), if_neg (by rw [hp]; simp)] at this
  exact this
theorem asked_ok (b : Nat) (r : Int) (s : ByteArray) (ρ : Nat → Nat × Nat) (S : RS) (A : Abs) (w : World) (h : RefRep w b ρ S) (hI : RInv S A) (hs : s.size ≤ maxLen) (ho : A.out r = false) (hp : pathOk s = true) :
    Calls Tryz.prog 150 #[.pointer (some ⟨b, 0, none⟩), .int .i64 r, .string s] w fun e w' => e = .returned (.int .i64 0) ∧ w' = w := by
  have := asked_any b r s ρ S w h hs
  unfold Abs.out at ho
  rw [hI.n] at ho
  rw [if_neg (by simpa using ho), if_pos hp] at this
  exact this
theorem out_nat {A : Abs} {r : Int} (h : A.out r = false) : ∃ q : Nat, r = (q : Int) ∧ q < A.n := by
  unfold Abs.out at h
  simp at h
  exact ⟨r.toNat, by omega, by omega⟩

theorem ret_si {a b : ByteArray} {x y : Int} (h : a = b) (h' : x = y) : Ending.returned (.tuple #[.string a, .int .i64 x]) = .returned (.tuple #[.string b, .int .i64 y]) := by rw [h, h']

/-- what a call of the document's answer leaves, besides its answer -/
structure After (w : World) (b : Nat) (ρ : Nat → Nat × Nat) (S : RS) (A : Abs) (w' : World) (ρ' : Nat → Nat × Nat) (S' : RS) : Prop where
  rep : RefRep w' b ρ' S'
  inv : RInv S' A
  grow : Grow w ρ ρ'
  fr : Fr (fun k => (ρ k).1 ≠ 0) w w'
  n : S'.n = S.n
  len : S'.paths.length ≤ S.paths.length + 1
  sub : ∀ q ∈ S'.paths, q ∈ S.paths ∨ pathOk q = true
theorem After.refl {w : World} {b : Nat} {ρ : Nat → Nat × Nat} {S : RS} {A : Abs} (h : RefRep w b ρ S) (hI : RInv S A) : After w b ρ S A w ρ S :=
  ⟨h, hI, Grow.refl _ _, Fr.refl _ _, rfl, by omega, fun q hq => .inl hq⟩

set_option maxHeartbeats 600000 in
theorem refRead_any (b : Nat) (r : Int) (p : ByteArray) (ρ : Nat → Nat × Nat) (S : RS) (A : Abs) (w : World) (h : RefRep w b ρ S) (hI : RInv S A) (hm : S.paths.length ≤ 100000000) (hs : p.size ≤ maxLen) :
    Calls Tryz.prog 85 #[.pointer (some ⟨b, 0, none⟩), .int .i64 r, .string p] w fun e w' => ∃ ρ' S', e = .returned (.tuple #[.string (A.readT r p), .int .i64 (A.readE r p)]) ∧ After w b ρ S A w' ρ' S' := by
  cases ho : A.out r with
  | true =>
    have e1 : A.readE r p = 1 := by unfold Abs.readE; rw [if_pos ho]
    have e2 : A.readT r p = ⟨#[]⟩ := by unfold Abs.readT; rw [e1]; rfl
    rw [e1, e2]
    have H := hide (After.refl h hI)
    have C := hide (asked_bad b r p ρ S A w h hI hs ho)
    clear h hI
    go_enter Tryz.func85, Tryz.ntmps85
    go_wp2_with (go_at_call 150; refine C.out.mono ?_; rintro e w' ⟨rfl, rfl⟩)
    go_ret2
    exact ⟨ρ, S, rfl, H.out⟩
  | false =>
    cases hp : pathOk p with
    | false =>
      have e1 : A.readE r p = 2 := by unfold Abs.readE; rw [if_neg (by rw [ho]; simp), if_pos hp]
      have e2 : A.readT r p = ⟨#[]⟩ := by unfold Abs.readT; rw [e1]; rfl
      rw [e1, e2]
      have H := hide (After.refl h hI)
      have C := hide (asked_path b r p ρ S A w h hI hs ho hp)
      clear h hI
      go_enter Tryz.func85, Tryz.ntmps85
      go_wp2_with (go_at_call 150; refine C.out.mono ?_; rintro e w' ⟨rfl, rfl⟩)
      go_ret2
      exact ⟨ρ, S, rfl, H.out⟩
    | true =>
      have C := hide (asked_ok b r p ρ S A w h hI hs ho hp)
      have D := hide (place_any b p ρ S A w h hI hm)
      have HPO := hide hp
      have e1 : Hid (A.readE r p = if get p (A.F r.toNat) = none then 4 else 0) := by unfold Hid Abs.readE; rw [if_neg (by rw [ho]; simp), if_neg (by rw [hp]; simp)]
      have e2 : Hid (A.readT r p = if A.readE r p = 0 then (get p (A.F r.toNat)).getD ⟨#[]⟩ else ⟨#[]⟩) := by unfold Hid Abs.readT; rfl
      obtain ⟨q, rfl, hq⟩ := out_nat ho
      have hqn : q < S.n := by rw [← hI.n]; exact hq
      clear h hI ho hp hq
      rw [Int.toNat_natCast] at e1 e2
      go_enter Tryz.func85, Tryz.ntmps85
      go_wp2_with fail
      refine C.out.mono ?_
      rintro e w ⟨rfl, rfl⟩
      go_wp2_with fail
      refine D.out.mono ?_
      rintro e w' ⟨ρ', S', i, rfl, hR, hI', hG, hF, hpi, hn', hl', hsub⟩
      obtain ⟨sg, sc, g, cap, l, s, es, h3, hsr, hx, hks, hll, hA, hP, hg, hc, _⟩ := spot_at hR hI' q (by omega) i p hpi
      have hget := hP.get
      rw [← hA, rowM_head] at hget
      have c0 : w'.cell? ⟨g, i * 6, none⟩ = some (.bool s.there) := by simpa [SP.cells] using hc 0 (by omega)
      have c1 : w'.cell? ⟨g, i * 6 + 1, none⟩ = some (.string s.text) := by simpa [SP.cells] using hc 1 (by omega)
      have hil : i < l.length := (List.getElem?_eq_some_iff.1 hks).1
      have hn6 := hR.n6
      have T := hide (⟨hR, hI', hG, hF, hn', hl', fun q hq => (hsub q hq).imp id (fun e => by rw [e]; exact HPO.out)⟩ : After w b ρ S A w' ρ' S')
      clear hks hx es hA hP hc hpi hG hF hl' hll hI' hR
      cases ht : s.there with
      | true =>
        rw [ht] at hget c0
        rw [if_pos rfl] at hget
        have E1 : Hid (A.readE (q : Int) p = 0) := by unfold Hid; rw [e1.out, hget]; rfl
        have E2 : Hid (A.readT (q : Int) p = s.text) := by unfold Hid; rw [e2.out, E1.out, hget]; rfl
        clear hget e1 e2 ht
        generalize S'.n = n at *
        go_wp2
        go_ret2
        exact ⟨ρ', S', ret_si E2.out.symm E1.out.symm, T.out⟩
      | false =>
        rw [ht] at hget c0
        rw [if_neg (by simp)] at hget
        have E1 : Hid (A.readE (q : Int) p = 4) := by unfold Hid; rw [e1.out, hget]; rfl
        have E2 : Hid (A.readT (q : Int) p = ⟨#[]⟩) := by unfold Hid; rw [e2.out, E1.out]; rfl
        clear hget e1 e2 ht
        generalize S'.n = n at *
        go_wp2
        go_ret2
        exact ⟨ρ', S', ret_si E2.out.symm E1.out.symm, T.out⟩

end Go.Proofs.YtaelaldmibgibaaGreatDoor

namespace Go.Proofs.YtaelaldmibgibaaGreatDoor
open Go.RowKit

def tmSet (q : Nat) (x : Int) (s : SP) : SP := { s with tm := s.tm.set q x }

theorem rowF_map (ps : List ByteArray) (l : List SP) (f : SP → SP) (h1 : ∀ s, (f s).there = s.there) (h2 : ∀ s, (f s).text = s.text) : rowF ps (l.map f) = rowF ps l := by
  unfold rowF
  induction l generalizing ps with
  | nil => simp
  | cons s l ih =>
    cases ps with
    | nil => simp
    | cons p ps =>
      simp only [List.map_cons, List.zip_cons_cons, List.filter_cons, h1]
      by_cases ht : s.there = true <;> simp [ht, h2, ih]

/-- behind acts and what is written into one spot -/
theorem RInv.spotSet {w : World} {b : Nat} {ρ : Nat → Nat × Nat} {S : RS} {A : Abs} (h : RInv S A) (hR : RefRep w b ρ S) (q : Nat) (hq : q < S.n) (x : Int) (hx0 : 0 ≤ x) (v v' cw : Value) (l : List SP) (c : List Int) (hx : S.rows[q]? = some (v, l)) (hc : S.coms[q]? = some (cw, c))
    (i : Nat) (p : ByteArray) (hp : S.paths[i]? = some p) (sf : SP) (htm : sf.tm = c.set q x) :
    RInv { S with coms := S.coms.set q (cw, c.set q x), rows := S.rows.set q (v', (l.map (tmSet q x)).set i sf) } (A.set q (if sf.there = true then put p sf.text (A.F q) else del p (A.F q)) x) := by
  have hrl : q < S.rows.length := by rw [hR.rowl]; exact hq
  have hcl : q < S.coms.length := by rw [hR.coml]; exact hq
  have hll := h.len q _ hx
  simp only at hll
  obtain ⟨sg, sc, g, cap, l', s, _, _, _, hx', hks, _, hA, hP, _⟩ := spot_at hR h q hq i p hp
  rw [hx] at hx'
  simp at hx'
  obtain ⟨_, rfl⟩ := hx'
  obtain ⟨hi, hpe⟩ := List.getElem?_eq_some_iff.1 hp
  have key : ∀ r y, (S.rows.set q (v', (l.map (tmSet q x)).set i sf))[r]? = some y → (r = q ∧ y = (v', (l.map (tmSet q x)).set i sf)) ∨ (r ≠ q ∧ S.rows[r]? = some y) := by
    intro r y hy
    by_cases e : r = q
    · subst e
      simp [hrl] at hy
      exact .inl ⟨rfl, hy.symm⟩
    · rw [List.getElem?_set_ne (Ne.symm e)] at hy
      exact .inr ⟨e, hy⟩
  refine ⟨h.n, h.sorted, ?_, ?_, ?_, ?_⟩
  · intro r y hy
    rcases key r y hy with ⟨rfl, rfl⟩ | ⟨_, hy'⟩
    · simp [hll]
    · exact h.len r y hy'
  · intro r vv ll hy
    rcases key r _ hy with ⟨rfl, e⟩ | ⟨hne, hy'⟩
    · simp at e
      obtain ⟨rfl, rfl⟩ := e
      have e1 : S.paths = S.paths.take i ++ p :: S.paths.drop (i + 1) := by rw [← hpe, ← List.drop_eq_getElem_cons hi, List.take_append_drop]
      have e2 : (l.map (tmSet r x)).set i sf = (l.take i).map (tmSet r x) ++ sf :: (l.drop (i + 1)).map (tmSet r x) := by
        rw [List.set_eq_take_append_cons_drop, if_pos (by rw [List.length_map]; omega), List.map_take, List.map_drop]
      have e3 := rowF_split (S.paths.take i) (S.paths.drop (i + 1)) p ((l.take i).map (tmSet r x)) ((l.drop (i + 1)).map (tmSet r x)) sf (by rw [List.length_map, List.length_take, List.length_take]; omega)
      rw [← e1, ← e2, rowF_map _ _ (tmSet r x) (fun _ => rfl) (fun _ => rfl), rowF_map _ _ (tmSet r x) (fun _ => rfl) (fun _ => rfl)] at e3
      show (A.set r _ x).F r = rowF S.paths _
      rw [e3]
      simp only [Abs.set, if_true]
      rw [hA]
      by_cases ht : sf.there = true
      · rw [if_pos ht, hP.put]
        unfold rowM
        rw [if_pos ht]
        simp
      · rw [if_neg ht, hP.del]
        unfold rowM
        rw [if_neg ht]
        simp
    · show (A.set q _ x).F r = rowF S.paths ll
      simp only [Abs.set]
      rw [if_neg hne]
      exact h.files r vv ll hy'
  · intro r hr
    by_cases e : r = q
    · subst e
      have hcn : c.length = S.n := (hR.com r _ hc).2.1
      simp only [Abs.set, RS.count, List.getElem?_set, if_true, hcl]
      refine ⟨?_, hx0⟩
      simp [List.getD_eq_getElem?_getD, hcn, hq]
    · have := h.cnt r hr
      simp only [Abs.set]
      rw [if_neg e]
      unfold RS.count at *
      rw [List.getElem?_set_ne (Ne.symm e)]
      exact this
  · intro r vv ll cw' c' hy hc' t ht
    rcases key r _ hy with ⟨rfl, e⟩ | ⟨hne, hy'⟩
    · simp at e
      obtain ⟨rfl, rfl⟩ := e
      simp [hcl] at hc'
      obtain ⟨rfl, rfl⟩ := hc'
      rcases List.mem_or_eq_of_mem_set ht with ht | rfl
      · rw [List.mem_map] at ht
        obtain ⟨u, hu, rfl⟩ := ht
        simp only [tmSet]
        rw [h.tm r _ l _ _ hx hc u hu]
      · exact htm
    · simp only at hc'
      rw [List.getElem?_set_ne (Ne.symm hne)] at hc'
      exact h.tm r vv ll cw' c' hy' hc' t ht

theorem heap_set_congr {w w' : World} {k : Nat} (a : Addr) (v : Value) (h : w.heap[k]? = w'.heap[k]?) : (w.setCell a v).heap[k]? = (w'.setCell a v).heap[k]? := by
  simp only [World.setCell, Array.getElem?_modify, h]
/-- stores into two blocks: in whatever order -/
theorem heap_set_swap (w : World) (a b : Addr) (u v : Value) (h : a.block ≠ b.block) (k : Nat) : ((w.setCell a u).setCell b v).heap[k]? = ((w.setCell b v).setCell a u).heap[k]? := by
  by_cases e : k = a.block
  · subst e
    rw [heap_set_other h]
    exact heap_set_congr a u (heap_set_other h).symm
  · rw [heap_set_other (a := a) e]
    by_cases e' : k = b.block
    · subst e'
      exact heap_set_congr b v (heap_set_other e)
    · rw [heap_set_other e', heap_set_other e', heap_set_other e]

/-- the spot's list of changes is a new one, with one number in it written -/
theorem RefRep.newCh {w : World} {b : Nat} {ρ : Nat → Nat × Nat} {S : RS} (h : RefRep w b ρ S) (q : Nat) (_hq : q < S.n) (g cap : Nat) (l : List SP) (hx : S.rows[q]? = some (.slice (some ⟨g, 0, none⟩) l.length cap, l)) (i : Nat) (s : SP) (hs : l[i]? = some s)
    (gc cc : Nat) (ch : List Int) (hch : intRow w (.slice (some ⟨gc, 0, none⟩) S.n cc) ch) (hchl : ch.length = S.n) (hfree : (ρ gc).1 = 0) (hgl : gc < w.heap.size) (x : Int) :
    RefRep ((w.setCell ⟨g, i * 6 + 4, none⟩ (.slice (some ⟨gc, 0, none⟩) S.n cc)).setCell ⟨gc, q, none⟩ (.int .i64 x)) b (Go.Proofs.YtaelaldmibgibaaGreatDoor.upd ρ gc (6, 0))
      { S with rows := S.rows.set q (.slice (some ⟨g, 0, none⟩) l.length cap, l.set i { s with chv := .slice (some ⟨gc, 0, none⟩) S.n cc, ch := ch.set q x }) } := by
  have hρ : ρ g = (5, q) := (h.row q _ hx).2 g rfl
  have hgg : g ≠ gc := by rintro rfl; rw [hρ] at hfree; simp at hfree
  have h1 : RefRep (w.setCell ⟨gc, q, none⟩ (.int .i64 x)) b ρ S := h.keep (by rw [size_setCell]; omega) (fun k hk => heap_set_other (by simp only; rintro rfl; exact hk hfree))
  have h2 := h1.upd (6, 0) hfree (by rw [size_setCell]; exact hgl)
  have hsp := h2.sp q _ hx s (List.mem_of_getElem? hs)
  have h3 := h2.setSpot q g cap l hx i s { s with chv := .slice (some ⟨gc, 0, none⟩) S.n cc, ch := ch.set q x } hs 4 (.slice (some ⟨gc, 0, none⟩) S.n cc) (by omega) rfl
    ⟨intRow_set hch q x, by simpa using hchl, by intro k hk; simp [Value.ownBlock] at hk; subst hk; simp [Go.Proofs.YtaelaldmibgibaaGreatDoor.upd], hsp.tm, hsp.tml, hsp.tmr⟩
  exact h3.keep (by rw [size_setCell, size_setCell, size_setCell, size_setCell]; omega) (fun k _ => heap_set_swap w _ _ _ _ hgg k)

end Go.Proofs.YtaelaldmibgibaaGreatDoor
