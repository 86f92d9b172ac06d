/- The document's Unpack: what stands in the net's rows while records are put. The document's Unpack: where a path's place is; a record that is read, in memory. The document's verdict on a text that can be read. What holds of all that was read where the reader has not said no. The files of a row are the records of files that were read. -/
import Derived.Test.YtaelaldmibgibaaGreatDoorU32
import Derived.Test.YtaelaldmibgibaaGreatDoorU10
import Derived.Test.YtaelaldmibgibaaGreatDoorU27
import Derived.Test.YtaelaldmibgibaaGreatDoorU28

set_option linter.unusedVariables false
set_option linter.unusedSimpArgs false

namespace Go.Proofs.YtaelaldmibgibaaGreatDoor
open Go.RowKit

theorem atOf_mem (ps : List ByteArray) (p : ByteArray) (hs : Sorted ps) (hp : p ∈ ps) : ps[atOf ps p]? = some p := by
  obtain ⟨i, hi⟩ := List.getElem?_of_mem hp
  have hil := (List.getElem?_eq_some_iff.1 hi).1
  have : atOf ps p = i := by
    refine atOf_eq ps p i (by omega) (fun q hq => ?_) (fun q hq => by rw [hi] at hq; cases hq; exact slt_irrefl p)
    obtain ⟨j, hj⟩ := List.getElem?_of_mem hq
    have hji : j < i := by
      have := (List.getElem?_eq_some_iff.1 hj).1
      simp at this
      omega
    rw [List.getElem?_take_of_lt hji] at hj
    have hjl := (List.getElem?_eq_some_iff.1 hj).1
    have hp2 := List.pairwise_iff_getElem.1 hs j i hjl hil hji
    rw [(List.getElem?_eq_some_iff.1 hj).2, (List.getElem?_eq_some_iff.1 hi).2] at hp2
    exact hp2
  rw [this]
  exact hi
theorem sorted_inj {ps : List ByteArray} (hs : Sorted ps) {i j : Nat} {p : ByteArray} (hi : ps[i]? = some p) (hj : ps[j]? = some p) : i = j := by
  obtain ⟨h1, e1⟩ := List.getElem?_eq_some_iff.1 hi
  obtain ⟨h2, e2⟩ := List.getElem?_eq_some_iff.1 hj
  rcases Nat.lt_trichotomy i j with h | h | h
  · have := List.pairwise_iff_getElem.1 hs i j h1 h2 h
    rw [e1, e2, slt_irrefl] at this
    cases this
  · exact h
  · have := List.pairwise_iff_getElem.1 hs j i h2 h1 h
    rw [e1, e2, slt_irrefl] at this
    cases this

/-- of replica q the first τ q records stand in their places, all else is no file -/
structure DI (S : RS) (R : List RR) (cl : List (Value × List Int)) (τ : Nat → Nat) : Prop where
  sorted : Sorted S.paths
  len : ∀ (r : Nat) y, S.rows[r]? = some y → y.2.length = S.paths.length
  coms : S.coms = cl
  has : ∀ (q : Nat) r (j : Nat) nm, R[q]? = some r → j < τ q → r.ps[j]? = some nm → nm ∈ S.paths
  at_ : ∀ (q : Nat) v l (p : Nat) nm c, S.rows[q]? = some (v, l) → S.paths[p]? = some nm → l[p]? = some c →
    (∃ r j x, R[q]? = some r ∧ j < τ q ∧ r.ps[j]? = some nm ∧ r.rs[j]? = some x ∧ SpIs c x) ∨ ((∀ r j, R[q]? = some r → j < τ q → r.ps[j]? ≠ some nm) ∧ c.there = false)

theorem DI.start {S : RS} (R : List RR) (hp : S.paths = []) (hr : ∀ (r : Nat) y, S.rows[r]? = some y → y.2 = []) : DI S R S.coms (fun _ => 0) :=
  ⟨by rw [hp]; exact List.Pairwise.nil, fun r y hy => by rw [hr r y hy, hp]; rfl, rfl, fun q r j nm _ hj => by omega, fun q v l p nm c _ hn => by rw [hp] at hn; simp at hn⟩

theorem DI.rowed {S S' : RS} {R : List RR} {cl : List (Value × List Int)} {τ : Nat → Nat} {n : Nat} (h : DI S R cl τ) (hsn : S.rows.length = n) (hs'n : S'.rows.length = n) (nm : ByteArray) (hnew : S.paths[atOf S.paths nm]? ≠ some nm)
    (hR : Rowed S S' (atOf S.paths nm) (S.paths.take (atOf S.paths nm) ++ nm :: S.paths.drop (atOf S.paths nm)) n) : DI S' R cl τ := by
  have hle := atOf_le S.paths nm
  have hnm : nm ∉ S.paths := fun q => hnew (atOf_mem _ _ h.sorted q)
  generalize hat : atOf S.paths nm = a at *
  have rowOf : ∀ (q : Nat) v' l', S'.rows[q]? = some (v', l') → ∃ v l fr, S.rows[q]? = some (v, l) ∧ l' = l.take a ++ fr :: l.drop a ∧ fr.there = false ∧ l.length = S.paths.length := fun q v' l' hq => by
    have hql := (List.getElem?_eq_some_iff.1 hq).1
    have : q < S.rows.length := by omega
    generalize hy : S.rows[q] = y
    have hy' : S.rows[q]? = some y := by rw [List.getElem?_eq_getElem this, hy]
    obtain ⟨v, l⟩ := y
    obtain ⟨v2, fr, cw, c, h1, _, h3⟩ := hR.lo q v l hy' (by omega)
    rw [hq] at h1
    cases h1
    exact ⟨v, l, fr, hy', rfl, h3.there, h.len q _ hy'⟩
  refine ⟨?_, ?_, by rw [hR.coms]; exact h.coms, ?_, ?_⟩
  · rw [hR.paths, ← hat]
    exact sorted_ins _ _ h.sorted (by rw [hat]; exact hnew)
  · intro q y hy
    obtain ⟨v, l, fr, _, e, _, hl⟩ := rowOf q y.1 y.2 hy
    rw [e, hR.paths]
    simp only [List.length_append, List.length_take, List.length_cons, List.length_drop]
    omega
  · intro q r j nm' hr hj hn
    rw [hR.paths]
    have := h.has q r j nm' hr hj hn
    rw [← List.take_append_drop a S.paths] at this
    rcases List.mem_append.1 this with m | m
    · exact List.mem_append.2 (.inl m)
    · exact List.mem_append.2 (.inr (List.mem_cons_of_mem _ m))
  · intro q v' l' p nm' c hq hp hc
    obtain ⟨v, l, fr, hy, rfl, hfr, hl⟩ := rowOf q v' l' hq
    rw [hR.paths] at hp
    rcases Nat.lt_trichotomy p a with hlt | he | hgt
    · rw [List.getElem?_append_left (by simp; omega), List.getElem?_take_of_lt hlt] at hp
      rw [List.getElem?_append_left (by simp; omega), List.getElem?_take_of_lt hlt] at hc
      exact h.at_ q v l p nm' c hy hp hc
    · subst he
      rw [List.getElem?_append_right (by simp; omega)] at hp hc
      rw [show p - (S.paths.take p).length = 0 by simp; omega] at hp
      rw [show p - (l.take p).length = 0 by simp; omega] at hc
      simp at hp hc
      subst hp hc
      exact .inr ⟨fun r j hr hj e => hnm (h.has q r j _ hr hj e), hfr⟩
    · rw [List.getElem?_append_right (by simp; omega)] at hp hc
      rw [show p - (S.paths.take a).length = (p - a - 1) + 1 by simp; omega] at hp
      rw [show p - (l.take a).length = (p - a - 1) + 1 by simp; omega] at hc
      simp only [List.getElem?_cons_succ, List.getElem?_drop] at hp hc
      exact h.at_ q v l _ nm' c hy hp hc

theorem DI.put {S : RS} {R : List RR} {cl : List (Value × List Int)} {τ : Nat → Nat} (h : DI S R cl τ) {q : Nat} {r : RR} (hr : R[q]? = some r) {nm : ByteArray} (hn : r.ps[τ q]? = some nm) {x : SpR} (hx : r.rs[τ q]? = some x) {c : SP} (hi : SpIs c x) {v v2 : Value} {l : List SP} (hy : S.rows[q]? = some (v, l)) {p : Nat} (hp : S.paths[p]? = some nm) :
    DI { S with rows := S.rows.set q (v2, l.set p c) } R cl (fun k => if k = q then τ q + 1 else τ k) := by
  have hql := (List.getElem?_eq_some_iff.1 hy).1
  refine ⟨h.sorted, ?_, h.coms, ?_, ?_⟩
  · intro q' y hy'
    by_cases e : q' = q
    · subst e
      simp [hql] at hy'
      subst hy'
      simpa using h.len q' _ hy
    · rw [List.getElem?_set_ne (Ne.symm e)] at hy'
      exact h.len q' y hy'
  · intro q' r' j nm' hr' hj hn'
    by_cases e : q' = q
    · subst e
      rw [if_pos rfl] at hj
      rcases Nat.lt_or_ge j (τ q') with hlt | hge
      · exact h.has q' r' j nm' hr' hlt hn'
      · have : j = τ q' := by omega
        subst this
        rw [hr] at hr'
        cases hr'
        rw [hn] at hn'
        cases hn'
        exact List.mem_of_getElem? hp
    · rw [if_neg e] at hj
      exact h.has q' r' j nm' hr' hj hn'
  · intro q' v' l' p' nm' c' hq' hp' hc'
    by_cases e : q' = q
    · subst e
      simp [hql] at hq'
      obtain ⟨_, rfl⟩ := hq'
      simp only [if_true]
      by_cases ep : p' = p
      · subst ep
        have hpl : p' < l.length := by have := (List.getElem?_eq_some_iff.1 hc').1; simpa using this
        rw [List.getElem?_set_self hpl] at hc'
        cases hc'
        rw [hp] at hp'
        cases hp'
        exact .inl ⟨r, τ q', x, hr, by omega, hn, hx, hi⟩
      · rw [List.getElem?_set_ne (Ne.symm ep)] at hc'
        rcases h.at_ q' v l p' nm' c' hy hp' hc' with ⟨r', j, x', h1, h2, h3, h4, h5⟩ | ⟨h1, h2⟩
        · exact .inl ⟨r', j, x', h1, by omega, h3, h4, h5⟩
        · refine .inr ⟨fun r' j hr' hj hn' => ?_, h2⟩
          rcases Nat.lt_or_ge j (τ q') with hlt | hge
          · exact h1 r' j hr' hlt hn'
          · have : j = τ q' := by omega
            subst this
            rw [hr] at hr'
            cases hr'
            rw [hn] at hn'
            cases hn'
            exact ep (sorted_inj h.sorted hp' hp)
    · rw [List.getElem?_set_ne (Ne.symm e)] at hq'
      rw [if_neg e]
      exact h.at_ q' v' l' p' nm' c' hq' hp' hc'

end Go.Proofs.YtaelaldmibgibaaGreatDoor

namespace Go.Proofs.YtaelaldmibgibaaGreatDoor
open Go.RowKit

section
variable {w wr : World} {tb n : Nat} {ρ σ : Nat → Nat × Nat} {S : RS} {R : List RR} {nv xv : Value} {τ : Nat → Nat} {cl : List (Value × List Int)}

theorem U2.place (h : U2 w wr tb n ρ σ S R nv xv τ) (hD : DI S R cl τ) (nm : ByteArray) (hm : S.paths.length ≤ 100000000) :
    Calls Tryz.prog 56 #[.pointer (some ⟨tb, 0, none⟩), .string nm] wr fun e w' => ∃ ρ' S' p, e = .returned (.int .i64 (p : Nat)) ∧ U2 w w' tb n ρ' σ S' R nv xv τ ∧ DI S' R cl τ ∧ S'.paths[p]? = some nm ∧ S'.paths.length ≤ S.paths.length + 1 ∧ (nm ∈ S.paths → w' = wr ∧ S' = S ∧ ρ' = ρ) := by
  by_cases hin : S.paths[atOf S.paths nm]? = some nm
  · refine (place_old tb nm ρ S wr h.net hin).mono ?_
    rintro e w' ⟨rfl, rfl⟩
    exact ⟨ρ, S, _, rfl, h, hD, hin, by omega, fun _ => ⟨rfl, rfl, rfl⟩⟩
  · have hle := atOf_le S.paths nm
    have fin : ∀ (e : Ending) (w' : World), (∃ ρ' S', e = .returned (.int .i64 (atOf S.paths nm)) ∧ RefRep w' tb ρ' S' ∧ Grow wr ρ ρ' ∧ Fr (fun k => (ρ k).1 ≠ 0) wr w' ∧ Rowed S S' (atOf S.paths nm) (S.paths.take (atOf S.paths nm) ++ nm :: S.paths.drop (atOf S.paths nm)) S.n) →
        ∃ ρ' S' p, e = .returned (.int .i64 (p : Nat)) ∧ U2 w w' tb n ρ' σ S' R nv xv τ ∧ DI S' R cl τ ∧ S'.paths[p]? = some nm ∧ S'.paths.length ≤ S.paths.length + 1 ∧ (nm ∈ S.paths → w' = wr ∧ S' = S ∧ ρ' = ρ) := by
      rintro e w' ⟨ρ', S', rfl, hR, hG, hF, hRow⟩
      refine ⟨ρ', S', _, rfl, h.onNet hR (hRow.n.trans h.sn) hG hF, hD.rowed h.net.rowl (by rw [hR.rowl, hRow.n]) nm hin hRow, ?_, ?_, fun q => absurd (atOf_mem _ _ hD.sorted q) hin⟩
      · rw [hRow.paths, List.getElem?_append_right (by simp; omega), show atOf S.paths nm - (S.paths.take (atOf S.paths nm)).length = 0 by simp; omega]
        rfl
      · rw [hRow.paths]
        simp only [List.length_append, List.length_take, List.length_cons, List.length_drop]
        omega
    rcases Nat.lt_or_ge (atOf S.paths nm) S.paths.length with hlt | hge
    · exact (place_mid tb nm ρ S wr h.net hin hD.len hm hlt).mono fun e w' => fin e w'
    · exact (place_end tb nm ρ S wr h.net hin hD.len hm (by omega)).mono fun e w' => fin e w'

/-- the names of replica i, in memory -/
theorem U2.nameRow (h : U2 w wr tb n ρ σ S R nv xv τ) {i : Nat} {r : RR} (hr : R[i]? = some r) : ∃ gn cn, nv = .slice (some ⟨gn, 0, none⟩) n cn ∧ wr.cell? ⟨gn, i, none⟩ = some r.lv := by
  have hn := h.net.n1
  have hi := (List.getElem?_eq_some_iff.1 hr).1
  have hl := h.rl
  obtain ⟨gn, cn, e, _⟩ := World.ownsRow.form h.on (by have := h.sn; omega)
  refine ⟨gn, cn, e, ?_⟩
  have ho := h.on
  rw [e] at ho
  rw [World.ownsRow.cellAt ho i (by omega)]
  simp [hr]
theorem U2.spotRow (h : U2 w wr tb n ρ σ S R nv xv τ) {i : Nat} {r : RR} (hr : R[i]? = some r) : ∃ gx cx, xv = .slice (some ⟨gx, 0, none⟩) n cx ∧ wr.cell? ⟨gx, i, none⟩ = some r.ov := by
  have hn := h.net.n1
  have hi := (List.getElem?_eq_some_iff.1 hr).1
  have hl := h.rl
  obtain ⟨gx, cx, e, _⟩ := World.ownsRow.form h.ox (by have := h.sn; omega)
  refine ⟨gx, cx, e, ?_⟩
  have ho := h.ox
  rw [e] at ho
  rw [World.ownsRow.cellAt ho i (by omega)]
  simp [hr]
theorem U2.lvForm (h : U2 w wr tb n ρ σ S R nv xv τ) {i : Nat} {r : RR} (hr : R[i]? = some r) : ∃ a c, r.lv = .slice a r.ps.length c := by
  rcases (h.rep i r hr).ol.2 with ⟨e, h0⟩ | ⟨g, cap, _, e, _⟩
  · exact ⟨none, 0, by rw [e, h0]⟩
  · exact ⟨_, _, e⟩
/-- one name -/
theorem U2.name (h : U2 w wr tb n ρ σ S R nv xv τ) {i : Nat} {r : RR} (hr : R[i]? = some r) {k : Nat} {nm : ByteArray} (hk : r.ps[k]? = some nm) : ∃ gl c, r.lv = .slice (some ⟨gl, 0, none⟩) r.ps.length c ∧ wr.cell? ⟨gl, k, none⟩ = some (.string nm) := by
  have hkl := (List.getElem?_eq_some_iff.1 hk).1
  have ho := (h.rep i r hr).ol
  obtain ⟨gl, c, e, _⟩ := World.ownsRow.form ho (by omega)
  refine ⟨gl, c, e, ?_⟩
  rw [e] at ho
  rw [World.ownsRow.cellAt ho k (by omega)]
  simp [svs, hk]
/-- one spot that was read -/
theorem U2.spot (h : U2 w wr tb n ρ σ S R nv xv τ) {i : Nat} {r : RR} (hr : R[i]? = some r) {k : Nat} {c : SP} (hk : r.cs[k]? = some c) : ∃ go co, r.ov = .slice (some ⟨go, 0, none⟩) r.cs.length co ∧ ∀ j, j < 6 → wr.cell? ⟨go, k * 6 + j, none⟩ = c.cells[j]? := by
  obtain ⟨go, co, e, _, _, hcell, _⟩ := spot_cells (h.rep i r hr).oo k c hk
  exact ⟨go, co, e, hcell⟩
/-- a place in a replica's row -/
theorem U2.row (h : U2 w wr tb n ρ σ S R nv xv τ) (hD : DI S R cl τ) {i : Nat} (hi : i < n) {p : Nat} {nm : ByteArray} (hp : S.paths[p]? = some nm) : ∃ sg sc g cap l o, S.sv = .slice (some ⟨sg, 0, none⟩) n sc ∧ wr.cell? ⟨tb, 3, none⟩ = some (.slice (some ⟨sg, 0, none⟩) n sc) ∧ wr.cell? ⟨sg, i, none⟩ = some (.slice (some ⟨g, 0, none⟩) l.length cap) ∧ S.rows[i]? = some (.slice (some ⟨g, 0, none⟩) l.length cap, l) ∧ l[p]? = some o ∧ l.length = S.paths.length ∧ wr.there g (p * 6) 6 := by
  obtain ⟨sg, sc, v, l, es, hs, hx, ho, _, _, _, _⟩ := h.net.theRow i (by rw [h.sn]; exact hi)
  have hl := hD.len i _ hx
  have hpl := (List.getElem?_eq_some_iff.1 hp).1
  have hpl2 : p < l.length := by simp only at hl; omega
  generalize hoo : l[p] = o
  have ho' : l[p]? = some o := by rw [List.getElem?_eq_getElem hpl2, hoo]
  obtain ⟨g, cap, rfl, hg, _, hcell, hfz⟩ := spot_cells ho p o ho'
  have h3 := h.net.c3
  rw [es, h.sn] at h3
  rw [h.sn] at es
  refine ⟨sg, sc, g, cap, l, o, es, h3, hs, hx, ho', hl, fun j hj => ⟨?_, hfz _⟩⟩
  rw [hcell j hj]
  match j, hj with
  | 0, _ | 1, _ | 2, _ | 3, _ | 4, _ | 5, _ => rfl
end

end Go.Proofs.YtaelaldmibgibaaGreatDoor

namespace Go.Proofs.YtaelaldmibgibaaGreatDoor
open Go.RowKit

/-- may a record be so -/
def mayR (q : Nat) (C c : List Int) (x : SpR) : Bool :=
  wInD x.tm C && (x.tm.getD q 0 == C.getD q 0) && (if x.there = true then decide ((1 : Int) ≤ x.num) && decide ((x.num : Int) ≤ x.ch.getD x.by_ 0) && wInD x.ch x.tm else !decide (x.tm = c))
theorem mayB_is {c : SP} {x : SpR} (h : SpIs c x) (q : Nat) (C m : List Int) : mayB q C m c = mayR q C m x := by
  unfold mayB mayR
  rw [h.th, h.by_, h.num, h.ch, h.tm, Int.toNat_natCast]
abbrev Mt := List (List Int × Rds)
def cntsM (M : Mt) : List Int := (List.range M.length).map (fun q => ((M[q]?.getD ([], [])).1).getD q 0)
/-- every record may be so, and every replica -/
def recsOk (M : Mt) : Prop := ∀ (q : Nat) a, M[q]? = some a → ∀ y ∈ a.2, mayR q (cntsM M) a.1 y.2 = true
def repsOk (M : Mt) : Prop := ∀ (q : Nat) a, M[q]? = some a → wIn a.1 (cntsM M) ∧ (a.2.filter (·.2.there)).length ≤ 20
def docOk (s : ByteArray) : Prop := textOk s = true ∧ recsOk (allS s).2 ∧ repsOk (allS s).2
/-- what Unpack answers -/
def Ver (s : ByteArray) (e : Ending) : Prop := (docOk s → ∃ tb : Nat, e = .returned (.tuple #[.pointer (some ⟨tb, 0, none⟩), .int .i64 0])) ∧ (¬ docOk s → e = .returned (.tuple #[.pointer none, .int .i64 7]))
theorem Ver.no {s : ByteArray} (h : ¬ docOk s) : Ver s (.returned (.tuple #[.pointer none, .int .i64 7])) := ⟨fun q => absurd q h, fun _ => rfl⟩
theorem Ver.yes {s : ByteArray} (h : docOk s) (tb : Nat) : Ver s (.returned (.tuple #[.pointer (some ⟨tb, 0, none⟩), .int .i64 0])) := ⟨fun _ => ⟨tb, rfl⟩, fun q => absurd h q⟩

/-- how much is put, replicas before i whole, of replica i k records -/
def tauD (R : List RR) (i k : Nat) : Nat → Nat := fun q => if q < i then (R[q]?.map (fun r => r.ps.length)).getD 0 else if q = i then k else 0
theorem tauD_zero (R : List RR) : tauD R 0 0 = fun _ => 0 := by
  funext q
  unfold tauD
  rw [if_neg (by omega)]
  split <;> rfl
theorem tauD_at (R : List RR) (i k : Nat) : tauD R i k i = k := by unfold tauD; rw [if_neg (by omega), if_pos rfl]
theorem tauD_put (R : List RR) (i k : Nat) : (fun j => if j = i then tauD R i k i + 1 else tauD R i k j) = tauD R i (k + 1) := by
  funext q
  rw [tauD_at]
  unfold tauD
  by_cases e : q = i
  · subst e; simp
  · rw [if_neg e, if_neg e, if_neg e]
theorem tauD_next (R : List RR) (i : Nat) (r : RR) (hr : R[i]? = some r) : tauD R i r.ps.length = tauD R (i + 1) 0 := by
  funext q
  unfold tauD
  rcases Nat.lt_trichotomy q i with h | h | h
  · rw [if_pos h, if_pos (by omega)]
  · subst h; rw [if_neg (by omega), if_pos rfl, if_pos (by omega), hr]; rfl
  · rw [if_neg (by omega), if_neg (by omega), if_neg (by omega)]
    split <;> rfl

/-- at most so many paths are spoken of -/
def pB (i k : Nat) : Nat := i * 10000001 + k
theorem pB_step {a b i k : Nat} (h : a ≤ b + 1) (h' : b ≤ pB i k) : a ≤ pB i (k + 1) := by unfold pB at *; omega
theorem pB_next {a i k : Nat} (h : a ≤ pB i k) (hk : k ≤ 10000001) : a ≤ pB (i + 1) 0 := by
  unfold pB at *
  rw [Nat.add_mul, Nat.one_mul]
  exact Nat.le_trans h (Nat.add_le_add_left hk _)
theorem pB_le {a i k : Nat} (h : a ≤ pB i k) (hi : i < 6) (hk : k ≤ 10000001) : a ≤ 100000000 := by unfold pB at *; omega
theorem pB_all {a i : Nat} (h : a ≤ pB i 0) (hi : i ≤ 6) : a ≤ 100000000 := by unfold pB at *; omega

theorem run_stSpotMid (w : World) (b o : Nat) (x0 : Bool) (x1 : ByteArray) (x2 x3 : Int) (a4 a5 : Option Addr) (n4 c4 n5 c5 : Nat) (ht : w.there b o 6) :
    (stM 117 (.pointer (some ⟨b, o, none⟩)) (.agg #[.bool x0, .string x1, .int .i64 x2, .int .i64 x3, .slice a4 n4 c4, .slice a5 n5 c5])).run Tryz.prog w =
      .ok () (w.setCells b o [.bool x0, .string x1, .int .i64 x2, .int .i64 x3, .slice a4 n4 c4, .slice a5 n5 c5]) :=
  run_storeAt_mid w b o _ #[.bool x0, .string x1, .int .i64 x2, .int .i64 x3, .slice a4 n4 c4, .slice a5 n5 c5] ht size_Spot (by simp [Value.oneCell'])

end Go.Proofs.YtaelaldmibgibaaGreatDoor

namespace Go.Proofs.YtaelaldmibgibaaGreatDoor
open Go.RowKit

theorem recsS_len (s : ByteArray) (n f : Nat) : ∀ (x : Nat × Bool) (L : Rds), (recsS s n f x L).2.length ≤ L.length + f := by
  induction f with
  | zero => intro x L; exact Nat.le_refl _
  | succ f ih =>
    intro x L
    rw [recsS]
    split
    · have := ih ((recS s n x).st.1, (recS s n x).st.2 || notBehind L (pathText s x.1)) (L ++ [(pathText s x.1, recS s n x)])
      simp only [List.length_append, List.length_singleton] at this
      omega
    · simp
theorem repsS_len (s : ByteArray) (n k : Nat) (x : Nat × Bool) : (repsS s n k x).2.length = k := by
  induction k with
  | zero => rfl
  | succ k ih => simp only [repsS, List.length_append, List.length_singleton, ih]
theorem reps_len (s : ByteArray) (n k : Nat) (x : Nat × Bool) : ∀ (q : Nat) a, (repsS s n k x).2[q]? = some a → a.2.length ≤ s.size + 1 := by
  induction k with
  | zero => intro q a h; simp [repsS] at h
  | succ k ih =>
    intro q a h
    have e : (repsS s n (k + 1) x).2 = (repsS s n k x).2 ++ [(repS s n (repsS s n k x).1).2] := rfl
    rw [e] at h
    rcases Nat.lt_or_ge q (repsS s n k x).2.length with hq | hq
    · rw [List.getElem?_append_left hq] at h
      exact ih q a h
    · rw [List.getElem?_append_right hq] at h
      have : q - (repsS s n k x).2.length = 0 := by
        rcases Nat.eq_zero_or_pos (q - (repsS s n k x).2.length) with e | e
        · exact e
        · rw [List.getElem?_eq_none (by simp; omega)] at h; cases h
      rw [this] at h
      simp at h
      subst h
      have := recsS_len s n (s.size - (wantS s newl (timeS s n (wantS s replicaW (repsS s n k x).1)).1).1 + 1) (wantS s newl (timeS s n (wantS s replicaW (repsS s n k x).1)).1) []
      unfold repS
      simp only [List.length_nil, Nat.zero_add] at this ⊢
      omega
/-- births are in a replica of the net; paths rise -/
theorem reps_facts (s : ByteArray) (n k : Nat) (hn : 1 ≤ n) (x : Nat × Bool) (hx : x.1 ≤ s.size) (h : (repsS s n k x).1.2 = false) (q : Nat) (a : List Int × Rds) (ha : (repsS s n k x).2[q]? = some a) :
    (∀ y ∈ a.2, y.2.by_ < n) ∧ Sorted (a.2.map (·.1)) := by
  obtain ⟨m, hm, hok, hi, _⟩ := reps_got s n k x hx h
  have hq := (List.getElem?_eq_some_iff.1 ha).1
  have hqm : q < m.length := by rw [← hi.1]; exact hq
  have hb : m[q]? = some m[q] := List.getElem?_eq_getElem hqm
  obtain ⟨_, h1, h2⟩ := hi.2 q a m[q] ha hb
  have ok := (hok m[q] (List.getElem_mem hqm)).recs
  refine ⟨fun y hy => ?_, ?_⟩
  · obtain ⟨i, hi'⟩ := List.getElem?_of_mem hy
    have hil := (List.getElem?_eq_some_iff.1 hi').1
    have hlen : a.2.length = m[q].recs.length := by
      have := congrArg List.length h1
      simpa using this
    have hd : m[q].recs[i]? = some m[q].recs[i] := List.getElem?_eq_getElem (by omega)
    have hs := h2 i y _ hi' hd
    have od := ok.oks _ (List.getElem_mem (by omega : i < m[q].recs.length))
    rw [hs.2.2.1]
    cases ht : (m[q].recs[i]).2.there
    · rw [(od.none ht).1]; omega
    · exact (od.yes ht).1
  · rw [h1]
    unfold Sorted
    rw [List.pairwise_map]
    exact ok.rise
/-- what was read in memory and what was read -/
theorem rb_of {s : ByteArray} {n : Nat} {x3 : Nat × Bool} {R : List RR} {cl : List (Value × List Int)} (hs : s.size ≤ 10000000) (hl : R.length = n)
    (hd : ∀ (j : Nat) a, (repsS s n n x3).2[j]? = some a → ∃ r cw, R[j]? = some r ∧ r.ps = a.2.map (·.1) ∧ r.rs = a.2.map (·.2) ∧ cl[j]? = some (cw, a.1)) :
    ∀ (q : Nat) r, R[q]? = some r → ∃ a, (repsS s n n x3).2[q]? = some a ∧ r.ps = a.2.map (·.1) ∧ r.rs = a.2.map (·.2) ∧ r.ps.length ≤ 10000001 := by
  intro q r hr
  have hq := (List.getElem?_eq_some_iff.1 hr).1
  have ha : (repsS s n n x3).2[q]? = some ((repsS s n n x3).2[q]'(by rw [repsS_len]; omega)) := List.getElem?_eq_getElem _
  obtain ⟨r', cw, h1, h2, h3, _⟩ := hd q _ ha
  rw [hr] at h1
  cases h1
  refine ⟨_, ha, h2, h3, ?_⟩
  have := reps_len s n n x3 q _ ha
  rw [h2, List.length_map]
  omega
/-- the counts -/
theorem cnts_of {s : ByteArray} {n : Nat} {x3 : Nat × Bool} {R : List RR} {S : RS} {cl : List (Value × List Int)} (hc : S.coms = cl)
    (hd : ∀ (j : Nat) a, (repsS s n n x3).2[j]? = some a → ∃ r cw, R[j]? = some r ∧ r.ps = a.2.map (·.1) ∧ r.rs = a.2.map (·.2) ∧ cl[j]? = some (cw, a.1)) : cnts S n = cntsM (repsS s n n x3).2 := by
  unfold cnts cntsM
  rw [repsS_len]
  apply List.map_congr_left
  intro q hq
  have hqn := List.mem_range.1 hq
  have ha : (repsS s n n x3).2[q]? = some ((repsS s n n x3).2[q]'(by rw [repsS_len]; omega)) := List.getElem?_eq_getElem _
  obtain ⟨r', cw, _, _, _, h4⟩ := hd q _ ha
  unfold RS.count
  rw [hc, h4, ha]
  rfl
/-- the spot of a record that is put -/
theorem DI.spot {S : RS} {R : List RR} {cl : List (Value × List Int)} {τ : Nat → Nat} (h : DI S R cl τ) {q : Nat} {r : RR} (hr : R[q]? = some r) (hs : Sorted r.ps) {j : Nat} (hj : j < τ q) {nm : ByteArray} (hn : r.ps[j]? = some nm) {v : Value} {l : List SP} (hy : S.rows[q]? = some (v, l)) {p : Nat} (hp : S.paths[p]? = some nm) {c : SP} (hc : l[p]? = some c) : ∃ x, r.rs[j]? = some x ∧ SpIs c x := by
  rcases h.at_ q v l p nm c hy hp hc with ⟨r', j', x, h1, _, h3, h4, h5⟩ | ⟨h1, _⟩
  · rw [hr] at h1
    cases h1
    have := sorted_inj hs hn h3
    subst this
    exact ⟨x, h4, h5⟩
  · exact absurd hn (h1 r j hr hj)

end Go.Proofs.YtaelaldmibgibaaGreatDoor

namespace Go.Proofs.YtaelaldmibgibaaGreatDoor
open Go.RowKit

/-- two rising lists with the same members are one -/
theorem sorted_ext : ∀ (a b : List ByteArray), Sorted a → Sorted b → (∀ p, p ∈ a ↔ p ∈ b) → a = b
  | [], [], _, _, _ => rfl
  | [], y :: b, _, _, h => absurd ((h y).2 (List.mem_cons_self ..)) (by simp)
  | x :: a, [], _, _, h => absurd ((h x).1 (List.mem_cons_self ..)) (by simp)
  | x :: a, y :: b, ha, hb, h => by
    have ha' := List.pairwise_cons.1 ha
    have hb' := List.pairwise_cons.1 hb
    have exy : x = y := by
      rcases List.mem_cons.1 ((h x).1 (List.mem_cons_self ..)) with e | e
      · exact e
      · rcases List.mem_cons.1 ((h y).2 (List.mem_cons_self ..)) with e' | e'
        · exact e'.symm
        · have h1 := hb'.1 x e
          have h2 := ha'.1 y e'
          have := slt_trans h1 h2
          rw [slt_irrefl] at this
          cases this
    subst exy
    have : a = b := sorted_ext a b ha'.2 hb'.2 (fun p => ⟨fun hp => by
      rcases List.mem_cons.1 ((h p).1 (List.mem_cons_of_mem _ hp)) with e | e
      · subst e
        have := ha'.1 p hp
        rw [slt_irrefl] at this
        cases this
      · exact e, fun hp => by
      rcases List.mem_cons.1 ((h p).2 (List.mem_cons_of_mem _ hp)) with e | e
      · subst e
        have := hb'.1 p hp
        rw [slt_irrefl] at this
        cases this
      · exact e⟩)
    rw [this]
/-- the names whose marks stand -/
def marked {α : Type} (f : α → Bool) (ps : List ByteArray) (l : List α) : List ByteArray := ((ps.zip l).filter (fun x => f x.2)).map (·.1)
theorem marked_len {α : Type} (f : α → Bool) (ps : List ByteArray) (l : List α) (h : ps.length = l.length) : (marked f ps l).length = (l.filter f).length := by
  unfold marked
  rw [List.length_map]
  have e : l = (ps.zip l).map (·.2) := by rw [List.map_snd_zip (by omega)]
  conv => rhs; rw [e, List.filter_map, List.length_map]
  rfl
theorem marked_sorted {α : Type} (f : α → Bool) (ps : List ByteArray) (l : List α) (h : ps.length = l.length) (hs : Sorted ps) : Sorted (marked f ps l) := by
  unfold marked
  have e : ps = (ps.zip l).map (·.1) := by rw [List.map_fst_zip (by omega)]
  unfold Sorted at *
  rw [e] at hs
  exact hs.sublist ((List.filter_sublist ..).map _)
theorem marked_mem {α : Type} (f : α → Bool) (ps : List ByteArray) (l : List α) (p : ByteArray) : p ∈ marked f ps l ↔ ∃ (i : Nat) (x : α), ps[i]? = some p ∧ l[i]? = some x ∧ f x = true := by
  unfold marked
  constructor
  · intro h
    obtain ⟨⟨p', x⟩, hy, rfl⟩ := List.mem_map.1 h
    obtain ⟨hz, hf⟩ := List.mem_filter.1 hy
    obtain ⟨i, hi⟩ := List.getElem?_of_mem hz
    rw [List.getElem?_zip_eq_some] at hi
    exact ⟨i, x, hi.1, hi.2, hf⟩
  · rintro ⟨i, x, h1, h2, h3⟩
    exact List.mem_map.2 ⟨(p, x), List.mem_filter.2 ⟨List.mem_of_getElem? (List.getElem?_zip_eq_some.2 ⟨h1, h2⟩), h3⟩, rfl⟩
theorem DI.files {S : RS} {R : List RR} {cl : List (Value × List Int)} {τ : Nat → Nat} (h : DI S R cl τ) {q : Nat} {r : RR} (hr : R[q]? = some r) (hs : Sorted r.ps) (hτ : τ q = r.ps.length) (hl : r.rs.length = r.ps.length) {v : Value} {l : List SP} (hy : S.rows[q]? = some (v, l)) : filesOf l = (r.rs.filter (·.there)).length := by
  have hlen := h.len q _ hy
  simp only at hlen
  unfold filesOf
  rw [← marked_len (·.there) S.paths l hlen.symm, ← marked_len (·.there) r.ps r.rs hl.symm]
  congr 1
  refine sorted_ext _ _ (marked_sorted _ _ _ hlen.symm h.sorted) (marked_sorted _ _ _ hl.symm hs) (fun nm => ?_)
  rw [marked_mem, marked_mem]
  constructor
  · rintro ⟨p, c, hp, hc, ht⟩
    rcases h.at_ q v l p nm c hy hp hc with ⟨r', j, x, h1, _, h3, h4, h5⟩ | ⟨_, h2⟩
    · rw [hr] at h1
      cases h1
      exact ⟨j, x, h3, h4, by rw [← h5.th]; exact ht⟩
    · rw [ht] at h2
      cases h2
  · rintro ⟨j, x, hn, hx, ht⟩
    have hj : j < τ q := by rw [hτ]; exact (List.getElem?_eq_some_iff.1 hn).1
    have hm := h.has q r j nm hr hj hn
    obtain ⟨p, hp⟩ := List.getElem?_of_mem hm
    have hpl := (List.getElem?_eq_some_iff.1 hp).1
    obtain ⟨c, hc⟩ : ∃ c, l[p]? = some c := ⟨l[p]'(by omega), List.getElem?_eq_getElem (by omega)⟩
    obtain ⟨x', hx', hi⟩ := h.spot hr hs hj hn hy hp hc
    rw [hx] at hx'
    cases hx'
    exact ⟨p, c, hp, hc, by rw [hi.th]; exact ht⟩

end Go.Proofs.YtaelaldmibgibaaGreatDoor
