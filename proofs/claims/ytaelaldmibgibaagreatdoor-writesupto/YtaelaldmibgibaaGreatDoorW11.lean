/- What a net is, without memory: for each replica its count and its files, by rising paths; what the calls make of it. The document's answer: place, of a path that was not spoken of. The document's answer: place, of a path that comes behind all others. The document's answer and a net without memory: what hangs together (RInv); place changes nothing of it. -/
import Derived.Test.YtaelaldmibgibaaGreatDoorW07
import Derived.Deep.DeepMust

set_option linter.unusedVariables false
set_option linter.unusedSimpArgs false

namespace Go.Proofs.YtaelaldmibgibaaGreatDoor

theorem bl_irrefl (x : List UInt8) : Op.bytesLess x x = false := by
  induction x with
  | nil => rfl
  | cons a x ih => simp [Op.bytesLess, ih]
theorem bl_trans (x y z : List UInt8) (h : Op.bytesLess x y = true) (h' : Op.bytesLess y z = true) : Op.bytesLess x z = true := by
  induction x generalizing y z with
  | nil =>
    cases z with
    | nil => cases y <;> simp [Op.bytesLess] at h'
    | cons c z => rfl
  | cons a x ih =>
    cases y with
    | nil => simp [Op.bytesLess] at h
    | cons b y =>
      cases z with
      | nil => simp [Op.bytesLess] at h'
      | cons c z =>
        simp only [Op.bytesLess, Bool.or_eq_true, decide_eq_true_eq, Bool.and_eq_true, beq_iff_eq] at *
        rcases h with h | ⟨rfl, h⟩
        · rcases h' with h' | ⟨rfl, h'⟩
          · exact .inl (UInt8.lt_trans h h')
          · exact .inl h
        · rcases h' with h' | ⟨rfl, h'⟩
          · exact .inl h'
          · exact .inr ⟨rfl, ih y z h h'⟩
theorem bl_tri (x y : List UInt8) (h : Op.bytesLess x y = false) (h' : Op.bytesLess y x = false) : x = y := by
  induction x generalizing y with
  | nil =>
    cases y with
    | nil => rfl
    | cons b y => simp [Op.bytesLess] at h
  | cons a x ih =>
    cases y with
    | nil => simp [Op.bytesLess] at h'
    | cons b y =>
      simp only [Op.bytesLess, Bool.or_eq_false_iff, decide_eq_false_iff_not, Bool.and_eq_false_iff, beq_eq_false_iff_ne] at *
      have e : a = b := by
        apply UInt8.toNat_inj.1
        have h1 := h.1
        have h2 := h'.1
        rw [UInt8.lt_iff_toNat_lt] at h1 h2
        omega
      subst e
      rw [ih y (by simpa using h.2) (by simpa using h'.2)]

theorem slt_irrefl (a : ByteArray) : slt a a = false := bl_irrefl _
theorem slt_trans {a b c : ByteArray} (h : slt a b = true) (h' : slt b c = true) : slt a c = true := bl_trans _ _ _ h h'
theorem slt_asymm {a b : ByteArray} (h : slt a b = true) : slt b a = false := by
  cases e : slt b a with
  | false => rfl
  | true => rw [← slt_irrefl a]; exact (slt_trans h e).symm
theorem slt_tri {a b : ByteArray} (h : slt a b = false) (h' : slt b a = false) : a = b := by
  apply (seq_iff a b).1
  unfold seq
  rw [beq_iff_eq]
  exact bl_tri _ _ h h'
theorem slt_ne {a b : ByteArray} (h : slt a b = true) : a ≠ b := fun e => by rw [e, slt_irrefl] at h; cases h

abbrev Files := List (ByteArray × ByteArray)
/-- rising by the paths -/
def Rising (F : Files) : Prop := F.Pairwise (fun x y => slt x.1 y.1 = true)
def put (p t : ByteArray) (F : Files) : Files := F.filter (fun x => slt x.1 p) ++ (p, t) :: F.filter (fun x => slt p x.1)
def del (p : ByteArray) (F : Files) : Files := F.filter (fun x => slt x.1 p) ++ F.filter (fun x => slt p x.1)
def get (p : ByteArray) (F : Files) : Option ByteArray := (F.find? (fun x => seq x.1 p)).map (·.2)

/-- where files are parted about a path -/
structure Parts (p : ByteArray) (X M Y : Files) : Prop where
  lo : ∀ x ∈ X, slt x.1 p = true
  hi : ∀ x ∈ Y, slt p x.1 = true
  mid : ∀ x ∈ M, x.1 = p
theorem filter_all {α : Type} (f : α → Bool) (l : List α) (h : ∀ x ∈ l, f x = true) : l.filter f = l := List.filter_eq_self.2 h
theorem filter_none {α : Type} (f : α → Bool) (l : List α) (h : ∀ x ∈ l, f x = false) : l.filter f = [] := List.filter_eq_nil_iff.2 (fun x hx => by rw [h x hx]; simp)
theorem Parts.fl {p : ByteArray} {X M Y : Files} (h : Parts p X M Y) : (X ++ M ++ Y).filter (fun x => slt x.1 p) = X := by
  rw [List.filter_append, List.filter_append, filter_all _ X h.lo, filter_none _ M (fun x hx => by rw [h.mid x hx]; exact slt_irrefl p), filter_none _ Y (fun x hx => slt_asymm (h.hi x hx))]
  simp
theorem Parts.fr {p : ByteArray} {X M Y : Files} (h : Parts p X M Y) : (X ++ M ++ Y).filter (fun x => slt p x.1) = Y := by
  rw [List.filter_append, List.filter_append, filter_all _ Y h.hi, filter_none _ M (fun x hx => by rw [h.mid x hx]; exact slt_irrefl p), filter_none _ X (fun x hx => slt_asymm (h.lo x hx))]
  simp
theorem Parts.put {p t : ByteArray} {X M Y : Files} (h : Parts p X M Y) : put p t (X ++ M ++ Y) = X ++ (p, t) :: Y := by
  unfold Go.Proofs.YtaelaldmibgibaaGreatDoor.put; rw [h.fl, h.fr]
theorem Parts.del {p : ByteArray} {X M Y : Files} (h : Parts p X M Y) : del p (X ++ M ++ Y) = X ++ Y := by
  unfold Go.Proofs.YtaelaldmibgibaaGreatDoor.del; rw [h.fl, h.fr]
theorem Parts.get {p : ByteArray} {X M Y : Files} (h : Parts p X M Y) : get p (X ++ M ++ Y) = M.head?.map (·.2) := by
  unfold Go.Proofs.YtaelaldmibgibaaGreatDoor.get
  have hX : X.find? (fun x => seq x.1 p) = none := List.find?_eq_none.2 (fun x hx hs => slt_ne (h.lo x hx) ((seq_iff _ _).1 hs))
  have hY : Y.find? (fun x => seq x.1 p) = none := List.find?_eq_none.2 (fun x hx hs => slt_ne (h.hi x hx) ((seq_iff _ _).1 hs).symm)
  rw [List.find?_append, List.find?_append, hX, hY]
  cases M with
  | nil => rfl
  | cons m M =>
    have := (seq_iff m.1 p).2 (h.mid m (by simp))
    simp [this]

/-- a net -/
structure Abs where
  n : Nat
  F : Nat → Files
  c : Nat → Int

def Abs.set (A : Abs) (r : Nat) (F : Files) (c : Int) : Abs := { A with F := fun q => if q = r then F else A.F q, c := fun q => if q = r then c else A.c q }
/-- is a replica asked wrongly? -/
def Abs.out (A : Abs) (r : Int) : Bool := decide (r < 0 ∨ (A.n : Int) ≤ r)

def Abs.writeE (A : Abs) (r : Int) (p t : ByteArray) : Int :=
  if A.out r = true then 1 else if pathOk p = false then 2 else if 60 < t.size then 3
  else if 1000000000 ≤ A.c r.toNat ∨ (get p (A.F r.toNat) = none ∧ 20 ≤ (A.F r.toNat).length) then 5 else 0
def Abs.write (A : Abs) (r : Int) (p t : ByteArray) : Abs :=
  if A.writeE r p t = 0 then A.set r.toNat (put p t (A.F r.toNat)) (A.c r.toNat + 1) else A
def Abs.removeE (A : Abs) (r : Int) (p : ByteArray) : Int :=
  if A.out r = true then 1 else if pathOk p = false then 2 else if get p (A.F r.toNat) = none then 4
  else if 1000000000 ≤ A.c r.toNat then 5 else 0
def Abs.remove (A : Abs) (r : Int) (p : ByteArray) : Abs :=
  if A.removeE r p = 0 then A.set r.toNat (del p (A.F r.toNat)) (A.c r.toNat + 1) else A
def Abs.readE (A : Abs) (r : Int) (p : ByteArray) : Int :=
  if A.out r = true then 1 else if pathOk p = false then 2 else if get p (A.F r.toNat) = none then 4 else 0
def Abs.readT (A : Abs) (r : Int) (p : ByteArray) : ByteArray :=
  if A.readE r p = 0 then (get p (A.F r.toNat)).getD ⟨#[]⟩ else ⟨#[]⟩

end Go.Proofs.YtaelaldmibgibaaGreatDoor

namespace Go.Proofs.YtaelaldmibgibaaGreatDoor
open Go.RowKit

theorem ins_length_le {α : Type} (a : Nat) (x : α) (l : List α) (k : Nat) : (ins a x l k).length ≤ k + 1 := by
  unfold ins
  split
  · have := List.length_take_le k l; omega
  · have h1 := List.length_take_le k l
    simp only [List.length_append, List.length_cons, List.length_drop, List.length_take]
    omega
theorem own_next {w1 : World} {base g cap : Nat} {a : Nat} {s y : ByteArray} {l : List ByteArray} {k : Nat} (e : ins a s l (k + 1) = ins a s l k ++ [y])
    (h : w1.ownsRow base 9 1 (.slice (some ⟨g, 0, none⟩) ((ins a s l k).length + 1) cap) ((ins a s l k).length + 1) (svs (ins a s l k) ++ [.string y])) :
    w1.ownsRow base 9 1 (.slice (some ⟨g, 0, none⟩) ((ins a s l k).length + 1) cap) (ins a s l (k + 1)).length (svs (ins a s l (k + 1))) := by
  rw [e, svs_append, List.length_append]
  exact h
theorem rowed_start (S : RS) (at_ : Nat) (pv : Value) (ps : List ByteArray) : Rowed S { S with paths := ps, pv := pv } at_ ps 0 :=
  ⟨rfl, rfl, rfl, fun _ _ _ _ h => by omega, fun _ _ h _ => h⟩
theorem row_prep {w wl : World} {b : Nat} {ρ ρr : Nat → Nat × Nat} {S Sr : RS} {at_ r m : Nat} {ps : List ByteArray} (hS : RefRep w b ρ S) (hR : RefRep wl b ρr Sr) (hRow : Rowed S Sr at_ ps r)
    (hlen : ∀ (r : Nat) (x : Value × List SP), S.rows[r]? = some x → x.2.length = m) (hlr : r < S.n) :
    ∃ ao co l cw c sg sc, S.rows[r]? = some (.slice ao m co, l) ∧ Sr.rows[r]? = some (.slice ao m co, l) ∧ S.coms[r]? = some (cw, c) ∧ Sr.coms[r]? = some (cw, c) ∧ l.length = m ∧ Sr.sv = .slice (some ⟨sg, 0, none⟩) S.n sc ∧
      wl.cell? ⟨b, 3, none⟩ = some (.slice (some ⟨sg, 0, none⟩) S.n sc) ∧ wl.cell? ⟨sg, r, none⟩ = some (.slice ao m co) ∧ wl.frozen? ⟨sg, r, none⟩ = false ∧ sg < wl.heap.size ∧ b < wl.heap.size := by
  have hrl : r < S.rows.length := by have := hS.rowl; omega
  have hcl : r < S.coms.length := by have := hS.coml; omega
  obtain ⟨ov, l, hx⟩ : ∃ ov l, S.rows[r]? = some (ov, l) := ⟨S.rows[r].1, S.rows[r].2, List.getElem?_eq_getElem hrl⟩
  obtain ⟨cw, c, hc⟩ : ∃ cw c, S.coms[r]? = some (cw, c) := ⟨S.coms[r].1, S.coms[r].2, List.getElem?_eq_getElem hcl⟩
  have hxr := hRow.hi r _ hx (Nat.le_refl _)
  have hcr : Sr.coms[r]? = some (cw, c) := by rw [hRow.coms]; exact hc
  have hll : l.length = m := hlen r _ hx
  have en := hRow.n
  obtain ⟨sg, sc, v', l', es, hs, hx', _, _, hsg, _, hsf⟩ := hR.theRow r (by omega)
  rw [hxr] at hx'
  simp at hx'
  obtain ⟨rfl, rfl⟩ := hx'
  rw [en] at es
  have hvf : ∃ ao co, ov = .slice ao m co := by
    rcases (hR.row r _ hxr).1.2 with ⟨e0, h00⟩ | ⟨g0, c0, cur, e0, _⟩
    · simp only at h00 e0
      exact ⟨none, 0, by rw [e0, ← hll, h00]⟩
    · simp only at e0
      exact ⟨_, c0, by rw [e0, hll]⟩
  obtain ⟨ao, co, rfl⟩ := hvf
  exact ⟨ao, co, l, cw, c, sg, sc, hx, hxr, hc, hcr, hll, es, by rw [hR.c3, es], hs, hsf r, hsg, hR.lt b (by rw [hR.rb]; decide)⟩
theorem own_next2 {w1 : World} {base g cap : Nat} {a : Nat} {s y : ByteArray} {l : List ByteArray} (e : ins a s l (a + 1) = ins a s l a ++ [s] ++ [y])
    (h : w1.ownsRow base 9 1 (.slice (some ⟨g, 0, none⟩) ((ins a s l a).length + 1 + 1) cap) ((ins a s l a).length + 1 + 1) (svs (ins a s l a) ++ [.string s] ++ [.string y])) :
    w1.ownsRow base 9 1 (.slice (some ⟨g, 0, none⟩) ((ins a s l a).length + 1 + 1) cap) (ins a s l (a + 1)).length (svs (ins a s l (a + 1))) := by
  rw [e, svs_append, svs_append, List.length_append, List.length_append]
  exact h

set_option maxRecDepth 100000 in
set_option maxHeartbeats 2000000 in
theorem place_mid (b : Nat) (s : ByteArray) (ρ : Nat → Nat × Nat) (S : RS) (w : World) (h : RefRep w b ρ S) (hnew : S.paths[atOf S.paths s]? ≠ some s) (hlen : ∀ (r : Nat) (x : Value × List SP), S.rows[r]? = some x → x.2.length = S.paths.length) (hm : S.paths.length ≤ 100000000) (hwh : atOf S.paths s < S.paths.length) :
    Calls Tryz.prog 56 #[.pointer (some ⟨b, 0, none⟩), .string s] w fun e w' => ∃ ρ' S', e = .returned (.int .i64 (atOf S.paths s)) ∧ RefRep w' b ρ' S' ∧ Grow w ρ ρ' ∧ Fr (fun k => (ρ k).1 ≠ 0) w w' ∧
      Rowed S S' (atOf S.paths s) (S.paths.take (atOf S.paths s) ++ s :: S.paths.drop (atOf S.paths s)) S.n := by
  obtain ⟨hml, a, cap, ep, hcp⟩ := strRow_form h.p
  have h1 := h.c1
  rw [ep] at h1
  have HC := hide hcp
  unfold maxLen at hml
  have HN := hide hnew
  have hb : b < w.heap.size := h.lt b (by rw [h.rb]; decide)
  have hf1 : w.frozen? ⟨b, 1, none⟩ = false := frozen_of_row w b 1 _ _ h.net
  have H := hide h
  have HL := hide hlen
  have HW := hide hwh
  clear hcp ep hnew h hlen hwh
  go_enter Tryz.func56, Tryz.ntmps56
  go_wp2
  go_loop [5] (fun i => ∃ k : Nat, k ≤ S.paths.length ∧ i = .int .i64 k ∧ Hid (∀ q ∈ S.paths.take k, slt q s = true)) (fun i => S.paths.length - (intOf i).toNat)
  case atStart => exact ⟨0, Nat.zero_le _, rfl, by unfold Hid; simp⟩
  case round =>
    obtain ⟨at_, hk, rfl, ha⟩ := hrel
    have hcases : (∃ p, S.paths[at_]? = some p ∧ slt p s = true) ∨ (at_ = atOf S.paths s ∧ ∀ p, S.paths[at_]? = some p → slt p s = false ∧ seq p s = false) := by
      by_cases hlt : at_ < S.paths.length
      · have hp : S.paths[at_]? = some S.paths[at_] := List.getElem?_eq_getElem hlt
        cases hb : slt S.paths[at_] s with
        | true => exact .inl ⟨_, hp, hb⟩
        | false =>
          have hk' := at_stop hk ha.out (fun q hq => by rw [hp] at hq; simp at hq; subst hq; exact hb)
          refine .inr ⟨hk', fun p hp' => ?_⟩
          rw [hp] at hp'; simp at hp'; subst hp'
          refine ⟨hb, ?_⟩
          cases hs : seq S.paths[at_] s with
          | false => rfl
          | true => exact absurd (by rw [← hk', hp, (seq_iff _ _).1 hs]) HN.out
      · exact .inr ⟨at_stop hk ha.out (fun q hq => by have := (List.getElem?_eq_some_iff.1 hq).1; omega), fun p hp => by have := (List.getElem?_eq_some_iff.1 hp).1; omega⟩
    rcases hcases with ⟨p, hp, hb'⟩ | ⟨hat, hno⟩
    · have hlt : at_ < S.paths.length := (List.getElem?_eq_some_iff.1 hp).1
      obtain ⟨g, rfl, hg, hcell⟩ := HC.out at_ p hp
      have T := hide (all_take_snoc ha.out hp hb')
      have hbb : Op.bytesLess p.toList s.toList = true := hb'
      clear hp hb'
      go_wp2
      go_round
      case rel => exact ⟨at_ + 1, by omega, by go_num, T⟩
      case measure => simp [intOf]; omega
    · have HAT := hide hat
      have hwh := HW.out
      rw [← hat] at hwh
      clear hat
      obtain ⟨p, hp⟩ : ∃ p, S.paths[at_]? = some p := ⟨S.paths[at_], List.getElem?_eq_getElem hwh⟩
      obtain ⟨g, rfl, hg, hcell⟩ := HC.out at_ p hp
      obtain ⟨q1, q2⟩ := hno p hp
      have hbb : Op.bytesLess p.toList s.toList = false := q1
      have hbe : (p.toList == s.toList) = false := q2
      clear hp q1 q2 hno
      go_wp2
      clear hbb hbe hcell hg
      generalize (some (⟨g, 0, none⟩ : Addr)) = a at *
      clear ha
      go_loopw [6, 7] (fun v i wr => ∃ k : Nat, k ≤ S.paths.length ∧ i = .int .i64 k ∧ wr.ownsRow w.heap.size 9 1 v (ins at_ s S.paths k).length (svs (ins at_ s S.paths k)) ∧ Hid (Below w.heap.size w wr)) (fun _ i _ => S.paths.length - (intOf i).toNat)
      case atStart => exact ⟨0, Nat.zero_le _, rfl, by rw [ins_zero]; exact World.ownsRow_nil _ _ _ _, Below.refl _ _⟩
      case round =>
        obtain ⟨k, hk2, rfl, hown, hbl⟩ := hrel
        have hil := ins_length_le at_ s S.paths k
        have hlo := hide (World.ownsRow.lt hown)
        have hbz := hbl.out.size
        have h1' : wr.cell? ⟨b, 1, none⟩ = some (.slice a S.paths.length cap) := (hbl.out.cell (p := ⟨b, 1, none⟩) hb).trans h1
        by_cases hlt2 : k < S.paths.length
        · obtain ⟨y, hy⟩ : ∃ y, S.paths[k]? = some y := ⟨S.paths[k], List.getElem?_eq_getElem hlt2⟩
          obtain ⟨g', rfl, hg', hcell'⟩ := HC.out k y hy
          have hcy : wr.cell? ⟨g', k, none⟩ = some (.string y) := (hbl.out.cell (p := ⟨g', k, none⟩) hg').trans hcell'
          have HCL := hide hcell'
          have H1 := hide h1
          have HF1 := hide hf1
          clear hcell' h1 hf1
          rcases Nat.lt_trichotomy k at_ with hka | hka | hka
          · have E := hide (ins_lt at_ s S.paths k y (by omega) hy)
            have hne : ((k : Int) == (at_ : Int)) = false := by simp; omega
            clear hy
            go_wp2_with (first | (at_builtin; go_must (refine app_str _ rfl (.tmp 66) (.tmp 74) rfl w.heap.size _ _ _ rfl (hown.alloc _) wr.heap.size y rfl (by simp) (by omega) (by simp; omega) ?_; intro g2 c2 w2 ho2 hgr2 hat2 hl2)))
            have hb2 := hide (grown_below (hbl.out.alloc hbl.out.size _) hgr2 (fun q hq => (hlo.out q hq).1))
            have O := hide (own_next E.out ho2)
            clear hgr2 hat2 ho2 hown hcy h1'
            go_wp2
            go_roundw
            case rel => exact ⟨k + 1, by omega, by go_num, O.out, hb2⟩
            case measure => simp [intOf]; omega
          · subst hka
            have E := hide (ins_at k s S.paths y hy)
            clear hy
            go_wp2_with (first | (at_builtin; refine app_str _ rfl (.tmp 62) (.tmp 64) rfl w.heap.size _ _ _ rfl (hown.alloc _) wr.heap.size s rfl (by simp) (by omega) (by simp; omega) ?_; intro g1 c1 w1 ho1 hgr1 hat1 hl1; have hb1 := hide (grown_below (hbl.out.alloc hbl.out.size _) hgr1 (fun q hq => (hlo.out q hq).1)); have h1b : w1.cell? ⟨b, 1, none⟩ = some (.slice (some ⟨g', 0, none⟩) S.paths.length cap) := (hb1.out.cell (p := ⟨b, 1, none⟩) hb).trans H1.out; have hcyb : w1.cell? ⟨g', k, none⟩ = some (.string y) := (hb1.out.cell (p := ⟨g', k, none⟩) hg').trans HCL.out; have hbz1 := hb1.out.size; have hlo1 := hide (World.ownsRow.lt ho1); clear hgr1 hat1) | (at_builtin; refine app_str _ rfl (.tmp 66) (.tmp 74) rfl w.heap.size _ _ _ rfl (ho1.alloc _) w1.heap.size y rfl (by simp) (by omega) (by simp; omega) ?_; intro g2 c2 w2 ho2 hgr2 hat2 hl2))
            have hb2 := hide (grown_below (hb1.out.alloc hb1.out.size _) hgr2 (fun q hq => (hlo1.out q hq).1))
            have O := hide (own_next2 E.out ho2)
            clear hgr2 hat2 ho2 hown hcy h1' ho1 h1b hcyb
            go_wp2
            go_roundw
            case rel => exact ⟨k + 1, by omega, by go_num, O.out, hb2⟩
            case measure => simp [intOf]; omega
          · have E := hide (ins_gt at_ s S.paths k y (by omega) hy)
            have hne : ((k : Int) == (at_ : Int)) = false := by simp; omega
            clear hy
            go_wp2_with (first | (at_builtin; go_must (refine app_str _ rfl (.tmp 66) (.tmp 74) rfl w.heap.size _ _ _ rfl (hown.alloc _) wr.heap.size y rfl (by simp) (by omega) (by simp; omega) ?_; intro g2 c2 w2 ho2 hgr2 hat2 hl2)))
            have hb2 := hide (grown_below (hbl.out.alloc hbl.out.size _) hgr2 (fun q hq => (hlo.out q hq).1))
            have O := hide (own_next E.out ho2)
            clear hgr2 hat2 ho2 hown hcy h1'
            go_wp2
            go_roundw
            case rel => exact ⟨k + 1, by omega, by go_num, O.out, hb2⟩
            case measure => simp [intOf]; omega
        · have ek : k = S.paths.length := by omega
          subst ek
          have e1 := ins_end at_ s S.paths hwh
          rw [e1] at hown
          have hpl : (S.paths.take at_ ++ s :: S.paths.drop at_).length = S.paths.length + 1 := by simp only [List.length_append, List.length_cons, List.length_take, List.length_drop]; omega
          rw [hpl] at hown
          obtain ⟨gp, cp, rfl, hgp, hgpl⟩ := World.ownsRow.form hown (by omega)
          have HO := hide hown
          have HP := hide hpl
          have hne : ((at_ : Int) == (S.paths.length : Int)) = false := by simp; omega
          have hf1' : wr.frozen? ⟨b, 1, none⟩ = false := (hbl.out.frozen (p := ⟨b, 1, none⟩) hb).trans hf1
          clear hown hlo e1 hil hpl
          generalize S.paths.length = m at *
          have R1 := (((unhide H).below hbl.out).upd (k := gp) (2, 0) ((unhide H).free hgp) hgpl).setPaths (.slice (some ⟨gp, 0, none⟩) (m + 1) cp) (S.paths.take at_ ++ s :: S.paths.drop at_) (by rw [HP.out]; exact ownsRow_base HO.out (fun _ _ => Nat.zero_le _)) (by intro q hq; simp [Value.ownBlock] at hq; subst hq; unfold upd; rw [if_pos rfl])
          have RR := hide R1
          have GG := hide ((Grow.refl w ρ).upd hgp (2, 0))
          have FF := hide ((Fr.of_below (S := fun k => (ρ k).1 ≠ 0) hbl.out).setCell (p := ⟨b, 1, none⟩) (.inl (by simp only; rw [(unhide H).rb]; decide)) (.slice (some ⟨gp, 0, none⟩) (m + 1) cp))
          clear R1
          go_wp2
          clear hf1' h1' hne h1 hf1
          go_loopw [8] (fun rv wl => ∃ r : Nat, r ≤ S.n ∧ rv = .int .i64 r ∧ ∃ ρr Sr, Hid (RefRep wl b ρr Sr) ∧ Hid (Grow w ρ ρr) ∧ Hid (Fr (fun k => (ρ k).1 ≠ 0) w wl) ∧ Hid (Rowed S Sr at_ (S.paths.take at_ ++ s :: S.paths.drop at_) r)) (fun rv _ => S.n - (intOf rv).toNat)
          case atStart => exact ⟨0, Nat.zero_le _, rfl, _, _, RR, GG, FF, rowed_start S at_ _ _⟩
          case round =>
            obtain ⟨r, hrn, rfl, ρr, Sr, hR, hG, hF, hRow⟩ := hrel
            have en := hRow.out.n
            have h0 := hR.out.c0
            rw [en] at h0
            have hn6 := (unhide H).n6
            by_cases hlr : r < S.n
            · obtain ⟨ao, co, l, cw, c, sg, sc, x1, x2, x3, x4, x5, x6, h3, hs, hsf, hsg, hbw⟩ := row_prep (unhide H) hR.out hRow.out HL.out hlr
              have HXX := hide x1
              have HXR := hide x2
              have HCC := hide x3
              have HCR := hide x4
              have HLL := hide x5
              have HES := hide x6
              have HEN := hide en
              have H3 := hide h3
              have HS := hide hs
              have HSF := hide hsf
              clear x1 x2 x3 x4 x5 x6 en hsf
              obtain ⟨W, hWW⟩ : ∃ W, W = wr := ⟨_, rfl⟩
              subst hWW
              go_wp2
              clear hs h3
              go_loopw [9, 10] (fun v i wi => ∃ k : Nat, k ≤ m ∧ i = .int .i64 k ∧ Hid (Gather W wi S.n at_ c l k v)) (fun _ i _ => m - (intOf i).toNat)
              case atStart => exact ⟨0, Nat.zero_le _, rfl, Gather.start _ _ _ _ _⟩
              case round =>
                obtain ⟨k, hk4, rfl, hga⟩ := hrel
                have hbz := hga.out.below.size
                have h3w : wr.cell? ⟨b, 3, none⟩ = some (.slice (some ⟨sg, 0, none⟩) S.n sc) := (hga.out.below.cell (p := ⟨b, 3, none⟩) hbw).trans H3.out
                have hsw : wr.cell? ⟨sg, r, none⟩ = some (.slice ao m co) := (hga.out.below.cell (p := ⟨sg, r, none⟩) hsg).trans HS.out
                by_cases hlt4 : k < m
                · obtain ⟨y, hy⟩ : ∃ y, l[k]? = some y := ⟨l[k]'(by rw [HLL.out]; exact hlt4), List.getElem?_eq_getElem _⟩
                  obtain ⟨g5, c5, gc, cc, gt, ct, ev, hg5, ec, et, q0, q1, q2, q3, q4, q5⟩ := hR.out.six r _ l HXR.out k y hy
                  simp at ev
                  obtain ⟨rfl, hmm, rfl⟩ := ev
                  clear hmm
                  rw [HEN.out] at ec et q4 q5
                  have hcells : Hid (y.cells = [.bool y.there, .string y.text, .int .i64 y.by_, .int .i64 y.num, .slice (some ⟨gc, 0, none⟩) S.n cc, .slice (some ⟨gt, 0, none⟩) S.n ct]) := by unfold Hid SP.cells; rw [ec, et]
                  have HY := hide hy
                  have CW := hide (fun (W' : World) (hb' : Below W.heap.size W W') => (⟨(hb'.cell (p := ⟨g5, k * 6, none⟩) hg5).trans q0, (hb'.cell (p := ⟨g5, k * 6 + 1, none⟩) hg5).trans q1, (hb'.cell (p := ⟨g5, k * 6 + 2, none⟩) hg5).trans q2, (hb'.cell (p := ⟨g5, k * 6 + 3, none⟩) hg5).trans q3, (hb'.cell (p := ⟨g5, k * 6 + 4, none⟩) hg5).trans q4, (hb'.cell (p := ⟨g5, k * 6 + 5, none⟩) hg5).trans q5⟩ : W'.cell? ⟨g5, k * 6, none⟩ = some (.bool y.there) ∧ W'.cell? ⟨g5, k * 6 + 1, none⟩ = some (.string y.text) ∧ W'.cell? ⟨g5, k * 6 + 2, none⟩ = some (.int .i64 y.by_) ∧ W'.cell? ⟨g5, k * 6 + 3, none⟩ = some (.int .i64 y.num) ∧ W'.cell? ⟨g5, k * 6 + 4, none⟩ = some (.slice (some ⟨gc, 0, none⟩) S.n cc) ∧ W'.cell? ⟨g5, k * 6 + 5, none⟩ = some (.slice (some ⟨gt, 0, none⟩) S.n ct)))
                  clear q0 q1 q2 q3 q4 q5 ec et hy
                  generalize y.there = y0 at *
                  generalize y.text = y1 at *
                  generalize y.by_ = y2 at *
                  generalize y.num = y3 at *
                  rcases Nat.lt_trichotomy k at_ with hka | hka | hka
                  · have hne : ((k : Int) == (at_ : Int)) = false := by simp; omega
                    obtain ⟨q0, q1, q2, q3, q4, q5⟩ := CW.out wr hga.out.below
                    have hown := hga.out.low (by omega)
                    go_wp2_with (first | (at_builtin; go_must (refine app_spot _ rfl (.tmp 120) (.tmp 131) rfl W.heap.size _ _ _ rfl (hown.alloc _) wr.heap.size y0 y1 y2 y3 _ _ _ _ _ _ rfl (heap_alloc_new _ _) (by omega) (by simp; omega) ?_; intro g2 c2 w2 ho2 hgr2 hat2 hl2)))
                    have G := hide (hga.out.lo hka y HY.out _ g2 c2 (by rw [hcells.out]; exact ho2) hgr2)
                    clear hgr2 hat2 ho2 hown q0 q1 q2 q3 q4 q5 h3w hsw
                    go_wp2
                    go_roundw
                    case rel => exact ⟨k + 1, by omega, by go_num, G⟩
                    case measure => simp [intOf]; omega
                  · subst hka
                    have hRw := hide (hR.out.below hga.out.below)
                    clear h3w hsw
                    have h3w : wr.cell? ⟨b, 3, none⟩ = some (.slice (some ⟨sg, 0, none⟩) S.n sc) := (hga.out.below.cell (p := ⟨b, 3, none⟩) hbw).trans H3.out
                    have hsw : wr.cell? ⟨sg, r, none⟩ = some (.slice (some ⟨g5, 0, none⟩) m co) := (hga.out.below.cell (p := ⟨sg, r, none⟩) hsg).trans HS.out
                    have hrr : r < Sr.n := by rw [HEN.out]; exact hlr
                    go_wp2_with (first
                      | (go_at_call 102; refine (fresh_form b r ρr Sr _ hRw.out hrr cw c HCR.out).mono ?_; rw [HEN.out]; rintro e wf ⟨gc0, cc0, gt0, ct0, rfl, hch0, htm0, hne0, hbf⟩; have hownf := hga.out.lowf (Nat.le_refl _) hbf.out; have hbzf := hbf.out.size)
                      | (at_builtin; refine app_spot _ rfl (.tmp 114) (.tmp 118) rfl W.heap.size _ _ _ rfl (hownf.alloc _) wf.heap.size false ⟨#[]⟩ 0 0 _ _ _ _ _ _ rfl (heap_alloc_new _ _) (by omega) (by simp; omega) ?_; intro g1 c1 w1 ho1 hgr1 hat1 hl1; have hh := hide (hga.out.put hbf.out ⟨false, ⟨#[]⟩, 0, 0, _, List.replicate S.n 0, _, c⟩ ⟨rfl, rfl, rfl, rfl, rfl, rfl⟩ hch0.out htm0.out (by intro q hq; simp [Value.ownBlock] at hq ⊢; omega) _ g1 c1 ho1 hgr1 hat1); have h3x : w1.cell? ⟨b, 3, none⟩ = some (.slice (some ⟨sg, 0, none⟩) S.n sc) := (hh.out.below.cell (p := ⟨b, 3, none⟩) hbw).trans H3.out; have hsx : w1.cell? ⟨sg, r, none⟩ = some (.slice (some ⟨g5, 0, none⟩) m co) := (hh.out.below.cell (p := ⟨sg, r, none⟩) hsg).trans HS.out; obtain ⟨q0, q1, q2, q3, q4, q5⟩ := CW.out w1 hh.out.below; have hbz1 := hh.out.below.size; obtain ⟨fr, hfr, hownh⟩ := hh.out.own; have HFR := hide hfr; clear hfr ho1 hgr1 hat1)
                      | (at_builtin; refine app_spot _ rfl (.tmp 120) (.tmp 131) rfl W.heap.size _ _ _ rfl (hownh.alloc _) w1.heap.size y0 y1 y2 y3 _ _ _ _ _ _ rfl (heap_alloc_new _ _) (by omega) (by simp; omega) ?_; intro g2 c2 w2 ho2 hgr2 hat2 hl2))
                    have G := hide (Half.next hh.out.below fr HFR.out hownh y HY.out _ g2 c2 (by rw [hcells.out]; exact ho2) hgr2 hat2)
                    clear hgr2 hat2 ho2 hownh hownf q0 q1 q2 q3 q4 q5 h3w hsw h3x hsx
                    go_wp2
                    go_roundw
                    case rel => exact ⟨k + 1, by omega, by go_num, G⟩
                    case measure => simp [intOf]; omega
                  · have hne : ((k : Int) == (at_ : Int)) = false := by simp; omega
                    obtain ⟨q0, q1, q2, q3, q4, q5⟩ := CW.out wr hga.out.below
                    obtain ⟨fr, hfr, hown⟩ := hga.out.high hka
                    have HFR := hide hfr
                    clear hfr
                    go_wp2_with (first | (at_builtin; go_must (refine app_spot _ rfl (.tmp 120) (.tmp 131) rfl W.heap.size _ _ _ rfl (hown.alloc _) wr.heap.size y0 y1 y2 y3 _ _ _ _ _ _ rfl (heap_alloc_new _ _) (by omega) (by simp; omega) ?_; intro g2 c2 w2 ho2 hgr2 hat2 hl2)))
                    have G := hide (Gather.hi hga.out.below hka fr HFR.out hown y HY.out _ g2 c2 (by rw [hcells.out]; exact ho2) hgr2 hat2)
                    clear hgr2 hat2 ho2 hown q0 q1 q2 q3 q4 q5 h3w hsw
                    go_wp2
                    go_roundw
                    case rel => exact ⟨k + 1, by omega, by go_num, G⟩
                    case measure => simp [intOf]; omega
                · have ek : k = m := by omega
                  subst ek
                  have hsfw : wr.frozen? ⟨sg, r, none⟩ = false := (hga.out.below.frozen (p := ⟨sg, r, none⟩) hsg).trans HSF.out
                  have hne : ((at_ : Int) == (k : Int)) = false := by simp; omega
                  have hga2 := hga.out
                  rw [← HLL.out] at hga2
                  have hwl := hga2.whole (by rw [HLL.out]; exact hwh)
                  rw [← HEN.out] at hwl
                  clear hga2
                  obtain ⟨ρ', fr, hRn, hGn, hfrn, gv, cvv, rfl⟩ := hwl.store hR.out HXR.out HCR.out sg sc (by rw [HEN.out]; exact HES.out) (by rw [HEN.out]; exact hlr)
                  rw [HLL.out] at hRn
                  have X1 := hide hRn
                  have X2 := hide (hG.out.trans (hF.out.size) hGn)
                  have X3 := hide ((hF.out.trans' (Fr.of_below hga.out.below) (fun _ _ h => h)).setCell (p := ⟨sg, r, none⟩) (by simp only; by_cases hz : sg < w.heap.size; exact .inl (by rcases hG.out sg (by rw [hR.out.rs sg (by rw [HES.out]; rfl)]; simp) with q | q; exact q; omega); exact .inr (by omega)) (.slice (some ⟨gv, 0, none⟩) (l.length + 1) cvv))
                  have X4 := hide (hRow.out.next (by have := hR.out.rowl; rw [this, HEN.out]; exact hlr) (.slice (some ⟨gv, 0, none⟩) (k + 1) cvv) _ l HXX.out fr cw c HCC.out (by rw [← HEN.out]; exact hfrn))
                  rw [HLL.out] at X3
                  clear hRn hGn hwl
                  rw [HLL.out]
                  go_wp2
                  go_roundw
                  case rel => exact ⟨r + 1, by omega, by go_num, _, _, X1, X2, X3, X4⟩
                  case measure => simp [intOf]; omega
            · go_wp2
              go_ret
              have er : r = S.n := by omega
              exact ⟨ρr, Sr, ret_int (by rw [← HAT.out]), hR.out, hG.out, hF.out, by rw [← HAT.out]; rw [er] at hRow; exact hRow.out⟩

end Go.Proofs.YtaelaldmibgibaaGreatDoor

namespace Go.Proofs.YtaelaldmibgibaaGreatDoor
open Go.RowKit

set_option maxRecDepth 100000 in
set_option maxHeartbeats 2000000 in
theorem place_end (b : Nat) (s : ByteArray) (ρ : Nat → Nat × Nat) (S : RS) (w : World) (h : RefRep w b ρ S) (hnew : S.paths[atOf S.paths s]? ≠ some s) (hlen : ∀ (r : Nat) (x : Value × List SP), S.rows[r]? = some x → x.2.length = S.paths.length) (hm : S.paths.length ≤ 100000000) (hwh : atOf S.paths s = S.paths.length) :
    Calls Tryz.prog 56 #[.pointer (some ⟨b, 0, none⟩), .string s] w fun e w' => ∃ ρ' S', e = .returned (.int .i64 (atOf S.paths s)) ∧ RefRep w' b ρ' S' ∧ Grow w ρ ρ' ∧ Fr (fun k => (ρ k).1 ≠ 0) w w' ∧
      Rowed S S' (atOf S.paths s) (S.paths.take (atOf S.paths s) ++ s :: S.paths.drop (atOf S.paths s)) S.n := by
  obtain ⟨hml, a, cap, ep, hcp⟩ := strRow_form h.p
  have h1 := h.c1
  rw [ep] at h1
  have HC := hide hcp
  unfold maxLen at hml
  have HN := hide hnew
  have hb : b < w.heap.size := h.lt b (by rw [h.rb]; decide)
  have hf1 : w.frozen? ⟨b, 1, none⟩ = false := frozen_of_row w b 1 _ _ h.net
  have H := hide h
  have HL := hide hlen
  have HW := hide hwh
  clear hcp ep hnew h hlen hwh
  go_enter Tryz.func56, Tryz.ntmps56
  go_wp2
  go_loop [5] (fun i => ∃ k : Nat, k ≤ S.paths.length ∧ i = .int .i64 k ∧ Hid (∀ q ∈ S.paths.take k, slt q s = true)) (fun i => S.paths.length - (intOf i).toNat)
  case atStart => exact ⟨0, Nat.zero_le _, rfl, by unfold Hid; simp⟩
  case round =>
    obtain ⟨at_, hk, rfl, ha⟩ := hrel
    have hcases : (∃ p, S.paths[at_]? = some p ∧ slt p s = true) ∨ (at_ = atOf S.paths s ∧ ∀ p, S.paths[at_]? = some p → slt p s = false ∧ seq p s = false) := by
      by_cases hlt : at_ < S.paths.length
      · have hp : S.paths[at_]? = some S.paths[at_] := List.getElem?_eq_getElem hlt
        cases hb : slt S.paths[at_] s with
        | true => exact .inl ⟨_, hp, hb⟩
        | false =>
          have hk' := at_stop hk ha.out (fun q hq => by rw [hp] at hq; simp at hq; subst hq; exact hb)
          refine .inr ⟨hk', fun p hp' => ?_⟩
          rw [hp] at hp'; simp at hp'; subst hp'
          refine ⟨hb, ?_⟩
          cases hs : seq S.paths[at_] s with
          | false => rfl
          | true => exact absurd (by rw [← hk', hp, (seq_iff _ _).1 hs]) HN.out
      · exact .inr ⟨at_stop hk ha.out (fun q hq => by have := (List.getElem?_eq_some_iff.1 hq).1; omega), fun p hp => by have := (List.getElem?_eq_some_iff.1 hp).1; omega⟩
    rcases hcases with ⟨p, hp, hb'⟩ | ⟨hat, hno⟩
    · have hlt : at_ < S.paths.length := (List.getElem?_eq_some_iff.1 hp).1
      obtain ⟨g, rfl, hg, hcell⟩ := HC.out at_ p hp
      have T := hide (all_take_snoc ha.out hp hb')
      have hbb : Op.bytesLess p.toList s.toList = true := hb'
      clear hp hb'
      go_wp2
      go_round
      case rel => exact ⟨at_ + 1, by omega, by go_num, T⟩
      case measure => simp [intOf]; omega
    · have HAT := hide hat
      have hwh := HW.out
      rw [← hat] at hwh
      clear hat
      clear hno
      have hwh' : ¬ at_ < S.paths.length := by omega
      have HWH := hide hwh
      clear hwh
      go_wp2
      clear ha
      go_loopw [6, 7] (fun v i wr => ∃ k : Nat, k ≤ S.paths.length ∧ i = .int .i64 k ∧ wr.ownsRow w.heap.size 9 1 v (ins at_ s S.paths k).length (svs (ins at_ s S.paths k)) ∧ Hid (Below w.heap.size w wr)) (fun _ i _ => S.paths.length - (intOf i).toNat)
      case atStart => exact ⟨0, Nat.zero_le _, rfl, by rw [ins_zero]; exact World.ownsRow_nil _ _ _ _, Below.refl _ _⟩
      case round =>
        obtain ⟨k, hk2, rfl, hown, hbl⟩ := hrel
        have hil := ins_length_le at_ s S.paths k
        have hlo := hide (World.ownsRow.lt hown)
        have hbz := hbl.out.size
        have h1' : wr.cell? ⟨b, 1, none⟩ = some (.slice a S.paths.length cap) := (hbl.out.cell (p := ⟨b, 1, none⟩) hb).trans h1
        by_cases hlt2 : k < S.paths.length
        · obtain ⟨y, hy⟩ : ∃ y, S.paths[k]? = some y := ⟨S.paths[k], List.getElem?_eq_getElem hlt2⟩
          obtain ⟨g', rfl, hg', hcell'⟩ := HC.out k y hy
          have hcy : wr.cell? ⟨g', k, none⟩ = some (.string y) := (hbl.out.cell (p := ⟨g', k, none⟩) hg').trans hcell'
          have HCL := hide hcell'
          have H1 := hide h1
          have HF1 := hide hf1
          clear hcell' h1 hf1
          have E := hide (ins_lt at_ s S.paths k y (by omega) hy)
          have hne : ((k : Int) == (at_ : Int)) = false := by simp; omega
          clear hy
          go_wp2_with (first | (at_builtin; go_must (refine app_str _ rfl (.tmp 66) (.tmp 74) rfl w.heap.size _ _ _ rfl (hown.alloc _) wr.heap.size y rfl (by simp) (by omega) (by simp; omega) ?_; intro g2 c2 w2 ho2 hgr2 hat2 hl2)))
          have hb2 := hide (grown_below (hbl.out.alloc hbl.out.size _) hgr2 (fun q hq => (hlo.out q hq).1))
          have O := hide (own_next E.out ho2)
          clear hgr2 hat2 ho2 hown hcy h1'
          go_wp2
          go_roundw
          case rel => exact ⟨k + 1, by omega, by go_num, O.out, hb2⟩
          case measure => simp [intOf]; omega
        · have ek : k = S.paths.length := by omega
          subst ek
          have e1 := ins_len S.paths s
          have hwh := HWH.out
          have hpl : (S.paths.take at_ ++ s :: S.paths.drop at_).length = S.paths.length + 1 := by simp only [List.length_append, List.length_cons, List.length_take, List.length_drop]; omega
          have hil0 : (ins at_ s S.paths S.paths.length).length = S.paths.length := by unfold ins; rw [if_pos (by omega), List.length_take]; omega
          rw [hil0] at hown
          have HP := hide hpl
          have hE : Hid (svs (ins at_ s S.paths S.paths.length) ++ [.string s] = svs (S.paths.take at_ ++ s :: S.paths.drop at_)) := by
            unfold Hid
            rw [hwh, ← e1, svs_append]; rfl
          have hat' : ((at_ : Int) == (S.paths.length : Int)) = true := by simp; omega
          have H1 := hide h1
          have HF1 := hide hf1
          clear e1 hil hpl hil0 hwh h1 hf1
          generalize hM : S.paths.length = m at *
          have HM := hide hM
          clear hM
          go_wp2_with (first | (at_builtin; refine app_str _ rfl (.tmp 83) (.tmp 85) rfl w.heap.size _ _ _ rfl (hown.alloc _) wr.heap.size s rfl (by simp) (by omega) (by simp; omega) ?_; intro gp cp w1 ho1 hgr1 hat1 hgpl; have hb1 := hide (grown_below (hbl.out.alloc hbl.out.size _) hgr1 (fun q hq => (hlo.out q hq).1)); have hf1' : w1.frozen? ⟨b, 1, none⟩ = false := (hb1.out.frozen (p := ⟨b, 1, none⟩) hb).trans HF1.out; have h1c : w1.cell? ⟨b, 1, none⟩ = some (.slice a m cap) := (hb1.out.cell (p := ⟨b, 1, none⟩) hb).trans H1.out; have HO := hide ho1; have hgp := (World.ownsRow.lt ho1 gp rfl).1; clear hgr1 hat1 ho1))
          clear hown hlo hat' h1' 
          have hwh := HWH.out
          have R1 := (((unhide H).below hb1.out).upd (k := gp) (2, 0) ((unhide H).free hgp) hgpl).setPaths (.slice (some ⟨gp, 0, none⟩) (m + 1) cp) (S.paths.take at_ ++ s :: S.paths.drop at_) (by rw [HP.out]; rw [← hE.out]; exact ownsRow_base HO.out (fun _ _ => Nat.zero_le _)) (by intro q hq; simp [Value.ownBlock] at hq; subst hq; unfold upd; rw [if_pos rfl])
          have RR := hide R1
          have GG := hide ((Grow.refl w ρ).upd hgp (2, 0))
          have FF := hide ((Fr.of_below (S := fun k => (ρ k).1 ≠ 0) hb1.out).setCell (p := ⟨b, 1, none⟩) (.inl (by simp only; rw [(unhide H).rb]; decide)) (.slice (some ⟨gp, 0, none⟩) (m + 1) cp))
          clear R1
          have HWH2 := hide hwh
          clear hf1' h1c hwh
          go_loopw [8] (fun rv wl => ∃ r : Nat, r ≤ S.n ∧ rv = .int .i64 r ∧ ∃ ρr Sr, Hid (RefRep wl b ρr Sr) ∧ Hid (Grow w ρ ρr) ∧ Hid (Fr (fun k => (ρ k).1 ≠ 0) w wl) ∧ Hid (Rowed S Sr at_ (S.paths.take at_ ++ s :: S.paths.drop at_) r)) (fun rv _ => S.n - (intOf rv).toNat)
          case atStart => exact ⟨0, Nat.zero_le _, rfl, _, _, RR, GG, FF, rowed_start S at_ _ _⟩
          case round =>
            obtain ⟨r, hrn, rfl, ρr, Sr, hR, hG, hF, hRow⟩ := hrel
            have en := hRow.out.n
            have h0 := hR.out.c0
            rw [en] at h0
            have hn6 := (unhide H).n6
            by_cases hlr : r < S.n
            · obtain ⟨ao, co, l, cw, c, sg, sc, x1, x2, x3, x4, x5, x6, h3, hs, hsf, hsg, hbw⟩ := row_prep (unhide H) hR.out hRow.out HL.out hlr
              have HXX := hide x1
              have HXR := hide x2
              have HCC := hide x3
              have HCR := hide x4
              have HLL := hide x5
              have HES := hide x6
              have HEN := hide en
              have H3 := hide h3
              have HS := hide hs
              have HSF := hide hsf
              clear x1 x2 x3 x4 x5 x6 en hsf
              obtain ⟨W, hWW⟩ : ∃ W, W = wr := ⟨_, rfl⟩
              subst hWW
              go_wp2
              clear hs h3
              go_loopw [9, 10] (fun v i wi => ∃ k : Nat, k ≤ m ∧ i = .int .i64 k ∧ Hid (Gather W wi S.n at_ c l k v)) (fun _ i _ => m - (intOf i).toNat)
              case atStart => exact ⟨0, Nat.zero_le _, rfl, Gather.start _ _ _ _ _⟩
              case round =>
                obtain ⟨k, hk4, rfl, hga⟩ := hrel
                have hbz := hga.out.below.size
                have h3w : wr.cell? ⟨b, 3, none⟩ = some (.slice (some ⟨sg, 0, none⟩) S.n sc) := (hga.out.below.cell (p := ⟨b, 3, none⟩) hbw).trans H3.out
                have hsw : wr.cell? ⟨sg, r, none⟩ = some (.slice ao m co) := (hga.out.below.cell (p := ⟨sg, r, none⟩) hsg).trans HS.out
                by_cases hlt4 : k < m
                · obtain ⟨y, hy⟩ : ∃ y, l[k]? = some y := ⟨l[k]'(by rw [HLL.out]; exact hlt4), List.getElem?_eq_getElem _⟩
                  obtain ⟨g5, c5, gc, cc, gt, ct, ev, hg5, ec, et, q0, q1, q2, q3, q4, q5⟩ := hR.out.six r _ l HXR.out k y hy
                  simp at ev
                  obtain ⟨rfl, hmm, rfl⟩ := ev
                  clear hmm
                  rw [HEN.out] at ec et q4 q5
                  have hcells : Hid (y.cells = [.bool y.there, .string y.text, .int .i64 y.by_, .int .i64 y.num, .slice (some ⟨gc, 0, none⟩) S.n cc, .slice (some ⟨gt, 0, none⟩) S.n ct]) := by unfold Hid SP.cells; rw [ec, et]
                  have HY := hide hy
                  have CW := hide (fun (W' : World) (hb' : Below W.heap.size W W') => (⟨(hb'.cell (p := ⟨g5, k * 6, none⟩) hg5).trans q0, (hb'.cell (p := ⟨g5, k * 6 + 1, none⟩) hg5).trans q1, (hb'.cell (p := ⟨g5, k * 6 + 2, none⟩) hg5).trans q2, (hb'.cell (p := ⟨g5, k * 6 + 3, none⟩) hg5).trans q3, (hb'.cell (p := ⟨g5, k * 6 + 4, none⟩) hg5).trans q4, (hb'.cell (p := ⟨g5, k * 6 + 5, none⟩) hg5).trans q5⟩ : W'.cell? ⟨g5, k * 6, none⟩ = some (.bool y.there) ∧ W'.cell? ⟨g5, k * 6 + 1, none⟩ = some (.string y.text) ∧ W'.cell? ⟨g5, k * 6 + 2, none⟩ = some (.int .i64 y.by_) ∧ W'.cell? ⟨g5, k * 6 + 3, none⟩ = some (.int .i64 y.num) ∧ W'.cell? ⟨g5, k * 6 + 4, none⟩ = some (.slice (some ⟨gc, 0, none⟩) S.n cc) ∧ W'.cell? ⟨g5, k * 6 + 5, none⟩ = some (.slice (some ⟨gt, 0, none⟩) S.n ct)))
                  clear q0 q1 q2 q3 q4 q5 ec et hy
                  generalize y.there = y0 at *
                  generalize y.text = y1 at *
                  generalize y.by_ = y2 at *
                  generalize y.num = y3 at *
                  have hka : k < at_ := by have := HWH2.out; omega
                  have hne : ((k : Int) == (at_ : Int)) = false := by simp; omega
                  obtain ⟨q0, q1, q2, q3, q4, q5⟩ := CW.out wr hga.out.below
                  have hown := hga.out.low (by omega)
                  go_wp2_with (first | (at_builtin; go_must (refine app_spot _ rfl (.tmp 120) (.tmp 131) rfl W.heap.size _ _ _ rfl (hown.alloc _) wr.heap.size y0 y1 y2 y3 _ _ _ _ _ _ rfl (heap_alloc_new _ _) (by omega) (by simp; omega) ?_; intro g2 c2 w2 ho2 hgr2 hat2 hl2)))
                  have G := hide (hga.out.lo hka y HY.out _ g2 c2 (by rw [hcells.out]; exact ho2) hgr2)
                  clear hgr2 hat2 ho2 hown q0 q1 q2 q3 q4 q5 h3w hsw
                  go_wp2
                  go_roundw
                  case rel => exact ⟨k + 1, by omega, by go_num, G⟩
                  case measure => simp [intOf]; omega
                · have ek : k = m := by omega
                  subst ek
                  have hka : at_ = k := HWH2.out
                  have hne : ((at_ : Int) == (k : Int)) = true := by simp; omega
                  have hRw := hide (hR.out.below hga.out.below)
                  have hrr : r < Sr.n := by rw [HEN.out]; exact hlr
                  have hga2 := hga.out
                  rw [← hka] at hga2
                  have HGA := hide hga2
                  have HKA := hide hka
                  clear hga2 hka hga
                  go_wp2_with (first
                    | (go_at_call 102; refine (fresh_form b r ρr Sr _ hRw.out hrr cw c HCR.out).mono ?_; rw [HEN.out]; rintro e wf ⟨gc0, cc0, gt0, ct0, rfl, hch0, htm0, hne0, hbf⟩; have hownf := HGA.out.lowf (Nat.le_refl _) hbf.out; have hbzf := hbf.out.size)
                    | (at_builtin; refine app_spot _ rfl (.tmp 143) (.tmp 147) rfl W.heap.size _ _ _ rfl (hownf.alloc _) wf.heap.size false ⟨#[]⟩ 0 0 _ _ _ _ _ _ rfl (heap_alloc_new _ _) (by omega) (by simp; omega) ?_; intro g1 c1 w1 ho1 hgr1 hat1 hl1; have hh := hide (HGA.out.put hbf.out ⟨false, ⟨#[]⟩, 0, 0, _, List.replicate S.n 0, _, c⟩ ⟨rfl, rfl, rfl, rfl, rfl, rfl⟩ hch0.out htm0.out (by intro q hq; simp [Value.ownBlock] at hq ⊢; omega) _ g1 c1 ho1 hgr1 hat1); have h3x : w1.cell? ⟨b, 3, none⟩ = some (.slice (some ⟨sg, 0, none⟩) S.n sc) := (hh.out.below.cell (p := ⟨b, 3, none⟩) hbw).trans H3.out; have hsx : w1.cell? ⟨sg, r, none⟩ = some (.slice ao k co) := (hh.out.below.cell (p := ⟨sg, r, none⟩) hsg).trans HS.out; have hsfw : w1.frozen? ⟨sg, r, none⟩ = false := (hh.out.below.frozen (p := ⟨sg, r, none⟩) hsg).trans HSF.out; clear ho1 hgr1 hat1))
                  have hwl := hh.out.whole (by rw [HLL.out]; exact HKA.out)
                  rw [← HEN.out] at hwl
                  obtain ⟨ρ', fr, hRn, hGn, hfrn, gv, cvv, hvv⟩ := hwl.store hR.out HXR.out HCR.out sg sc (by rw [HEN.out]; exact HES.out) (by rw [HEN.out]; exact hlr)
                  have X1 := hide hRn
                  have X2 := hide (hG.out.trans (hF.out.size) hGn)
                  have X3 := hide ((hF.out.trans' (Fr.of_below hh.out.below) (fun _ _ h => h)).setCell (p := ⟨sg, r, none⟩) (by simp only; by_cases hz : sg < w.heap.size; exact .inl (by rcases hG.out sg (by rw [hR.out.rs sg (by rw [HES.out]; rfl)]; simp) with q | q; exact q; omega); exact .inr (by omega)) (.slice (some ⟨g1, 0, none⟩) (at_ + 1) c1))
                  have X4 := hide (hRow.out.next (by have := hR.out.rowl; rw [this, HEN.out]; exact hlr) (.slice (some ⟨g1, 0, none⟩) (at_ + 1) c1) _ l HXX.out fr cw c HCC.out (by rw [← HEN.out]; exact hfrn))
                  clear hRn hGn hwl hvv h3x hsx hsfw
                  go_roundw
                  case rel => exact ⟨r + 1, by omega, by go_num, _, _, X1, X2, X3, X4⟩
                  case measure => simp [intOf]; omega
            · go_wp2
              go_ret
              have er : r = S.n := by omega
              exact ⟨ρr, Sr, ret_int (by rw [← HAT.out]), hR.out, hG.out, hF.out, by rw [← HAT.out]; rw [er] at hRow; exact hRow.out⟩

end Go.Proofs.YtaelaldmibgibaaGreatDoor

namespace Go.Proofs.YtaelaldmibgibaaGreatDoor
open Go.RowKit

def Sorted (ps : List ByteArray) : Prop := ps.Pairwise (fun a b => slt a b = true)
/-- the files of a row of spots -/
def rowF (ps : List ByteArray) (l : List SP) : Files := ((ps.zip l).filter (·.2.there)).map (fun x => (x.1, x.2.text))
def rowM (p : ByteArray) (s : SP) : Files := if s.there = true then [(p, s.text)] else []

theorem rowF_split (a b : List ByteArray) (p : ByteArray) (la lb : List SP) (s : SP) (h : a.length = la.length) : rowF (a ++ p :: b) (la ++ s :: lb) = rowF a la ++ rowM p s ++ rowF b lb := by
  unfold rowF rowM
  rw [List.zip_append h, List.filter_append, List.map_append, List.zip_cons_cons, List.filter_cons]
  by_cases ht : s.there = true
  · simp [ht]
  · simp [ht]
theorem rowF_mem {ps : List ByteArray} {l : List SP} {x : ByteArray × ByteArray} (h : x ∈ rowF ps l) : x.1 ∈ ps := by
  unfold rowF at h
  rw [List.mem_map] at h
  obtain ⟨y, hy, rfl⟩ := h
  exact (List.of_mem_zip (List.mem_filter.1 hy).1).1
theorem rowF_length (ps : List ByteArray) (l : List SP) (h : ps.length = l.length) : (rowF ps l).length = filesOf l := by
  unfold rowF filesOf
  rw [List.length_map]
  induction l generalizing ps with
  | nil => simp
  | cons s l ih =>
    cases ps with
    | nil => simp at h
    | cons p ps =>
      rw [List.zip_cons_cons, List.filter_cons, List.filter_cons]
      have := ih ps (by simpa using h)
      by_cases ht : s.there = true <;> simp [ht, this]

structure RInv (S : RS) (A : Abs) : Prop where
  n : A.n = S.n
  sorted : Sorted S.paths
  len : ∀ (r : Nat) (x : Value × List SP), S.rows[r]? = some x → x.2.length = S.paths.length
  files : ∀ (r : Nat) (v : Value) (l : List SP), S.rows[r]? = some (v, l) → A.F r = rowF S.paths l
  cnt : ∀ r, r < S.n → A.c r = S.count r ∧ 0 ≤ A.c r
  tm : ∀ (r : Nat) (v : Value) (l : List SP) (cw : Value) (c : List Int), S.rows[r]? = some (v, l) → S.coms[r]? = some (cw, c) → ∀ s ∈ l, s.tm = c

/-- about a path that is there -/
theorem sorted_split {a b : List ByteArray} {p : ByteArray} (h : Sorted (a ++ p :: b)) : (∀ q ∈ a, slt q p = true) ∧ (∀ q ∈ b, slt p q = true) := by
  unfold Sorted at h
  rw [List.pairwise_append] at h
  exact ⟨fun q hq => h.2.2 q hq p (by simp), fun q hq => (List.pairwise_cons.1 h.2.1).1 q hq⟩
theorem parts_of {a b : List ByteArray} {p : ByteArray} {la lb : List SP} {s : SP} (h : Sorted (a ++ p :: b)) : Parts p (rowF a la) (rowM p s) (rowF b lb) :=
  ⟨fun x hx => (sorted_split h).1 _ (rowF_mem hx), fun x hx => (sorted_split h).2 _ (rowF_mem hx), fun x hx => by
    unfold rowM at hx
    split at hx
    · simp at hx; rw [hx]
    · simp at hx⟩

theorem atOf_take (ps : List ByteArray) (p : ByteArray) : ∀ q ∈ ps.take (atOf ps p), slt q p = true := by
  unfold atOf
  induction ps with
  | nil => simp
  | cons x ps ih =>
    rw [List.takeWhile_cons]
    by_cases hx : slt x p = true
    · rw [if_pos hx]
      intro q hq
      simp at hq
      rcases hq with rfl | hq
      · exact hx
      · exact ih q hq
    · rw [if_neg hx]; simp
theorem atOf_le (ps : List ByteArray) (p : ByteArray) : atOf ps p ≤ ps.length := by
  unfold atOf
  induction ps with
  | nil => simp
  | cons x ps ih =>
    rw [List.takeWhile_cons]
    split
    · simp; exact ih
    · simp
theorem atOf_get (ps : List ByteArray) (p q : ByteArray) (h : ps[atOf ps p]? = some q) : slt q p = false := by
  unfold atOf at h
  induction ps with
  | nil => simp at h
  | cons x ps ih =>
    rw [List.takeWhile_cons] at h
    by_cases hx : slt x p = true
    · rw [if_pos hx] at h
      simp at h
      exact ih h
    · rw [if_neg hx] at h
      simp at h
      subst h
      simpa using hx
theorem atOf_drop (ps : List ByteArray) (p : ByteArray) (hs : Sorted ps) (hnew : ps[atOf ps p]? ≠ some p) : ∀ q ∈ ps.drop (atOf ps p), slt p q = true := by
  intro q hq
  obtain ⟨i, hi, rfl⟩ := List.mem_iff_getElem.1 hq
  simp only [List.length_drop] at hi
  rw [List.getElem_drop]
  have hlt : atOf ps p < ps.length := by omega
  have h0 := atOf_get ps p ps[atOf ps p] (List.getElem?_eq_getElem hlt)
  have h1 : slt p ps[atOf ps p] = true := by
    cases e : slt p ps[atOf ps p] with
    | true => rfl
    | false =>
      have := slt_tri h0 e
      exact absurd (by rw [List.getElem?_eq_getElem hlt, this]) hnew
  cases i with
  | zero => simpa using h1
  | succ i =>
    have := List.pairwise_iff_getElem.1 hs (atOf ps p) (atOf ps p + (i + 1)) hlt (by omega) (by omega)
    exact slt_trans h1 this
theorem sorted_ins (ps : List ByteArray) (p : ByteArray) (hs : Sorted ps) (hnew : ps[atOf ps p]? ≠ some p) : Sorted (ps.take (atOf ps p) ++ p :: ps.drop (atOf ps p)) := by
  unfold Sorted
  rw [List.pairwise_append]
  refine ⟨hs.sublist (List.take_sublist _ _), ?_, ?_⟩
  · rw [List.pairwise_cons]
    exact ⟨atOf_drop ps p hs hnew, hs.sublist (List.drop_sublist _ _)⟩
  · intro x hx y hy
    have h1 := atOf_take ps p x hx
    rw [List.mem_cons] at hy
    rcases hy with rfl | hy
    · exact h1
    · exact slt_trans h1 (atOf_drop ps p hs hnew y hy)

/-- a new path changes nothing of what there is -/
theorem RInv.placed {w : World} {b : Nat} {ρ : Nat → Nat × Nat} {S S' : RS} {A : Abs} (h : RInv S A) (hR : RefRep w b ρ S) (p : ByteArray) (hnew : S.paths[atOf S.paths p]? ≠ some p)
    (hRow : Rowed S S' (atOf S.paths p) (S.paths.take (atOf S.paths p) ++ p :: S.paths.drop (atOf S.paths p)) S.n) (hl : S'.rows.length = S.n) : RInv S' A := by
  have hat := atOf_le S.paths p
  have key : ∀ (r : Nat) (v' : Value) (l' : List SP), S'.rows[r]? = some (v', l') → ∃ (v : Value) (l : List SP) (fr : SP) (cw : Value) (c : List Int), S.rows[r]? = some (v, l) ∧ l' = l.take (atOf S.paths p) ++ fr :: l.drop (atOf S.paths p) ∧ S.coms[r]? = some (cw, c) ∧ Fresh S.n c fr := by
    intro r v' l' hx
    have hr : r < S.n := by have := (List.getElem?_eq_some_iff.1 hx).1; omega
    have hrl : r < S.rows.length := by rw [hR.rowl]; exact hr
    obtain ⟨v, l, hx0⟩ : ∃ v l, S.rows[r]? = some (v, l) := ⟨S.rows[r].1, S.rows[r].2, List.getElem?_eq_getElem hrl⟩
    obtain ⟨v'', fr, cw, c, h1, h2, h3⟩ := hRow.lo r v l hx0 hr
    rw [h1] at hx
    simp at hx
    exact ⟨v, l, fr, cw, c, hx0, hx.2.symm, h2, h3⟩
  refine ⟨by rw [h.n, hRow.n], ?_, ?_, ?_, ?_, ?_⟩
  · rw [hRow.paths]; exact sorted_ins _ _ h.sorted hnew
  · rintro r ⟨v', l'⟩ hx
    obtain ⟨v, l, fr, cw, c, h0, rfl, _, _⟩ := key r v' l' hx
    have := h.len r _ h0
    simp only at this
    rw [hRow.paths]
    simp only [List.length_append, List.length_cons, List.length_take, List.length_drop]
    omega
  · intro r v' l' hx
    obtain ⟨v, l, fr, cw, c, h0, rfl, _, hf⟩ := key r v' l' hx
    have hlen := h.len r _ h0
    simp only at hlen
    rw [hRow.paths, rowF_split _ _ _ _ _ _ (by rw [List.length_take, List.length_take, hlen]), h.files r v l h0]
    have e : rowM p fr = [] := by unfold rowM; rw [hf.there]; simp
    rw [e, List.append_nil]
    unfold rowF
    rw [← List.map_append, ← List.filter_append, ← List.zip_append (by rw [List.length_take, List.length_take, hlen]), List.take_append_drop, List.take_append_drop]
  · intro r hr
    have := h.cnt r (by rw [← hRow.n]; exact hr)
    unfold RS.count at *
    rw [hRow.coms]
    exact this
  · intro r v' l' cw c hx hc s hs
    obtain ⟨v, l, fr, cw', c', h0, rfl, h2, hf⟩ := key r v' l' hx
    rw [hRow.coms, h2] at hc
    simp at hc
    obtain ⟨rfl, rfl⟩ := hc
    have hs' : s ∈ l ∨ s = fr := by
      simp only [List.mem_append, List.mem_cons] at hs
      rcases hs with hs | hs | hs
      · exact .inl (List.mem_of_mem_take hs)
      · exact .inr hs
      · exact .inl (List.mem_of_mem_drop hs)
    rcases hs' with hs' | rfl
    · exact h.tm r v l _ _ h0 h2 s hs'
    · exact hf.tm

/-- place, of whatever path -/
theorem place_any (b : Nat) (p : ByteArray) (ρ : Nat → Nat × Nat) (S : RS) (A : Abs) (w : World) (h : RefRep w b ρ S) (hI : RInv S A) (hm : S.paths.length ≤ 100000000) :
    Calls Tryz.prog 56 #[.pointer (some ⟨b, 0, none⟩), .string p] w fun e w' => ∃ ρ' S' at_, e = .returned (.int .i64 (at_ : Nat)) ∧ RefRep w' b ρ' S' ∧ RInv S' A ∧ Grow w ρ ρ' ∧ Fr (fun k => (ρ k).1 ≠ 0) w w' ∧
      S'.paths[at_]? = some p ∧ S'.n = S.n ∧ S'.paths.length ≤ S.paths.length + 1 ∧ (∀ q ∈ S'.paths, q ∈ S.paths ∨ q = p) := by
  have hat := atOf_le S.paths p
  by_cases hin : S.paths[atOf S.paths p]? = some p
  · refine (place_old b p ρ S w h hin).mono ?_
    rintro e w' ⟨rfl, rfl⟩
    exact ⟨ρ, S, _, rfl, h, hI, Grow.refl _ _, Fr.refl _ _, hin, rfl, by omega, fun q hq => .inl hq⟩
  · have fin : ∀ (e : Ending) (w' : World), (∃ ρ' S', e = .returned (.int .i64 (atOf S.paths p)) ∧ RefRep w' b ρ' S' ∧ Grow w ρ ρ' ∧ Fr (fun k => (ρ k).1 ≠ 0) w w' ∧
        Rowed S S' (atOf S.paths p) (S.paths.take (atOf S.paths p) ++ p :: S.paths.drop (atOf S.paths p)) S.n) → ∃ ρ' S' at_, e = .returned (.int .i64 (at_ : Nat)) ∧ RefRep w' b ρ' S' ∧ RInv S' A ∧ Grow w ρ ρ' ∧ Fr (fun k => (ρ k).1 ≠ 0) w w' ∧
      S'.paths[at_]? = some p ∧ S'.n = S.n ∧ S'.paths.length ≤ S.paths.length + 1 ∧ (∀ q ∈ S'.paths, q ∈ S.paths ∨ q = p) := by
      rintro e w' ⟨ρ', S', rfl, hR', hG, hF, hRow⟩
      refine ⟨ρ', S', _, rfl, hR', hI.placed h p hin hRow (by rw [hR'.rowl, hRow.n]), hG, hF, ?_, hRow.n, ?_, ?_⟩
      · rw [hRow.paths, List.getElem?_append_right (by rw [List.length_take]; omega), List.length_take]
        have : atOf S.paths p - min (atOf S.paths p) S.paths.length = 0 := by omega
        rw [this]; rfl
      · rw [hRow.paths]
        simp only [List.length_append, List.length_cons, List.length_take, List.length_drop]; omega
      · intro q hq
        rw [hRow.paths] at hq
        rcases List.mem_append.1 hq with hq | hq
        · exact .inl (List.mem_of_mem_take hq)
        · rcases List.mem_cons.1 hq with hq | hq
          · exact .inr hq
          · exact .inl (List.mem_of_mem_drop hq)
    rcases Nat.lt_or_ge (atOf S.paths p) S.paths.length with hlt | hge
    · exact (place_mid b p ρ S w h hin hI.len hm hlt).mono fin
    · exact (place_end b p ρ S w h hin hI.len hm (by omega)).mono fin

end Go.Proofs.YtaelaldmibgibaaGreatDoor
