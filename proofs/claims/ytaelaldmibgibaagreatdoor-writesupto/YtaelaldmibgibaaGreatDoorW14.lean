/- The program's recordOf, of a path that is not kept. The program's map of records as a list of records by rising paths. -/
import Derived.Test.YtaelaldmibgibaaGreatDoorW13
import Derived.Maps.Range

namespace Go.Proofs.YtaelaldmibgibaaGreatDoor
open Go.RowKit Go.Maps

theorem upT_self (t : Nat → Int) (s : Nat) : upT t s (t s) = t := by
  funext j
  unfold upT
  split
  · rename_i e; rw [e]
  · rfl

set_option maxRecDepth 100000 in
set_option maxHeartbeats 600000 in
theorem recordOf_new (rb s : Nat) (cm : Nat → Int) (mb : Nat) (w : World) (h : RepAt w rb s cm mb) (n : Nat) (D : DataW Unit) (hown : w.ownsMap Tryz.prog 9 recElem mb n D) (p : ByteArray) (hp : p.size ≤ maxLen)
    (hk : Maps.has D (.string p.data.toList) = false) (hat : D.atKey (.string p.data.toList) (recDat rec0) = recDat rec0) :
    Calls Tryz.prog 104 #[.pointer (some ⟨rb, 0, none⟩), .string p] w fun e w' => e = .returned (recVal ⟨⟨#[]⟩, 0, 0, fun _ => 0, cm⟩) ∧ Below w.heap.size w w' := by
  have hkey := Go.WideMaps.keyOf_string_mk Tryz.underlying9 hp
  have c0 := h.c0
  have c7 := h.c7
  have r1 := h.ct 0 (by omega)
  have r2 := h.ct 1 (by omega)
  have r3 := h.ct 2 (by omega)
  have r4 := h.ct 3 (by omega)
  have r5 := h.ct 4 (by omega)
  have r6 := h.ct 5 (by omega)
  simp only [Nat.reduceAdd] at r1 r2 r3 r4 r5 r6
  have hs := h.hs
  have hlt := h.lt
  have LE := hide (look_end h ⟨⟨#[]⟩, 0, 0, fun _ => 0, cm⟩)
  clear h
  go_enter Tryz.func104, Tryz.ntmps104
  go_wp2_with (first
    | (at_lookup; refine wpList_lookup_rec _ rfl _ _ _ rfl Tryz.underlying184 mb n D rfl (by first | exact hown | exact hown.alloc _) _ _ rfl hkey false hk rec0 hat ?_; simp only [recVal, rec0]))
  obtain ⟨W, hW⟩ : ∃ W, W = (w.alloc (.cells #[.string ⟨#[]⟩, .int .i64 0, .int .i64 0, .int .i64 0, .int .i64 0, .int .i64 0, .int .i64 0, .int .i64 0, .int .i64 0, .int .i64 0, .int .i64 0, .int .i64 0, .int .i64 0, .int .i64 0, .int .i64 0] 197)).alloc (.cells #[.string ⟨#[]⟩, .int .i64 0, .int .i64 0, .int .i64 0, .int .i64 0, .int .i64 0, .int .i64 0, .int .i64 0, .int .i64 0, .int .i64 (cm 0), .int .i64 (cm 1), .int .i64 (cm 2), .int .i64 (cm 3), .int .i64 (cm 4), .int .i64 (cm 5)] 197) := ⟨_, rfl⟩
  rw [← hW]
  have LW : Hid (RecAt W (w.heap.size + 1) ⟨⟨#[]⟩, 0, 0, fun _ => 0, cm⟩ ∧ RepAt W rb s cm mb ∧ Below w.heap.size w W) := by rw [hW]; exact LE
  have HW := hide hW
  clear hW LE hown hkey hk hat c0 c7 r1 r2 r3 r4 r5 r6
  have c0 := LW.out.2.1.c0
  have kq : W.cell? ⟨w.heap.size + 1, 9 + s, none⟩ = some (.int .i64 (cm s)) := LW.out.1.kn s hs
  have kf := LW.out.1.fz (9 + s)
  have hs1 : (0 : Int) ≤ (s : Int) := by omega
  have hs2 : (s : Int) < 6 := by omega
  have CN := hide (fun (V : World) (e0 : V.heap[rb]? = W.heap[rb]?) => count_any rb s cm mb V (LW.out.2.1.keep e0))
  go_region_law (first
    | (go_simp; go_at_call 168; refine (CN.out _ (by exact rfl)).mono ?_; rintro e w1 ⟨rfl, nq, rfl⟩; dsimp only))
  all_goals
    have e := HW.out
    subst e
    have RE := rec_end w ⟨⟨#[]⟩, 0, 0, fun _ => 0, cm⟩ s hs (cm s) (1 + nq)
    simp only at RE
    rw [RE]
    clear RE HW LW c0 kq kf CN
    generalize hkn : upT cm s (cm s) = kn
    have HK : Hid (kn = cm) := hkn.symm.trans (upT_self cm s)
    clear hkn
    obtain ⟨V, hV, hz⟩ : ∃ V, V = w.drewN (1 + nq) ∧ w.heap.size = V.heap.size := ⟨_, rfl, rfl⟩
    rw [← hV, hz]
    have bV : Below w.heap.size w V := by rw [hV]; exact ⟨rfl, rfl, rfl, Nat.le_refl _, fun _ _ => rfl⟩
    have HB := hide bV
    clear hV hz bV
    go_wp2
    refine bodyPost_ret (v := .agg #[.string ⟨#[]⟩, .int .i64 0, .int .i64 0, .int .i64 0, .int .i64 0, .int .i64 0, .int .i64 0, .int .i64 0, .int .i64 0, .int .i64 (kn 0), .int .i64 (kn 1), .int .i64 (kn 2), .int .i64 (kn 3), .int .i64 (kn 4), .int .i64 (kn 5)]) (by simp [results, Tryz.results104, go_sem]) rfl ?_
    refine ⟨?_, (HB.out.alloc HB.out.size _).alloc (Nat.le_trans HB.out.size (by simp)) _⟩
    rw [HK.out]
    rfl

end Go.Proofs.YtaelaldmibgibaaGreatDoor

namespace Go.Proofs.YtaelaldmibgibaaGreatDoor
open Go.RowKit Go.Maps

theorem before_less (x y : List UInt8) : bytesBefore x y = Op.bytesLess x y := by
  induction x generalizing y with
  | nil => cases y <;> rfl
  | cons a x ih =>
    cases y with
    | nil => rfl
    | cons b y => simp only [bytesBefore, Op.bytesLess, ih]

abbrev Recs := List (ByteArray × Rec)
def key (p : ByteArray) : Lit := .string p.data.toList
def ent (x : ByteArray × Rec) : Lit × DataW Unit := (key x.1, recDat x.2)
def datOf (E : Recs) : DataW Unit := .map (E.map ent)
def putE (p : ByteArray) (R : Rec) (E : Recs) : Recs := E.filter (fun x => slt x.1 p) ++ (p, R) :: E.filter (fun x => slt p x.1)
def delE (p : ByteArray) (E : Recs) : Recs := E.filter (fun x => slt x.1 p) ++ E.filter (fun x => slt p x.1)
def getE (p : ByteArray) (E : Recs) : Option Rec := (E.find? (fun x => seq x.1 p)).map (·.2)
def RisingE (E : Recs) : Prop := E.Pairwise (fun x y => slt x.1 y.1 = true)
def filesE (E : Recs) : Files := E.map (fun x => (x.1, x.2.text))

theorem before_key (p q : ByteArray) : (key p).before (key q) = slt p q := by
  unfold key slt
  simp only [Lit.before, before_less, ByteArray.toList_eq]
theorem same_key (p q : ByteArray) : (key p).sameKey (key q) = seq p q := by
  unfold key seq
  simp only [Lit.sameKey, ByteArray.toList_eq]
theorem key_inj {p q : ByteArray} (h : key p = key q) : p = q := by
  apply (seq_iff p q).1
  rw [← same_key, h, same_key]
  exact (seq_iff q q).2 rfl
theorem seq_false {p q : ByteArray} (h : p ≠ q) : seq p q = false := by
  cases e : seq p q with
  | false => rfl
  | true => exact absurd ((seq_iff p q).1 e) h

/-- the entries at another key than a path's -/
theorem others (p : ByteArray) (E : Recs) (h : RisingE E) : E.filter (fun x => !seq x.1 p) = delE p E := by
  unfold delE
  induction E with
  | nil => rfl
  | cons x E ih =>
    obtain ⟨h1, h2⟩ := List.pairwise_cons.1 h
    have ih := ih h2
    by_cases hlt : slt x.1 p = true
    · have e1 : seq x.1 p = false := seq_false (slt_ne hlt)
      have e2 := slt_asymm hlt
      simp [hlt, e1, e2, ih]
    · by_cases hgt : slt p x.1 = true
      · have e1 : seq x.1 p = false := seq_false (fun e => slt_ne hgt e.symm)
        have e0 : slt x.1 p = false := by simpa using hlt
        have el : E.filter (fun x => slt x.1 p) = [] := filter_none _ _ (fun y hy => slt_asymm (slt_trans hgt (h1 y hy)))
        simp [e0, hgt, e1, ih, el]
      · have e0 : slt x.1 p = false := by simpa using hlt
        have e2 : slt p x.1 = false := by simpa using hgt
        have e1 : seq x.1 p = true := (seq_iff _ _).2 (slt_tri e0 e2)
        simp [e0, e2, e1, ih]

theorem insert_app (k : Lit) (d : DataW Unit) (X Y : List (Lit × DataW Unit)) (hX : ∀ x ∈ X, k.before x.1 = false) (hY : ∀ y ∈ Y, k.before y.1 = true) : DataW.insert (k, d) (X ++ Y) = X ++ (k, d) :: Y := by
  induction X with
  | nil =>
    cases Y with
    | nil => rfl
    | cons y Y => simp only [List.nil_append, DataW.insert]; rw [if_pos (hY y (by simp))]
  | cons x X ih =>
    simp only [List.cons_append, DataW.insert]
    rw [if_neg (by rw [hX x (by simp)]; simp), ih (fun y hy => hX y (by simp [hy]))]

theorem filter_ent (p : ByteArray) (E : Recs) : (E.map ent).filter (fun q => !q.1.sameKey (key p)) = (E.filter (fun x => !seq x.1 p)).map ent := by
  rw [List.filter_map]
  congr 1
  apply List.filter_congr
  intro x _
  simp only [Function.comp, ent, same_key]

theorem datOf_del (p : ByteArray) (E : Recs) (h : RisingE E) : (datOf E).del (key p) = datOf (delE p E) := by
  unfold datOf
  simp only [DataW.del]
  rw [filter_ent, others p E h]
theorem datOf_put (p : ByteArray) (R : Rec) (E : Recs) (h : RisingE E) : (datOf E).put (key p) (recDat R) = datOf (putE p R E) := by
  unfold datOf
  simp only [DataW.put]
  rw [filter_ent, others p E h]
  unfold delE putE
  rw [List.map_append, insert_app _ _ _ _ ?_ ?_, List.map_append, List.map_cons]
  · rfl
  · intro x hx
    obtain ⟨y, hy, rfl⟩ := List.mem_map.1 hx
    have := (List.mem_filter.1 hy).2
    simp only [ent, before_key]
    exact slt_asymm this
  · intro x hx
    obtain ⟨y, hy, rfl⟩ := List.mem_map.1 hx
    have := (List.mem_filter.1 hy).2
    simp only [ent, before_key]
    exact this
theorem has_datOf (p : ByteArray) (E : Recs) : Maps.has (datOf E) (key p) = (getE p E).isSome := by
  unfold datOf getE
  simp only [Maps.has]
  induction E with
  | nil => rfl
  | cons x E ih =>
    simp only [List.map_cons, List.any_cons, ent, same_key, List.find?_cons]
    cases e : seq x.1 p with
    | true => simp
    | false => simpa [ent, same_key] using ih
theorem atKey_datOf (p : ByteArray) (E : Recs) (z : DataW Unit) : (datOf E).atKey (key p) z = match getE p E with | some R => recDat R | none => z := by
  unfold datOf getE
  simp only [DataW.atKey]
  induction E with
  | nil => rfl
  | cons x E ih =>
    simp only [List.map_cons, List.find?_cons, ent, same_key]
    cases e : seq x.1 p with
    | true => rfl
    | false => simpa [ent, same_key] using ih
theorem size_datOf (E : Recs) : Maps.size (datOf E) = E.length := by
  unfold datOf
  simp [Maps.size]

theorem rising_put (p : ByteArray) (R : Rec) (E : Recs) (h : RisingE E) : RisingE (putE p R E) := by
  unfold RisingE putE
  rw [List.pairwise_append]
  refine ⟨h.sublist List.filter_sublist, ?_, ?_⟩
  · rw [List.pairwise_cons]
    exact ⟨fun y hy => (List.mem_filter.1 hy).2, h.sublist List.filter_sublist⟩
  · intro x hx y hy
    have h1 := (List.mem_filter.1 hx).2
    rcases List.mem_cons.1 hy with rfl | hy
    · exact h1
    · exact slt_trans h1 (List.mem_filter.1 hy).2
theorem rising_del (p : ByteArray) (E : Recs) (h : RisingE E) : RisingE (delE p E) := by
  rw [← others p E h]; exact h.sublist List.filter_sublist
theorem mem_putE {p : ByteArray} {R : Rec} {E : Recs} {x : ByteArray × Rec} (h : x ∈ putE p R E) : x = (p, R) ∨ x ∈ E := by
  unfold putE at h
  rcases List.mem_append.1 h with h | h
  · exact .inr (List.mem_filter.1 h).1
  · rcases List.mem_cons.1 h with h | h
    · exact .inl h
    · exact .inr (List.mem_filter.1 h).1
theorem mem_delE {p : ByteArray} {E : Recs} {x : ByteArray × Rec} (h : x ∈ delE p E) : x ∈ E := by
  unfold delE at h
  rcases List.mem_append.1 h with h | h <;> exact (List.mem_filter.1 h).1
theorem mem_getE {p : ByteArray} {E : Recs} {R : Rec} (h : getE p E = some R) : (p, R) ∈ E := by
  unfold getE at h
  rw [Option.map_eq_some_iff] at h
  obtain ⟨x, hx, rfl⟩ := h
  have h1 := List.mem_of_find?_eq_some hx
  have h2 := List.find?_some hx
  have := (seq_iff _ _).1 h2
  rw [← this]
  exact h1

theorem files_put (p t : ByteArray) (R : Rec) (E : Recs) (h : R.text = t) : filesE (putE p R E) = put p t (filesE E) := by
  unfold filesE putE put
  rw [List.map_append, List.map_cons, List.filter_map, List.filter_map, h]
  rfl
theorem files_del (p : ByteArray) (E : Recs) : filesE (delE p E) = del p (filesE E) := by
  unfold filesE delE del
  rw [List.map_append, List.filter_map, List.filter_map]
  rfl
theorem files_get (p : ByteArray) (E : Recs) : get p (filesE E) = (getE p E).map (·.text) := by
  unfold filesE getE get
  rw [List.find?_map, Option.map_map, Option.map_map]
  rfl
theorem files_length (E : Recs) : (filesE E).length = E.length := by simp [filesE]
theorem files_rising (E : Recs) (h : RisingE E) : Rising (filesE E) := by
  unfold Rising filesE
  rw [List.pairwise_map]
  exact h

/-- as many as there are -/
theorem ownsMap_tight {w : World} {b n : Nat} {E : Recs} (h : w.ownsMap Tryz.prog 9 recElem b n (datOf E)) : w.ownsMap Tryz.prog 9 recElem b E.length (datOf E) := by
  obtain ⟨es, clock, hb, F, _, hD⟩ := h
  refine ⟨es, clock, hb, F, ?_, hD⟩
  have e := congrArg Maps.size hD
  rw [size_datOf] at e
  simp only [Maps.size, length_sorted, List.length_map] at e
  rw [e]
  simp

end Go.Proofs.YtaelaldmibgibaaGreatDoor
