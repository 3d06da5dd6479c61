/-
  The contracts of the project's text: Utf8, Of, FromUtf8.
-/
import Derived.Test.YtoklonnajpjgjaaDoorTh
namespace Go.Proofs.YtoklonnajpjgjaaDoor
open Go.RowKit Go.Shelf
set_option linter.unusedVariables false
set_option linter.unusedSimpArgs false
set_option maxRecDepth 4000

theorem encR_runes (j k : Int) (l : List UInt8) : encR j (runesR k l) = (runesT k l).flatMap (encT j) := by
  unfold encR
  rw [← runesR_val, List.flatMap_map]
theorem all12 {k : Int} {l : List UInt8} (h : rightT k l = true) : (runesR k l).all (fun x => hasT 12 x.1) = true := by
  unfold rightT at h
  simp only [Bool.and_eq_true] at h
  have h2 := h.2
  rw [all_val, List.all_eq_true] at h2
  rw [List.all_eq_true]
  intro x hx
  rw [hasT12]
  exact hasT_valid h.1 (h2 x hx)
theorem runesLen (k : Int) (l : List UInt8) : (runesR k l).length ≤ l.length := by unfold runesR; rw [List.length_map]; exact runesT_length k l

theorem txRunesC (k : Int) (A : Option Addr) (m c : Nat) (w : World) : Calls Tryd.prog 33 #[.agg #[.int .i64 k, .slice A m c]] w fun e w' => e = .returned (.func (.func 52) #[] #[.pointer (some ⟨w.heap.size, 0, none⟩)]) ∧ w' = w.alloc (.cells #[.int .i64 k, .slice A m c] 25) :=
  (callsIn_wide (n := 5)).1 (txRunes 5 k A m c w)
/-- compose of the characters of a text. -/
theorem txComposeR (j k : Int) (A : Option Addr) (m c : Nat) (l : List UInt8) (w0 : World) (hT : Tb w0) (h : Bs w0 A m l) (hm : m ≤ 1099511) (hmc : m ≤ c) :
    Calls Tryd.prog 34 #[.int .i64 j, .func (.func 52) #[] #[.pointer (some ⟨w0.heap.size, 0, none⟩)]] (w0.alloc (.cells #[.int .i64 k, .slice A m c] 25)) (CmpP j (runesR k l) (w0.alloc (.cells #[.int .i64 k, .slice A m c] 25))) := by
  have hb := below_alloc1 w0 (.cells #[.int .i64 k, .slice A m c] 25)
  have hlen := h.len
  refine (callsIn_wide (n := 5)).1 (txCompose j _ _ _ (runesR k l).length (by have := runesLen k l; omega) (Kp6 w0.heap.size w0.heap.size) _ (enters_of Tryd.func52 (by kernel_rfl) rfl)
    (txRunesStops 4 (by omega) w0.heap.size w0.heap.size k A m c l hm hmc hT.lt _ (Blk.new2 _ _ _ _) ((BsN.of h).keep hb) (hT.below hb) hb.size) Kp6.trans ?_)
  intro W W' hB
  exact ⟨hB.mono (by simp), hB.block _ (by simp)⟩
/-- compose of numbers. -/
theorem txComposeN (j : Int) (A : Option Addr) (m c : Nat) (l : List Int) (w0 : World) (h : Zs w0 A m l) (hm : m ≤ 1099511) :
    Calls Tryd.prog 34 #[.int .i64 j, .func (.func 60) #[] #[.pointer (some ⟨w0.heap.size, 0, none⟩)]] (w0.alloc (.cells #[.slice A m c] 28)) (CmpP j (l.map numT) (w0.alloc (.cells #[.slice A m c] 28))) := by
  have hb := below_alloc1 w0 (.cells #[.slice A m c] 28)
  have hlen := h.len
  refine (callsIn_wide (n := 5)).1 (txCompose j _ _ _ l.length (by omega) (Below w0.heap.size) _ (enters_of Tryd.func60 (by kernel_rfl) rfl)
    (txNumberedStops 4 (by omega) w0.heap.size w0.heap.size A m c l hm _ (Blk.new _ _ _) ((ZsN.of h).keep hb) hb.size) (fun h k => h.trans k) ?_)
  intro W W' hB
  exact hB.mono (by simp)

set_option maxHeartbeats 1600000 in
theorem txUtf8No (k : Int) (A : Option Addr) (m c : Nat) (l : List UInt8) (w : World) (hT : Tb w) (h : Bs w A m l) (hm : m ≤ 1099511) (hmc : m ≤ c) (hr : rightT k l = false) :
    Calls Tryd.prog 12 #[.agg #[.int .i64 k, .slice A m c]] w fun e w' => e = .returned (.tuple #[.string ⟨#[]⟩, .int .i64 6]) ∧ Below w.heap.size w w' := by
  have hb0 := below_alloc1 w (.cells #[.int .i64 k, .slice A m c] 25)
  have hR := txRight k A m c l _ (hT.below hb0) (h.below hb0) hm hmc
  rw [hr] at hR
  obtain ⟨o0, o1, _, _⟩ := (Blk.new2 w (.int .i64 k) (.slice A m c) 25).two
  go_enter Tryd.func12, Tryd.ntmps12
  go_wp2_with fail
  refine hR.mono ?_
  rintro e w1 ⟨rfl, hb⟩
  have hB : Below w.heap.size w w1 := hb0.trans (Below.mono hb (by simp))
  clear o0 o1 hR hb hb0 h hT
  go_wp2
  go_ret2
  exact ⟨rfl, hB⟩

set_option maxHeartbeats 1600000 in
theorem txUtf8Yes (k : Int) (A : Option Addr) (m c : Nat) (l : List UInt8) (w : World) (hT : Tb w) (h : Bs w A m l) (hm : m ≤ 1099511) (hmc : m ≤ c) (hr : rightT k l = true) :
    Calls Tryd.prog 12 #[.agg #[.int .i64 k, .slice A m c]] w fun e w' => e = .returned (.tuple #[.string ⟨((runesT k l).flatMap Lib.encodeRune).toArray⟩, .int .i64 0]) ∧ Below w.heap.size w w' := by
  have hb0 := below_alloc1 w (.cells #[.int .i64 k, .slice A m c] 25)
  have hR := txRight k A m c l _ (hT.below hb0) (h.below hb0) hm hmc
  rw [hr] at hR
  have hO := Blk.new2 w (.int .i64 k) (.slice A m c) 25
  obtain ⟨o0, o1, _, _⟩ := hO.two
  have hC := Lib.hid (fun (W : World) (hT : Tb W) (h : Bs W A m l) => txComposeR 12 k A m c l W hT h hm hmc)
  have hall := Lib.hid (all12 hr)
  have hen := show encR 12 (runesR k l) = (runesT k l).flatMap Lib.encodeRune by rw [encR_runes, encT12]
  generalize (runesT k l).flatMap Lib.encodeRune = bs at hen ⊢
  have hen := Lib.hid hen
  go_enter Tryd.func12, Tryd.ntmps12
  go_wp2_with fail
  refine hR.mono ?_
  rintro e w1 ⟨rfl, hb⟩
  have hB : Below w.heap.size w w1 := hb0.trans (Below.mono hb (by simp))
  have hO1 := hO.below hb
  have hT1 := hT.below hB
  have h1 := h.below hB
  clear o0 o1 hR hb hb0 h hT hO
  obtain ⟨o0, o1, _, _⟩ := hO1.two
  go_wp2_with fail
  refine (txRunesC k A m c w1).mono ?_
  rintro e w2 ⟨rfl, rfl⟩
  have hb2 := below_alloc1 w1 (.cells #[.int .i64 k, .slice A m c] 25)
  have hC2 := hC.out w1 hT1 h1
  clear o0 o1
  go_wp2_with fail
  refine hC2.mono ?_
  rintro e w3 ⟨hok, _, hb3⟩
  obtain ⟨A', n', c', rfl, hob⟩ := hok hall.out
  have hB3 : Below w.heap.size w w3 := (hB.trans (Below.mono hb2 hB.size)).trans (Below.mono hb3 (by have := hB.size; simp; omega))
  have hob3 := hob.bs.1
  rw [hen.out] at hob3
  have hcv : ∀ W, Bs W A' n' bs → (convert 22 9 (.slice A' n' c')).run Tryd.prog W = .ok (.string ⟨bs.toArray⟩) W := fun W hW => hW.convert c' _ _ 5 Tryd.underlying22 Tryd.underlying5 Tryd.underlying9
  have hn := Blk.new2 w3 (.int .i64 12) (.slice A' n' c') 25
  obtain ⟨o0, o1, _, _⟩ := hn.two
  have hcv3 := hcv _ (hob3.below (below_alloc1 w3 (.cells #[.int .i64 12, .slice A' n' c'] 25)))
  have hB4 := hB3.trans (Below.mono (below_alloc1 w3 (.cells #[.int .i64 12, .slice A' n' c'] 25)) hB3.size)
  clear hcv hob3 hob hC2 hC hok hT1 h1 hO1 hn
  go_wp2
  go_ret2
  exact ⟨rfl, hB4⟩

/-- []byte(s). -/
theorem strBytes (s : ByteArray) (w : World) : ∃ c W', (convert 9 22 (.string s)).run Tryd.prog w = .ok (.slice (some ⟨w.heap.size, 0, none⟩) s.size c) W' ∧ s.size ≤ c ∧ Bs W' (some ⟨w.heap.size, 0, none⟩) s.size s.data.toList ∧ Below w.heap.size w W' ∧ W'.heap.size = w.heap.size + 1 := by
  refine ⟨_, _, run_bytes_of_string w _ _ 5 s Tryd.underlying9 Tryd.underlying22 Tryd.underlying5, grownCap_ge _ _ _ _, ⟨by simp, fun i x hx => ⟨_, _, rfl, ?_⟩⟩, ?_, by simp⟩
  · have hi : i < s.data.size := by have := (List.getElem?_eq_some_iff.1 hx).1; simpa using this
    have hsz : w.drew.heap.size = w.heap.size := rfl
    rw [Nat.zero_add, ← hsz, World.cell?_alloc_mark, bytesRow_at s _ i hi]
    have e : s.data[i] = x := by
      have := (List.getElem?_eq_some_iff.1 hx).2
      simpa using this
    rw [e]
  · have := below_alloc1 w.drew (.cells (bytesRow s (grownCap w s.size 0 5)) 5 ((bytesRow s (grownCap w s.size 0 5)).size, (bytesRow s (grownCap w s.size 0 5)).size + 1))
    exact ⟨this.os, this.tape, this.output, this.size, this.block⟩

/-- What Of answers. -/
def OfP (k : Int) (xs : List R32) (w : World) (e : Ending) (w' : World) : Prop :=
  (isK k = true → xs.all (fun x => hasT k x.1) = true → ∃ A n c, e = .returned (.tuple #[.agg #[.int .i64 k, .slice A n c], .int .i64 0]) ∧ Ob w' w.heap.size 5 (.slice A n c) (encR k xs)) ∧
  (isK k = true → xs.all (fun x => hasT k x.1) = false → e = .returned (.tuple #[.agg #[.int .i64 0, .slice none 0 0], .int .i64 6])) ∧
  (isK k = false → e = .returned (.tuple #[.agg #[.int .i64 0, .slice none 0 0], .int .i64 1])) ∧ Below w.heap.size w w'


theorem tf {b : Bool} {p : Prop} (h : b = false) (k : b = true) : p := by rw [h] at k; cases k
theorem OfP.of {k : Int} {xs : List R32} {w w2 w' : World} {e : Ending} (h : CmpP k xs w2 e w') (hk : isK k = true) (hb : Below w.heap.size w w2) : (xs.all (fun x => hasT k x.1) = true → ∃ A n c, e = .returned (.tuple #[.agg #[.int .i64 k, .slice A n c], .int .i64 0]) ∧ Ob w' w.heap.size 5 (.slice A n c) (encR k xs)) ∧
    (xs.all (fun x => hasT k x.1) = false → e = .returned (.tuple #[.agg #[.int .i64 0, .slice none 0 0], .int .i64 6])) ∧ Below w.heap.size w w' := by
  refine ⟨fun ha => ?_, h.2.1, hb.trans (Below.mono h.2.2 hb.size)⟩
  obtain ⟨A, n, c, e1, e2⟩ := h.1 ha
  exact ⟨A, n, c, e1, e2.mono hb.size⟩

theorem txNumberedC (A : Option Addr) (m c : Nat) (w : World) : Calls Tryd.prog 43 #[.slice A m c] w fun e w' => e = .returned (.func (.func 60) #[] #[.pointer (some ⟨w.heap.size, 0, none⟩)]) ∧ w' = w.alloc (.cells #[.slice A m c] 28) :=
  (callsIn_wide (n := 5)).1 (txNumbered 5 A m c w)

set_option maxHeartbeats 1600000 in
theorem txOf (k : Int) (A : Option Addr) (m c : Nat) (l : List Int) (w : World) (h : Zs w A m l) (hm : m ≤ 1099511) :
    Calls Tryd.prog 20 #[.int .i64 k, .slice A m c] w (OfP k (l.map numT) w) := by
  have hK := txIsKind k (w.alloc (.cells #[.int .i64 0, .slice none 0 0] 25))
  have hn := Blk.new2 w (.int .i64 0) (.slice none 0 0) 25
  have hb0 := below_alloc1 w (.cells #[.int .i64 0, .slice none 0 0] 25)
  have hC := Lib.hid (fun (W : World) (h : Zs W A m l) => txComposeN k A m c l W h hm)
  generalize l.map numT = xs at *
  cases hk : isK k
  · rw [hk] at hK
    go_enter Tryd.func20, Tryd.ntmps20
    go_wp2_with fail
    refine hK.mono ?_
    rintro e w1 ⟨rfl, hb1⟩
    have hn1 := hn.below hb1
    obtain ⟨o0, o1, o2, o3⟩ := hn1.two
    have hB1 : Below w.heap.size w w1 := hb0.trans (Below.mono hb1 (by simp))
    have hB2 := (hB1.setCell (p := ⟨w.heap.size, 0, none⟩) (Nat.le_refl _) (.int .i64 0)).setCell (p := ⟨w.heap.size, 1, none⟩) (Nat.le_refl _) (.slice none 0 0)
    obtain ⟨p0, p1, _, _⟩ := (hn1.put (.int .i64 0) (.slice none 0 0)).two
    clear hK hn hb1 hC
    go_wp2
    refine bodyPost_ret (v := .tuple #[.agg #[.int .i64 0, .slice none 0 0], .int .i64 1]) (by simp [results, Tryd.f20, go_sem, p0, p1]) rfl ?_
    exact ⟨fun h => tf hk h, fun h => tf hk h, fun _ => rfl, hB2⟩
  · rw [hk] at hK
    go_enter Tryd.func20, Tryd.ntmps20
    go_wp2_with fail
    refine hK.mono ?_
    rintro e w1 ⟨rfl, hb1⟩
    have hn1 := hn.below hb1
    have hB1 : Below w.heap.size w w1 := hb0.trans (Below.mono hb1 (by simp))
    have h1 := h.below hB1
    have hw1 : w.heap.size < w1.heap.size := hn1.lt
    have hHw := Lib.hid hw1
    clear hK hn hb1 hw1
    go_wp2_with fail
    refine (txNumberedC A m c w1).mono ?_
    rintro e w2 ⟨rfl, rfl⟩
    have hC2 := hC.out w1 h1
    have hb2 := below_alloc1 w1 (.cells #[.slice A m c] 28)
    have hn2 := hn1.below hb2
    have hB2 := hB1.trans (Below.mono hb2 hB1.size)
    generalize hw2 : w1.alloc (.cells #[.slice A m c] 28) = w2 at *
    clear hw2 hC
    go_wp2_with fail
    refine hC2.mono ?_
    rintro e w3 hP
    have hP1 := OfP.of hP hk hB2
    have hn3 := hn2.below hP.2.2
    clear hC2 hP
    obtain ⟨hy, hno, hB3⟩ := hP1
    obtain ⟨o0, o1, o2, o3⟩ := hn3.two
    cases ha : xs.all (fun x => hasT k x.1)
    · obtain rfl := hno ha
      obtain ⟨p0, p1, _, _⟩ := (hn3.put (.int .i64 0) (.slice none 0 0)).two
      have hB4 := (hB3.setCell (p := ⟨w.heap.size, 0, none⟩) (Nat.le_refl _) (.int .i64 0)).setCell (p := ⟨w.heap.size, 1, none⟩) (Nat.le_refl _) (.slice none 0 0)
      clear hy hno
      go_wp2
      refine bodyPost_ret (v := .tuple #[.agg #[.int .i64 0, .slice none 0 0], .int .i64 6]) (by simp [results, Tryd.f20, go_sem, p0, p1]) rfl ?_
      exact ⟨fun _ h => tf ha h, fun _ _ => rfl, fun h => tf h hk, hB4⟩
    · obtain ⟨A', n', c', rfl, hob⟩ := hy ha
      obtain ⟨p0, p1, _, _⟩ := (hn3.put (.int .i64 k) (.slice A' n' c')).two
      have hB4 := (hB3.setCell (p := ⟨w.heap.size, 0, none⟩) (Nat.le_refl _) (.int .i64 k)).setCell (p := ⟨w.heap.size, 1, none⟩) (Nat.le_refl _) (.slice A' n' c')
      have hob4 := hob.put hn3 (by decide) (.int .i64 k) (.slice A' n' c')
      clear hy hno hob
      go_wp2
      refine bodyPost_ret (v := .tuple #[.agg #[.int .i64 k, .slice A' n' c'], .int .i64 0]) (by simp [results, Tryd.f20, go_sem, p0, p1]) rfl ?_
      exact ⟨fun _ _ => ⟨_, _, _, rfl, hob4⟩, fun _ h => tf h ha, fun h => tf h hk, hB4⟩
set_option maxHeartbeats 1600000 in
theorem txFromUtf8 (k : Int) (s : ByteArray) (w : World) (hT : Tb w) (hm : s.size ≤ 1099511) :
    Calls Tryd.prog 22 #[.int .i64 k, .string s] w (OfP k (runesR 12 s.data.toList) w) := by
  have hK := txIsKind k (w.alloc (.cells #[.int .i64 0, .slice none 0 0] 25))
  have hn := Blk.new2 w (.int .i64 0) (.slice none 0 0) 25
  have hb0 := below_alloc1 w (.cells #[.int .i64 0, .slice none 0 0] 25)
  have hC := Lib.hid (fun (W : World) (A : Option Addr) (m c : Nat) (hT : Tb W) (h : Bs W A m s.data.toList) (hm : m ≤ 1099511) (hmc : m ≤ c) => txComposeR k 12 A m c s.data.toList W hT h hm hmc)
  generalize runesR 12 s.data.toList = xs at *
  cases hk : isK k
  · rw [hk] at hK
    go_enter Tryd.func22, Tryd.ntmps22
    go_wp2_with fail
    refine hK.mono ?_
    rintro e w1 ⟨rfl, hb1⟩
    have hn1 := hn.below hb1
    obtain ⟨o0, o1, o2, o3⟩ := hn1.two
    have hB1 : Below w.heap.size w w1 := hb0.trans (Below.mono hb1 (by simp))
    have hB2 := (hB1.setCell (p := ⟨w.heap.size, 0, none⟩) (Nat.le_refl _) (.int .i64 0)).setCell (p := ⟨w.heap.size, 1, none⟩) (Nat.le_refl _) (.slice none 0 0)
    obtain ⟨p0, p1, _, _⟩ := (hn1.put (.int .i64 0) (.slice none 0 0)).two
    clear hK hn hb1 hC
    go_wp2
    refine bodyPost_ret (v := .tuple #[.agg #[.int .i64 0, .slice none 0 0], .int .i64 1]) (by simp [results, Tryd.f22, go_sem, p0, p1]) rfl ?_
    exact ⟨fun h => tf hk h, fun h => tf hk h, fun _ => rfl, hB2⟩
  · rw [hk] at hK
    go_enter Tryd.func22, Tryd.ntmps22
    go_wp2_with fail
    refine hK.mono ?_
    rintro e w1 ⟨rfl, hb1⟩
    have hn1 := hn.below hb1
    have hB1 : Below w.heap.size w w1 := hb0.trans (Below.mono hb1 (by simp))
    have hT1 := hT.below hB1
    obtain ⟨c, W', hcv, hc, hbs, hbW, hszW⟩ := strBytes s w1
    have hTW := hT1.below hbW
    have hn1' := hn1.below hbW
    have hBW := hB1.trans (Below.mono hbW hB1.size)
    have hR := txRunesC 12 (some ⟨w1.heap.size, 0, none⟩) s.size c W'
    have hC2 := hC.out W' _ _ c hTW hbs hm hc
    clear hK hn hb1 hszW
    go_wp2_with fail
    refine hR.mono ?_
    rintro e w2 ⟨rfl, rfl⟩
    have hb2 := below_alloc1 W' (.cells #[.int .i64 12, .slice (some ⟨w1.heap.size, 0, none⟩) s.size c] 25)
    have hn2 := hn1'.below hb2
    have hB2 := hBW.trans (Below.mono hb2 hBW.size)
    generalize hw2 : W'.alloc (.cells #[.int .i64 12, .slice (some ⟨w1.heap.size, 0, none⟩) s.size c] 25) = w2 at *
    clear hw2 hC hR
    go_wp2_with fail
    refine hC2.mono ?_
    rintro e w3 hP
    have hP1 := OfP.of hP hk hB2
    have hn3 := hn2.below hP.2.2
    clear hC2 hP
    obtain ⟨hy, hno, hB3⟩ := hP1
    obtain ⟨o0, o1, o2, o3⟩ := hn3.two
    cases ha : xs.all (fun x => hasT k x.1)
    · obtain rfl := hno ha
      obtain ⟨p0, p1, _, _⟩ := (hn3.put (.int .i64 0) (.slice none 0 0)).two
      have hB4 := (hB3.setCell (p := ⟨w.heap.size, 0, none⟩) (Nat.le_refl _) (.int .i64 0)).setCell (p := ⟨w.heap.size, 1, none⟩) (Nat.le_refl _) (.slice none 0 0)
      clear hy hno
      go_wp2
      refine bodyPost_ret (v := .tuple #[.agg #[.int .i64 0, .slice none 0 0], .int .i64 6]) (by simp [results, Tryd.f22, go_sem, p0, p1]) rfl ?_
      exact ⟨fun _ h => tf ha h, fun _ _ => rfl, fun h => tf h hk, hB4⟩
    · obtain ⟨A', n', c', rfl, hob⟩ := hy ha
      obtain ⟨p0, p1, _, _⟩ := (hn3.put (.int .i64 k) (.slice A' n' c')).two
      have hB4 := (hB3.setCell (p := ⟨w.heap.size, 0, none⟩) (Nat.le_refl _) (.int .i64 k)).setCell (p := ⟨w.heap.size, 1, none⟩) (Nat.le_refl _) (.slice A' n' c')
      have hob4 := hob.put hn3 (by decide) (.int .i64 k) (.slice A' n' c')
      clear hy hno hob
      go_wp2
      refine bodyPost_ret (v := .tuple #[.agg #[.int .i64 k, .slice A' n' c'], .int .i64 0]) (by simp [results, Tryd.f22, go_sem, p0, p1]) rfl ?_
      exact ⟨fun _ _ => ⟨_, _, _, rfl, hob4⟩, fun _ h => tf h ha, fun h => tf h hk, hB4⟩
end Go.Proofs.YtoklonnajpjgjaaDoor
