/-
  The contracts of the project's oid: the element of an oid, and back.
-/
import Derived.Test.YtfighoplbmmijaaDoorHdOpen
import Derived.Test.YtfighoplbmmijaaDoorHdWrapB
import Derived.Test.YtfighoplbmmijaaDoorBackB
import Derived.Test.YtfighoplbmmijaaDoorOc
namespace Go.Proofs.YtfighoplbmmijaaDoor
open Go.RowKit Go.Joins
set_option linter.unusedVariables false
set_option linter.unusedSimpArgs false
set_option maxRecDepth 4000

/-- The tag of an oid. -/
def tgO : Tg := ⟨0, 6, false⟩
theorem tgO_right : tgO.right := by unfold Tg.right tgO; simp
theorem hdOf6 (w : World) : Calls Tryd.prog 30 #[.int .i64 6] w fun e w' => e = .returned tgO.v ∧ Below w.heap.size w w' := hdOf 6 w
theorem Bss.new1 {w : World} {A1 : Option Addr} {n1 c1 : Nat} {l1 : List UInt8} (t : TypeId) (h1 : Bs w A1 n1 l1) (k1 : n1 ≤ c1) :
    Bss (w.alloc (.cells #[.slice A1 n1 c1] t)) (some ⟨w.heap.size, 0, none⟩) 1 [l1] := by
  have hb := heap_alloc_new w (.cells #[.slice A1 n1 c1] t)
  refine ⟨rfl, fun i l hl => ?_⟩
  match i, hl with
  | 0, hl => cases hl; exact ⟨_, _, A1, n1, c1, rfl, by rw [blk_cell hb]; rfl, h1.below (below_alloc1 _ _), k1⟩

theorem contO_len {l : List Int} (h : RightO l) : (contO l).length ≤ 165 := by
  have h0 := h.first
  have h1 : (arcO (40 * zth l 0 + zth l 1)).length ≤ 5 := spl_len5 _ _ (by omega)
  have key : ∀ r : List Int, (∀ n ∈ r, 0 ≤ n ∧ n ≤ 2147483647) → (r.flatMap arcO).length ≤ 5 * r.length := by
    intro r
    induction r with
    | nil => simp
    | cons x r ih =>
      intro hr
      have h2 := ih (fun n hn => hr n (by simp [hn]))
      have h3 : (arcO x).length ≤ 5 := spl_len5 _ _ (by have := hr x (by simp); omega)
      rw [List.flatMap_cons, List.length_append, List.length_cons]
      omega
  have h2 := key (l.drop 2) (fun n hn => h.arcs n (List.mem_of_mem_drop hn))
  have h3 := h.max
  unfold contO
  rw [List.length_append]
  simp only [List.length_drop] at h2
  omega

theorem oidWriteNo (A : Option Addr) (n c : Nat) (l : List Int) (w : World) (h : Zs w A n l) (hn : n ≤ 1099511627776) (hr : rightO l = false) :
    Calls Tryd.prog 9 #[.slice A n c] w fun e w' => e = .returned (.tuple #[.slice none 0 0, .int .i64 1]) ∧ Below w.heap.size w w' := by
  go_enter Tryd.func9, Tryd.ntmps9
  go_wp2_with fail
  refine (oidContentsNo A n c l w h hn hr).mono ?_
  rintro e w1 ⟨rfl, hB⟩
  go_wp2
  go_ret2
  exact ⟨rfl, hB⟩

set_option maxHeartbeats 1600000 in
theorem oidWriteW (A : Option Addr) (n c : Nat) (l : List Int) (w : World) (h : Zs w A n l) (hc : n ≤ c) (hn : n ≤ 1099511627776) (hr : RightO l) :
    Calls Tryd.prog 9 #[.slice A n c] w (NewBs2 w (wrapB tgO (contO l))) := by
  have hlen := contO_len hr
  go_enter Tryd.func9, Tryd.ntmps9
  go_wp2_with fail
  refine (oidContents A n c l w h hc hn hr).mono ?_
  rintro e w1 ⟨A1, m1, c1, rfl, ho1, hB1⟩
  go_wp2_with fail
  refine (hdOf6 w1).mono ?_
  rintro e w2 ⟨rfl, hB2⟩
  have q2 : Below w.heap.size w w2 := hB1.trans (Below.mono hB2 hB1.size)
  have o2 := ho1.bs.1.below hB2
  have k2 := ho1.bs.2
  have hb := Bss.new1 24 o2 k2
  have hW := hdWrap tgO _ 1 1 [contO l] _ ((Tg.rightB_iff _).2 tgO_right) hb (by omega) (by simp; omega) (by
    intro k
    rcases k with _ | k
    · simp [rowL]; omega
    · simp [rowL])
  simp only [List.flatten_cons, List.flatten_nil, List.append_nil] at hW
  clear hb o2 ho1 hB1 hB2
  generalize contO l = cl at *
  go_wp2_with fail
  refine hW.mono ?_
  rintro e w3 ⟨A3, m3, c3, rfl, ho3, hB3⟩
  have q3 : Below w.heap.size w w3 := q2.trans (Below.mono ((below_alloc1 _ _).trans (Below.mono hB3 (by simp))) q2.size)
  have ho3' := ho3.mono (base' := w.heap.size) (by have := q2.size; simp; omega)
  go_wp2
  go_ret2
  exact ⟨_, _, _, rfl, ho3', q3⟩

set_option maxHeartbeats 1600000 in
theorem oidReadBack (g : Nat) (b : List UInt8) (l : List Int) (w : World) {s : Value} (h : Cur w g s (wrapB tgO b) 0) (hb : b.length ≤ 16777216) (hp : prsO b = (l, 0)) :
    Calls Tryd.prog 21 #[.pointer (some ⟨g, 0, none⟩)] w fun e w' => ∃ A c, e = .returned (.tuple #[.slice A l.length c, .int .i64 0]) ∧ Zs w' A l.length l ∧ l.length ≤ c ∧ Only g w w' := by
  have hopen : rOpen (wrapB tgO b) 0 tgO = (b, (wrapB tgO b).length, 0) := by
    have := rOpen_wrapB [] [] b tgO tgO_right hb
    simpa using this
  have hg := h.lt
  go_enter Tryd.func21, Tryd.ntmps21
  go_wp2_with fail
  refine (curAt g 0 _ w h).mono ?_
  rintro e w1 ⟨rfl, rfl⟩
  go_wp2_with fail
  refine (hdOf6 w).mono ?_
  rintro e w2 ⟨rfl, hB2⟩
  have h2 := h.below hB2
  have hO := hdOpen g 0 _ tgO w2 h2
  unfold OpenOk at hO
  rw [hopen] at hO
  simp only at hO
  go_wp2_with fail
  refine hO.mono ?_
  rintro e w3 ⟨p, rfl, hc3, hon3, hp3, _⟩
  obtain ⟨g2, s2, rfl, hg2, hcur⟩ := hp3 (by first | trivial | rfl)
  have on3 : Only g w w3 := (Only.of_below hB2).trans hon3
  clear hO hopen hp3 h2
  go_wp2_with fail
  refine (curRest g2 0 b w3 hcur).mono ?_
  rintro e w4 ⟨A4, n4, c4, rfl, ho4, hc4, hon4⟩
  simp only [List.drop_zero] at ho4
  have on4 : Only g w w4 := Only.grown on3 hon4 (by intro k hk; cases hk; have := hB2.size; omega)
  go_wp2_with fail
  refine (oidParse A4 n4 c4 b w4 ho4.bs.1 ho4.bs.2 (by have := ho4.bs.1.len; omega)).mono ?_
  rw [hp]
  rintro e w5 ⟨v5, rfl, ho5, hB5⟩
  obtain ⟨A5, c5, rfl, hk5, hv5⟩ := ho5.slice
  simp only [List.length_map] at hk5 hv5 ⊢
  have on5 : Only g w w5 := on4.trans (Only.of_below hB5)
  clear ho5 hcur hc3 hc4 ho4
  generalize hL : l.length = L at *
  have HL := Lib.hid hL
  clear hL
  go_wp2
  go_ret2
  rw [HL.out]
  exact ⟨A5, c5, rfl, hv5, hk5, on5⟩
end Go.Proofs.YtfighoplbmmijaaDoor
