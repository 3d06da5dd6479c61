/-
  HeadWrites: for any tag and any int quittancelaw02.HeadWrites returns true and changes nothing that was there.
-/
import Derived.Test.YtolcfoaffjnibaaLawOpens
import Derived.Deep.RegionHeld3
namespace Go.Proofs.Ytolcfoaffjnibaa
open Go.RowKit
set_option linter.unusedVariables false
set_option linter.unusedSimpArgs false
set_option maxRecDepth 4000

theorem hdBytesAny (t : Tg) (w : World) : Calls Try.prog 10 #[t.v] w fun e w' => ∃ A n c E, e = .returned (.tuple #[.slice A n c, .int .i64 E]) ∧ Below w.heap.size w w' ∧
    (t.rightB = true → E = 0 ∧ Bs w' A n (tagB t)) ∧ (t.rightB = false → E = 1 ∧ A = none ∧ n = 0 ∧ c = 0) := by
  cases hr : t.rightB
  · refine (hdBytesNo t w hr).mono ?_
    rintro e w' ⟨rfl, b⟩
    exact ⟨none, 0, 0, 1, rfl, b, (fun h => by cases h), fun _ => ⟨rfl, rfl, rfl, rfl⟩⟩
  · refine (hdBytes t w ((Tg.rightB_iff t).1 hr)).mono ?_
    rintro e w' ⟨A, n, c, rfl, hob, b⟩
    exact ⟨A, n, c, 0, rfl, b, fun _ => ⟨rfl, hob.bs.1⟩, (fun h => by cases h)⟩
theorem hdLengthAny (m : Int) (w : World) : Calls Try.prog 12 #[.int .i64 m] w fun e w' => ∃ A n c E, e = .returned (.tuple #[.slice A n c, .int .i64 E]) ∧ Below w.heap.size w w' ∧
    (0 ≤ m ∧ m ≤ 16777216 → E = 0 ∧ Bs w' A n (lenB m)) ∧ (m < 0 → E = 1 ∧ A = none ∧ n = 0 ∧ c = 0) ∧ (16777216 < m → E = 2 ∧ A = none ∧ n = 0 ∧ c = 0) := by
  by_cases hm : 0 ≤ m ∧ m ≤ 16777216
  · refine (hdLength m w hm.1 hm.2).mono ?_
    rintro e w' ⟨A, n, c, rfl, hob, b⟩
    exact ⟨A, n, c, 0, rfl, b, fun _ => ⟨rfl, hob.bs.1⟩, (fun h => by omega), (fun h => by omega)⟩
  · refine (hdLengthNo m w (by omega)).mono ?_
    rintro e w' ⟨rfl, rfl⟩
    exact ⟨none, 0, 0, _, rfl, Below.refl _ _, fun h => absurd h hm, fun h => ⟨if_pos h, rfl, rfl, rfl⟩, fun h => ⟨if_neg (by omega), rfl, rfl, rfl⟩⟩

set_option maxHeartbeats 12800000 in
theorem lawWrites (t : Tg) (m : Int) (w : World) :
    Calls Try.prog 3 #[t.v, .int .i64 m] w fun e w' => e = .returned (.bool true) ∧ Below w.heap.size w w' := by
  have hRt := Lib.hid (fun W => refRight t W)
  have hTo := Lib.hid (fun W => lawTo t W)
  have hBy := Lib.hid (fun W => hdBytesAny t W)
  have hRi := Lib.hid (fun W => hdRight t W)
  have hrB := Lib.hid (fun W (hr : t.right) => refBytes t W hr)
  have hrr := Lib.hid (Tg.rightB_iff t)
  have hO1 := Lib.hid (fun W => hdOf m W)
  have hO2 := Lib.hid (fun W => lawOf ⟨0, m, m == 16 || m == 17⟩ W)
  have hO3 := Lib.hid (fun W => refOf m W)
  have hA1 := Lib.hid (fun W => hdAt m t.made W)
  have hA2 := Lib.hid (fun W => lawOf ⟨2, m, t.made⟩ W)
  have hA3 := Lib.hid (fun W => refAt m t.made W)
  have htl := tagB_len t
  generalize tagB t = TB at *
  generalize t.rightB = OK at *
  generalize (m == 16 || m == 17) = SQ at *
  obtain ⟨tc, tn, tm⟩ := t
  unfold Tg.v at *
  simp only at hA1 hA2 hA3
  have o0 := Own3.new w (.int .i64 tc) (.int .i64 tn) (.bool tm) 23
  have B0 := below_alloc1 w (blkR tc tn tm)
  go_enter Try.func3, Try.ntmps3
  go_wp2_with fail
  refine (hRt.out _).mono ?_
  rintro e w1 ⟨rfl, b1⟩
  have B1 := bstep B0 b1
  have o1 := o0.below b1
  have ⟨p0, p1, p2, _, _, _⟩ := o1
  clear o0 B0 b1
  go_wp2_with fail
  refine (hTo.out _).mono ?_
  rintro e w2 ⟨rfl, b2⟩
  have B2 := bstep B1 b2
  have o2 := o1.below b2
  clear p0 p1 p2 o1 B1 b2
  go_wp2_with fail
  refine (hBy.out _).mono ?_
  rintro e w3 ⟨A1, n1, c1, E1, rfl, b3, k1, k2⟩
  have B3 := bstep B2 b3
  have o3 := o2.below b3
  have K1 := Lib.hid k1
  have K2 := Lib.hid k2
  clear b3 B2 o2 k1 k2
  go_wp2_with fail
  refine (hdLengthAny m _).mono ?_
  rintro e w4 ⟨A2, n2, c2, E2, rfl, b4, j1, j2, j3⟩
  have B4 := bstep B3 b4
  have K1' : Hid (OK = true → E1 = 0 ∧ Bs w4 A1 n1 TB) := fun h => ⟨(K1.out h).1, (K1.out h).2.below b4⟩
  have J1 := Lib.hid j1
  have J2 := Lib.hid j2
  have J3 := Lib.hid j3
  obtain ⟨p0, p1, p2, _, _, _⟩ := o3.below b4
  clear b4 B3 o3 j1 j2 j3 K1
  have hneq := @neqTag
  generalize hW0 : w4.drew = W0
  have HW0 := Lib.hid hW0
  clear hW0
  have STP : Hid (∀ a b : World, Below a.heap.size a b → (a.cell? ⟨w.heap.size, 0, none⟩ = some (.int .i64 tc) ∧ a.cell? ⟨w.heap.size, 1, none⟩ = some (.int .i64 tn) ∧ a.cell? ⟨w.heap.size, 2, none⟩ = some (.bool tm) ∧ Below W0.heap.size W0 a) → (b.cell? ⟨w.heap.size, 0, none⟩ = some (.int .i64 tc) ∧ b.cell? ⟨w.heap.size, 1, none⟩ = some (.int .i64 tn) ∧ b.cell? ⟨w.heap.size, 2, none⟩ = some (.bool tm) ∧ Below W0.heap.size W0 b)) := by
    rintro a b hb ⟨h1, h2, h3, h4⟩
    have kp : ∀ {q : Addr} {v : Value}, a.cell? q = some v → b.cell? q = some v := fun hq => (hb.cell (World.block_lt_of_cell? a _ hq)).trans hq
    exact ⟨kp h1, kp h2, kp h3, bstep h4 hb⟩
  have hB00 : Hid (Below W0.heap.size W0 w4.drew) := by unfold Hid; rw [HW0.out]; exact Below.refl _ _
  have SPR : Hid (∀ a : World, (a.cell? ⟨w.heap.size, 0, none⟩ = some (.int .i64 tc) ∧ a.cell? ⟨w.heap.size, 1, none⟩ = some (.int .i64 tn) ∧ a.cell? ⟨w.heap.size, 2, none⟩ = some (.bool tm) ∧ Below W0.heap.size W0 a) → Below W0.heap.size W0 a) := fun a h => h.2.2.2
  go_wp2
  go_region_held3 (fun w' => w'.cell? ⟨w.heap.size, 0, none⟩ = some (.int .i64 tc) ∧ w'.cell? ⟨w.heap.size, 1, none⟩ = some (.int .i64 tn) ∧ w'.cell? ⟨w.heap.size, 2, none⟩ = some (.bool tm) ∧ Below W0.heap.size W0 w') (first | exact ⟨p0, p1, p2, hB00.out⟩ | assumption)
    (first
     | (go_at_call 11; refine (hTo.out _).mono ?_; rintro e wK ⟨rfl, bK⟩; have hS2 := STP.out _ _ bK (by assumption))
     | (go_at_call 13; refine (hRi.out _).mono ?_; rintro e wK ⟨rfl, bK⟩; have hS2 := STP.out _ _ bK (by assumption))
     | (go_at_call 15; refine (hO1.out _).mono ?_; rintro e wK ⟨rfl, bK⟩; have hS2 := STP.out _ _ bK (by assumption))
     | (go_at_call 14; refine (hO2.out _).mono ?_; rintro e wK ⟨rfl, bK⟩; have hS2 := STP.out _ _ bK (by assumption))
     | (go_at_call 16; refine (hO3.out _).mono ?_; rintro e wK ⟨rfl, bK⟩; have hS2 := STP.out _ _ bK (by assumption))
     | (go_at_call 17; refine (hA1.out _).mono ?_; rintro e wK ⟨rfl, bK⟩; have hS2 := STP.out _ _ bK (by assumption))
     | (go_at_call 14; refine (hA2.out _).mono ?_; rintro e wK ⟨rfl, bK⟩; have hS2 := STP.out _ _ bK (by assumption))
     | (go_at_call 18; refine (hA3.out _).mono ?_; rintro e wK ⟨rfl, bK⟩; have hS2 := STP.out _ _ bK (by assumption)))
  have hBw : Hid (∀ a b : World, Below W0.heap.size W0 a → Below a.heap.size a b → Below w.heap.size w b) := fun a b h k => bstep (bstep (bstep B4 ((Below.refl _ _).drew)) (HW0.out ▸ h)) k
  cases OK
  · obtain ⟨rfl, rfl, rfl, rfl⟩ := K2.out rfl
    by_cases hm1 : m < 0
    · obtain ⟨rfl, rfl, rfl, rfl⟩ := J2.out hm1
      go_wp2_with fail
      refine (known2 _).mono ?_
      rintro e w8 ⟨rfl, b8⟩
      have F8 := hBw.out _ _ (SPR.out _ (by assumption)) b8
      go_wp2
      go_ret
      exact ⟨rfl, F8⟩
    · by_cases hm2 : 16777216 < m
      · obtain ⟨rfl, rfl, rfl, rfl⟩ := J3.out hm2
        have hm3 : 0 ≤ m := by omega
        go_wp2_with fail
        refine (known2 _).mono ?_
        rintro e w8 ⟨rfl, b8⟩
        have F8 := hBw.out _ _ (SPR.out _ (by assumption)) b8
        go_wp2
        go_ret
        exact ⟨rfl, F8⟩
      · obtain ⟨rfl, hb2⟩ := J1.out ⟨by omega, by omega⟩
        have hm3 : 0 ≤ m := by omega
        have hn2 : n2 ≤ 1099511627776 := by have := hb2.len; have := lenB_len m; omega
        have HB2 := Lib.hid hb2
        clear hb2
        go_wp2_with fail
        refine (known2 _).mono ?_
        rintro e w8 ⟨rfl, b8⟩
        have F8 := hBw.out _ _ (SPR.out _ (by assumption)) b8
        have G8 := bstep (SPR.out _ (by assumption)) b8
        have hb8 := (HB2.out.drew.below (HW0.out ▸ G8))
        go_wp2_with fail
        refine (refLength m _ hm3 (by omega)).mono ?_
        rintro e w9 ⟨A9, n9, c9, rfl, hob9, b9⟩
        have F9 := bstep F8 b9
        have hb9 := hb8.below b9
        have hn9 : n9 ≤ 1099511627776 := by have := hob9.bs.1.len; have := lenB_len m; omega
        go_wp2_with fail
        refine (refSame A2 A9 n2 n9 c2 c9 _ _ _ hb9 hob9.bs.1 hn2 hn9).mono ?_
        rintro e w10 ⟨rfl, q10⟩
        rw [decide_eq_true rfl]
        have F10 := F9.trans q10.below
        go_wp2
        go_ret
        exact ⟨rfl, F10⟩
  · obtain ⟨rfl, hb1⟩ := K1'.out rfl
    have hn1 : n1 ≤ 1099511627776 := by have := hb1.len; omega
    have HB1 := Lib.hid hb1
    clear hb1
    go_wp2_with fail
    refine (hrB.out _ (hrr.out.1 (by trivial))).mono ?_
    rintro e w5 ⟨A5, n5, c5, rfl, hob5, b5⟩
    have F5 := hBw.out _ _ (SPR.out _ (by assumption)) b5
    have G5 := bstep (SPR.out _ (by assumption)) b5
    have hb5 := (HB1.out.drew.below (HW0.out ▸ G5))
    have hn5 : n5 ≤ 1099511627776 := by have := hob5.bs.1.len; omega
    go_wp2_with fail
    refine (refSame A1 A5 n1 n5 c1 c5 _ _ _ hb5 hob5.bs.1 hn1 hn5).mono ?_
    rintro e w6 ⟨rfl, q6⟩
    rw [decide_eq_true rfl]
    have F6 := F5.trans q6.below
    have G6 := G5.trans q6.below
    clear hob5 hb5 F5 G5
    by_cases hm1 : m < 0
    · obtain ⟨rfl, rfl, rfl, rfl⟩ := J2.out hm1
      go_wp2_with fail
      refine (known2 _).mono ?_
      rintro e w8 ⟨rfl, b8⟩
      have F8 := bstep F6 b8
      go_wp2
      go_ret
      exact ⟨rfl, F8⟩
    · by_cases hm2 : 16777216 < m
      · obtain ⟨rfl, rfl, rfl, rfl⟩ := J3.out hm2
        have hm3 : 0 ≤ m := by omega
        go_wp2_with fail
        refine (known2 _).mono ?_
        rintro e w8 ⟨rfl, b8⟩
        have F8 := bstep F6 b8
        go_wp2
        go_ret
        exact ⟨rfl, F8⟩
      · obtain ⟨rfl, hb2⟩ := J1.out ⟨by omega, by omega⟩
        have hm3 : 0 ≤ m := by omega
        have hn2 : n2 ≤ 1099511627776 := by have := hb2.len; have := lenB_len m; omega
        have HB2 := Lib.hid hb2
        clear hb2
        go_wp2_with fail
        refine (known2 _).mono ?_
        rintro e w8 ⟨rfl, b8⟩
        have F8 := bstep F6 b8
        have G8 := bstep G6 b8
        have hb8 := (HB2.out.drew.below (HW0.out ▸ G8))
        go_wp2_with fail
        refine (refLength m _ hm3 (by omega)).mono ?_
        rintro e w9 ⟨A9, n9, c9, rfl, hob9, b9⟩
        have F9 := bstep F8 b9
        have hb9 := hb8.below b9
        have hn9 : n9 ≤ 1099511627776 := by have := hob9.bs.1.len; have := lenB_len m; omega
        go_wp2_with fail
        refine (refSame A2 A9 n2 n9 c2 c9 _ _ _ hb9 hob9.bs.1 hn2 hn9).mono ?_
        rintro e w10 ⟨rfl, q10⟩
        rw [decide_eq_true rfl]
        have F10 := F9.trans q10.below
        go_wp2
        go_ret
        exact ⟨rfl, F10⟩

end Go.Proofs.Ytolcfoaffjnibaa
