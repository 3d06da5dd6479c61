/-
  OctetHex: for any bytes and any text, cut to 5000, quittancelaw01.OctetHex returns true and changes nothing that was there.
-/
import Derived.Test.YtcekglicepjjpaaKnown
namespace Go.Proofs.Ytcekglicepjjpaa
open Go.RowKit
set_option linter.unusedVariables false
set_option linter.unusedSimpArgs false

theorem dig_hexd (n : Nat) (h : n < 16) : dig (hexd n) = some n := by
  have h' : ∀ n : Fin 16, dig (hexd n.val) = some n.val := by decide
  exact h' ⟨n, h⟩
theorem hexd_dig {x : UInt8} {d : Nat} (h : dig x = some d) : hexd d = x := by
  have h' : ∀ n : Fin 256, ∀ d, dig (UInt8.ofNat n.val) = some d → hexd d = UInt8.ofNat n.val := by
    intro n d hd
    have hlt := dig_lt hd
    have key : ∀ n : Fin 256, (dig (UInt8.ofNat n.val)).all (fun d => hexd d == UInt8.ofNat n.val) = true := by decide +kernel
    have := key n
    rw [hd] at this
    simpa using this
  have := h' ⟨x.toNat, UInt8.toNat_lt x⟩ d (by simpa using h)
  simpa using this
theorem unhexL_hexL : ∀ l : List UInt8, unhexL (hexL l) = some l
  | [] => rfl
  | x :: r => by
    have hx := UInt8.toNat_lt x
    rw [hexL, unhexL_step (dig_hexd _ (by omega)) (dig_hexd _ (by omega)), unhexL_hexL r]
    have : UInt8.ofNat (16 * (x.toNat / 16) + x.toNat % 16) = x := by
      rw [show 16 * (x.toNat / 16) + x.toNat % 16 = x.toNat by omega]; simp
    rw [this]; rfl
theorem hexL_unhexL : ∀ (l r : List UInt8), unhexL l = some r → hexL r = l
  | [], r, h => by cases h; rfl
  | [_], r, h => by cases h
  | a :: b :: t, r, h => by
    rcases hx : dig a with _ | x
    · rw [unhexL_bad (.inl hx)] at h; cases h
    · rcases hy : dig b with _ | y
      · rw [unhexL_bad (.inr hy)] at h; cases h
      · rw [unhexL_step hx hy] at h
        obtain ⟨r', hr', rfl⟩ := Option.map_eq_some_iff.1 h
        have ih := hexL_unhexL t r' hr'
        have h1 := dig_lt hx
        have h2 := dig_lt hy
        have ht : (UInt8.ofNat (16 * x + y)).toNat = 16 * x + y := by rw [UInt8.toNat_ofNat']; omega
        rw [hexL, ht, ih, show (16 * x + y) / 16 = x by omega, show (16 * x + y) % 16 = y by omega, hexd_dig hx, hexd_dig hy]
theorem hexL_length : ∀ l : List UInt8, (hexL l).length = 2 * l.length
  | [] => rfl
  | x :: r => by simp [hexL, hexL_length r]; omega
theorem unhexL_length (l r : List UInt8) (h : unhexL l = some r) : 2 * r.length = l.length := by
  rw [← hexL_length, hexL_unhexL l r h]

set_option maxRecDepth 100000 in
set_option maxHeartbeats 800000 in
theorem lawHex (A : Option Addr) (n c : Nat) (l : List UInt8) (s : ByteArray) (w : World) (hB : Bs w A n l) (hc : n ≤ c) :
    Calls Try.prog 7 #[.slice A n c, .string s] w fun e w' => e = .returned (.bool true) ∧ Below w.heap.size w w' := by
  have hB' : Bs w A (min n 5000) (l.take (min n 5000)) := hB.take (by omega)
  have hn' : min n 5000 ≤ 5000 := by omega
  go_enter Try.func7, Try.ntmps7
  go_wp2_with fail
  refine (few1 A n c _ hc).mono ?_
  rintro e w0 ⟨rfl, rfl⟩
  generalize min n 5000 = m at *
  generalize l.take m = b at *
  clear hB hc
  go_wp2_with fail
  case' inl =>
    have ht : Hid ((s.extract 0 5000).size ≤ 5000) := by unfold Hid; rw [ByteArray.size_extract]; omega
    generalize s.extract 0 5000 = t at *
  case' inr =>
    have ht : Hid (s.size ≤ 5000) := by unfold Hid; omega
    obtain ⟨t, rfl⟩ : ∃ t, t = s := ⟨s, rfl⟩
  all_goals
    refine (octHex A m c b _ hB' (by omega)).mono ?_
    rintro e w1 ⟨rfl, b1⟩
    have hhl : Hid ((hexL b).length ≤ 1099511627776) := by unfold Hid; rw [hexL_length, hB'.len]; omega
    have htl : Hid (t.data.toList.length ≤ 1099511627776) := by unfold Hid; have := ht.out; show t.size ≤ _; omega
    go_wp2_with fail
    refine (octUnhex _ (hexL b) _ rfl hhl.out).mono ?_
    rintro e w2 hm
    rw [unhexL_hexL] at hm
    obtain ⟨A2, n2, c2, rfl, hob2, b2⟩ := hm
    go_wp2_with fail
    refine (octUnhex t t.data.toList _ rfl htl.out).mono ?_
    rintro e w3 hm3
    have B1 : Below w.heap.size w w1 := b1
    have B2 : Below w.heap.size w w2 := B1.trans (b2.mono B1.size)
    rcases hu : unhexL t.data.toList with _ | r
    · have HU := Lib.hid hu
      rw [hu] at hm3
      obtain ⟨rfl, b3⟩ := hm3
      have B3 : Below w.heap.size w w3 := B2.trans (b3.mono B2.size)
      clear hu
      go_wp2_with fail
      refine (refUnhex t t.data.toList _ rfl htl.out).mono ?_
      rintro e w4 hm4
      rw [HU.out] at hm4
      obtain ⟨rfl, b4⟩ := hm4
      have B4 : Below w.heap.size w w4 := B3.trans (b4.mono B3.size)
      go_wp2_with fail
      refine (known1 _).mono ?_
      rintro e w5 ⟨rfl, b5⟩
      have B5 : Below w.heap.size w w5 := B4.trans (b5.mono B4.size)
      go_wp2_with fail
      refine (refHex A m c b _ (hB'.below B5) (by omega)).mono ?_
      rintro e w6 ⟨rfl, b6⟩
      have B6 : Below w.heap.size w w6 := B5.trans (b6.mono B5.size)
      have hob6 := ((((hob2.below b3).below b4).below b5).below b6)
      obtain ⟨hbs2, hnc2⟩ := hob6.bs
      have hn2 : Hid (n2 ≤ 1099511627776) := by unfold Hid; have := hbs2.len; have := hB'.len; omega
      go_wp2_with fail
      refine (refSame A2 A n2 m c2 c b b _ hbs2 (hB'.below B6) hn2.out (by omega)).mono ?_
      rintro e w7 ⟨rfl, q7⟩
      have B7 : Below w.heap.size w w7 := B6.trans q7.below
      go_wp2_with fail
      refine (refSame none none 0 0 0 0 [] [] _ (Bs.nil _ _) (Bs.nil _ _) (by omega) (by omega)).mono ?_
      rintro e w8 ⟨rfl, q8⟩
      have B8 : Below w.heap.size w w8 := B7.trans q8.below
      go_wp2
      go_ret
      exact ⟨rfl, B8⟩
    · have HU := Lib.hid hu
      have HR : Hid ((⟨(hexL r).toArray⟩ : ByteArray) = t) := by unfold Hid; rw [hexL_unhexL _ _ hu]
      have hrl : Hid (r.length ≤ 5000) := by
        have h1 := unhexL_length _ _ hu
        have h2 : t.data.toList.length ≤ 5000 := ht.out
        unfold Hid; omega
      rw [hu] at hm3
      obtain ⟨A3, n3, c3, rfl, hob3, b3⟩ := hm3
      have B3 : Below w.heap.size w w3 := B2.trans (b3.mono B2.size)
      clear hu
      go_wp2_with fail
      refine (refUnhex t t.data.toList _ rfl htl.out).mono ?_
      rintro e w4 hm4
      rw [HU.out] at hm4
      obtain ⟨A4, n4, c4, rfl, hob4, b4⟩ := hm4
      have B4 : Below w.heap.size w w4 := B3.trans (b4.mono B3.size)
      go_wp2_with fail
      refine (known1 _).mono ?_
      rintro e w5 ⟨rfl, b5⟩
      have B5 : Below w.heap.size w w5 := B4.trans (b5.mono B4.size)
      go_wp2_with fail
      refine (refHex A m c b _ (hB'.below B5) (by omega)).mono ?_
      rintro e w6 ⟨rfl, b6⟩
      have B6 : Below w.heap.size w w6 := B5.trans (b6.mono B5.size)
      have hob6 := ((((hob2.below b3).below b4).below b5).below b6)
      obtain ⟨hbs2, hnc2⟩ := hob6.bs
      have hn2 : Hid (n2 ≤ 1099511627776) := by unfold Hid; have := hbs2.len; have := hB'.len; omega
      go_wp2_with fail
      refine (refSame A2 A n2 m c2 c b b _ hbs2 (hB'.below B6) hn2.out (by omega)).mono ?_
      rintro e w7 ⟨rfl, q7⟩
      have B7 : Below w.heap.size w w7 := B6.trans q7.below
      obtain ⟨hbs3, hnc3⟩ := ((((hob3.below b4).below b5).below b6).below q7.below).bs
      obtain ⟨hbs4, hnc4⟩ := (((hob4.below b5).below b6).below q7.below).bs
      have hn3 : Hid (n3 ≤ 1099511627776) := by unfold Hid; have := hbs3.len; have := hrl.out; omega
      have hn4 : Hid (n4 ≤ 1099511627776) := by unfold Hid; have := hbs4.len; have := hrl.out; omega
      go_wp2_with fail
      refine (refSame A3 A4 n3 n4 c3 c4 r r _ hbs3 hbs4 hn3.out hn4.out).mono ?_
      rintro e w8 ⟨rfl, q8⟩
      have B8 : Below w.heap.size w w8 := B7.trans q8.below
      go_wp2_with fail
      refine (octHex A3 n3 c3 r _ (hbs3.below q8.below) hn3.out).mono ?_
      rintro e w9 ⟨rfl, b9⟩
      rw [HR.out]
      have B9 : Below w.heap.size w w9 := B8.trans (b9.mono B8.size)
      go_wp2
      go_ret
      exact ⟨rfl, B9⟩
end Go.Proofs.Ytcekglicepjjpaa
