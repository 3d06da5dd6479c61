/-
  The contracts of layer 3's reference: Contents.
-/
import Derived.Test.YtbjiknfebocepaaGreatDoorR3b
import Derived.Test.YtbjiknfebocepaaGreatDoorCon
namespace Go.Proofs.YtbjiknfebocepaaGreatDoor
open Go.RowKit Go.Joins
set_option linter.unusedVariables false
set_option linter.unusedSimpArgs false
set_option maxRecDepth 4000

/-- m bytes are enough. -/
def Good (p : Bool) (v m : Nat) : Prop := if p then v ≤ 128 * 256 ^ (m - 1) else v < 128 * 256 ^ (m - 1)
theorem good_short {p : Bool} {l : List UInt8} {m : Nat} (h : Nz l) (h1 : 1 ≤ m) (h2 : m < l.length) : ¬ Good p (val l) m := by
  have h3 := h.ge (fun e => by subst e; simp at h2)
  have h4 : 256 ^ m ≤ 256 ^ (l.length - 1) := Nat.pow_le_pow_right (by omega) (by omega)
  have h5 : 256 ^ m = 256 * 256 ^ (m - 1) := by
    conv => lhs; rw [show m = (m - 1) + 1 by omega, Nat.pow_succ, Nat.mul_comm]
  have h6 : 0 < 256 ^ (m - 1) := Nat.pos_of_ne_zero (by simp)
  unfold Good
  cases p <;> simp <;> omega
theorem good_long {p : Bool} {l : List UInt8} : Good p (val l) (l.length + 1) := by
  have := val_lt l
  unfold Good
  rw [Nat.add_sub_cancel]
  cases p <;> simp <;> omega
/-- What the reference's Contents hands back. -/
def ContR (x : Nm) (w : World) (e : Ending) (w' : World) : Prop :=
  ∃ m A c B, e = .returned (.slice A m c) ∧ Bs w' A m B ∧ m ≤ c ∧ 1 ≤ m ∧ m ≤ x.size.length + 1 ∧ Good x.below (val x.size) m ∧ (∀ m', 1 ≤ m' → m' < m → ¬ Good x.below (val x.size) m') ∧
    (if x.below then val B + val x.size = 256 ^ m else val B = val x.size) ∧ Below w.heap.size w w'

theorem copy_step {l : List UInt8} {i k n : Nat} {y : UInt8} (hl : l.length = n) (h : l[i]? = some y) :
    ((List.replicate k (0 : UInt8) ++ l.take i ++ List.replicate (n - i) 0).map byteV).set (k + i) (byteV y) = (List.replicate k (0 : UInt8) ++ l.take (i + 1) ++ List.replicate (n - (i + 1)) 0).map byteV := by
  obtain ⟨hk, rfl⟩ := List.getElem?_eq_some_iff.1 h
  have hlen : (List.replicate k (0 : UInt8) ++ l.take i).length = k + i := by simp; omega
  rw [← List.map_set, List.set_append_right _ _ (by omega), hlen, Nat.sub_self, show n - i = (n - (i + 1)) + 1 by omega, List.replicate_succ, List.set_cons_zero, List.take_succ_eq_append_getElem hk]
  congr 1
  simp only [List.append_assoc, List.singleton_append]
theorem comp_step {B C : List UInt8} {j : Nat} {y : UInt8} (h : j < B.length) : ((B.take (j + 1) ++ C).map byteV).set j (byteV y) = (B.take j ++ y :: C).map byteV := by
  have hlen : (B.take j).length = j := by simp; omega
  rw [← List.map_set, List.take_succ_eq_append_getElem h, List.append_assoc, List.set_append_right _ _ (by omega), hlen, Nat.sub_self]
  rfl

theorem comp_val {B C : List UInt8} {m j kc X Y k' : Nat} {x y : UInt8} (hB : B.length = m) (hj : j < m) (hx : B[j]? = some x) (hX : x.toNat = X) (hy : y.toNat = Y) (hC : C.length = m - (j + 1))
    (hS : Y + 256 * k' + X = 255 + kc) (h : val C + kc * 256 ^ (m - (j + 1)) + val (B.drop (j + 1)) = 256 ^ (m - (j + 1))) :
    val (y :: C) + k' * 256 ^ (m - j) + val (B.drop j) = 256 ^ (m - j) := by
  obtain ⟨hk, rfl⟩ := List.getElem?_eq_some_iff.1 hx
  rw [List.drop_eq_getElem_cons hk, val_cons, val_cons, hX, hy, hC, List.length_drop, hB, show m - j = (m - (j + 1)) + 1 by omega, Nat.pow_succ]
  generalize 256 ^ (m - (j + 1)) = P at *
  have h1 : Y * P + k' * (P * 256) + X * P = (255 + kc) * P := by
    rw [← hS, Nat.add_mul, Nat.add_mul, Nat.mul_comm P 256, ← Nat.mul_assoc, Nat.mul_comm k' 256]
  rw [Nat.add_mul] at h1
  omega

set_option maxHeartbeats 6400000 in
theorem ref3Contents (x : Nm) (u : Value) (w : World) (hx : NumV w x u) (hn : x.size.length ≤ 900000) :
    Calls Tryz.prog 18 #[u] w (ContR x.mk0 w) := by
  obtain ⟨i0, hi, hz0, hz1, hz2⟩ := info_parts u8_info
  obtain ⟨A, c, rfl, hb, hc⟩ := hx
  obtain ⟨xb, a⟩ := x
  simp only at hb hc hn ⊢
  generalize hma : a.length = na at *
  have HA := Lib.hid hma; clear hma
  have hX : NumV w ⟨xb, a⟩ (.agg #[.bool xb, .slice A na c]) := NumV.mk' xb hb hc
  have hT := One.start w 30 (.bool xb) (.slice A na c)
  obtain ⟨x0, hx0⟩ : ∃ x0, Nm.mk0 ⟨xb, a⟩ = x0 := ⟨_, rfl⟩
  have hok1 : x0.ok := by rw [← hx0]; exact Nm.mk0_ok _
  have hl1 : x0.size.length ≤ na := by rw [← hx0, ← HA.out]; exact Nm.mk0_len _
  have HM := Lib.hid (ref3Made ⟨xb, a⟩)
  rw [hx0] at HM ⊢
  go_enter Tryz.func18, Tryz.ntmps18
  go_wp2_with fail
  generalize (w.alloc (Obj.cells #[Value.bool xb, Value.slice A na c] 30)) = W0 at *
  generalize hR : w.heap.size = R at *
  have HR := Lib.hid hR; clear hR
  refine (HM.out _ W0 (hX.frame hT.2.1) (by have := HA.out; show a.length ≤ _; omega)).mono ?_
  rintro e w1 ⟨v1, rfl, ⟨A1, c1, rfl, hs1, hc1⟩, hb1⟩
  have hT1 := hT.frame hb1
  clear hx0 hb1 hT hX hb hc HM
  have hs2 := hs1.set2 hT1.1 (.bool x0.below) (.slice A1 x0.size.length c1)
  have hT2 := hT1.put (a0 := .bool x0.below) (a1 := .slice A1 x0.size.length c1) rfl
  have c0 := hT1.1.cell 0
  have c1' := hT1.1.cell 1
  have f0 := hT1.1.free 0
  have f1 := hT1.1.free 1
  simp at c0 c1'
  go_upto_region 2 with (fail)
  generalize ((w1.setCell ⟨R, 0, none⟩ (.bool x0.below)).setCell ⟨R, 1, none⟩ (.slice A1 x0.size.length c1)) = W2 at *
  clear c0 c1' f0 f1 hT1 hs1
  obtain ⟨p, l⟩ := x0
  simp only at *
  have hNz := hok1.1
  have hpos : Hid (p = true → 0 < val l) := by
    intro hp
    have := (Nm.neg_iff hok1).1 hp
    simp [Nm.z, hp] at this
    omega
  have HNs : Hid (∀ m, 1 ≤ m → m < l.length → ¬ Good p (val l) m) := fun m h1 h2 => good_short hNz h1 h2
  have HNl : Hid (Good p (val l) (l.length + 1)) := good_long
  generalize hnn : l.length = n at *
  have HN := Lib.hid hnn; clear hnn
  go_wp2
  go_loopw [3] (fun mv wr => ∃ m : Nat, 1 ≤ m ∧ m ≤ n + 1 ∧ mv = .int .i64 (m : Int) ∧ One w 30 R [.bool p, .slice A1 n c1] wr ∧ Bs wr A1 n l ∧ Hid (∀ m', 1 ≤ m' → m' < m → ¬ Good p (val l) m')) (fun mv _ => n + 2 - (intOf mv).toNat)
  case atStart => exact ⟨1, by omega, by omega, rfl, hT2, hs2, fun m' h1 h2 => by omega⟩
  case round =>
    clear hT2 hs2
    obtain ⟨m, hm1, hmn, rfl, hT3, hs3, hbad⟩ := hrel
    have d0 := hT3.1.cell 0
    have d1 := hT3.1.cell 1
    simp at d0 d1
    have hstep : Hid (¬ Good p (val l) m → ∀ m', 1 ≤ m' → m' < m + 1 → ¬ Good p (val l) m') := fun h m' h1 h2 => by
      by_cases e : m' = m
      · rw [e]; exact h
      · exact hbad.out m' h1 (by omega)
    have hnext : Hid (¬ Good p (val l) m → m + 1 ≤ n + 1) := fun h => by
      by_cases e : m = n + 1
      · rw [e] at h; exact absurd HNl.out h
      · omega
    by_cases hs : m < n
    · have hng := HNs.out m hm1 hs
      have q1 : (m : Int) < n := by omega
      have hr1 := hstep.out hng
      have hr2 := hnext.out hng
      clear hstep hnext hng
      go_wp2
      refine ⟨⟨m + 1, by omega, hr2, by go_num, hT3, hs3, hr1⟩, by simp [intOf]; omega⟩
    · have q1 : ¬ (m : Int) < n := by omega
      have q2 : (n : Int) ≤ m := by omega
      have hmk : ∀ W : World, (Instr.makeSlice 22 (.int .i64 (m : Int)) (.int .i64 (m : Int))).run Tryz.prog W = .ok (.slice (some ⟨W.heap.size, 0, none⟩) m m) (W.alloc (.cells (Array.replicate m (byteV 0)) 5)) := fun W => by
        have := run_makeN (P := Tryz.prog) 22 5 i0 Tryz.underlying22 hi hz0 hz1 hz2 (m : Int) (by omega) (by omega) W
        rw [zeroB_list] at this
        simpa using this
      have hk5 : Blk (wr.alloc (Obj.cells (Array.replicate m (byteV 0)) 5)) wr.heap.size 5 ((List.replicate m (0 : UInt8)).map byteV) := by
        have := Blk.new wr ((List.replicate m (0 : UInt8)).map byteV) 5
        simpa using this
      have hB5 := below_alloc1 wr (Obj.cells (Array.replicate m (byteV 0)) 5)
      go_upto_region 6 with (fail)
      generalize (wr.alloc (Obj.cells (Array.replicate m (byteV 0)) 5)) = W5 at *
      have hRg : R < wr.heap.size := hT3.1.lt
      have hwR := hT3.2.2
      obtain ⟨k, hkm⟩ : ∃ k, m = k + n := ⟨m - n, by omega⟩
      have sw1 : (m : Int) - n = (k : Int) := by omega
      have sw1a : IntKind.i64.wrap ((m : Int) - n) = (k : Int) := by rw [sw1]; exact IntWalk.i64_in _ (by omega)
      have FR : Hid (∀ W, Below wr.heap.size wr W → W.cell? ⟨R, 0, none⟩ = some (.bool p) ∧ W.cell? ⟨R, 1, none⟩ = some (.slice A1 n c1) ∧ Bs W A1 n l ∧ One w 30 R [.bool p, .slice A1 n c1] W) :=
        fun W h => ⟨(hT3.frame h).1.cell 0, (hT3.frame h).1.cell 1, hs3.below h, hT3.frame h⟩
      have sw1b : IntKind.i64.wrap (k : Int) = (k : Int) := IntWalk.i64_in _ (by omega)
      have HKM := Lib.hid hkm
      clear hkm
      clear hmk d0 d1
      have HG : Hid (wr.heap.size ≤ wr.heap.size) := Nat.le_refl _
      generalize hgg : wr.heap.size = g at *
      have HGG := Lib.hid hgg; clear hgg
      go_wp2
      go_loopw [5] (fun iv w' => ∃ i : Nat, i ≤ n ∧ iv = .int .i64 (i : Int) ∧ Blk w' g 5 ((List.replicate k (0 : UInt8) ++ l.take i ++ List.replicate (n - i) 0).map byteV) ∧ Below g wr w' ∧ g ≤ w'.heap.size) (fun iv _ => n - (intOf iv).toNat)
      case atStart =>
        refine ⟨0, by omega, rfl, ?_, hB5, by have := hk5.lt; omega⟩
        rw [List.take_zero, List.append_nil, Nat.sub_zero, List.replicate_append_replicate, ← HKM.out]; exact hk5
      case round =>
        clear hk5 hB5
        obtain ⟨i, hile, rfl, hk6, hB6, hg6⟩ := hrel
        obtain ⟨d0, d1, hs6, hT6⟩ := FR.out _ hB6
        by_cases hin : i < n
        · obtain ⟨b, o, rfl, hcell⟩ := hs6.at_ (k := i) hin
          obtain ⟨y, hy⟩ : ∃ y, l[i]? = some y := ⟨l[i]'(by rw [HN.out]; exact hin), List.getElem?_eq_getElem _⟩
          have hny : nth l i = (y.toNat : Int) := by simp [nth, List.getD, hy]
          rw [hny] at hcell
          clear hny
          have t1 : (i : Int) < n := by omega
          have sw2 : (k : Int) + i = ((k + i : Nat) : Int) := by omega
          have sw2a : IntKind.i64.wrap ((k : Int) + i) = ((k + i : Nat) : Int) := by rw [sw2]; exact IntWalk.i64_in _ (by omega)
          have hki : k + i < m := by have := HKM.out; omega
          have hkiI : ((k + i : Nat) : Int) < m := by omega
          have hc6 := hk6.cell (k + i)
          have hf6 := hk6.free (k + i)
          have hset := hk6.set (k + i) (byteV y)
          rw [copy_step HN.out hy] at hset
          have hget : ∃ z, ((List.replicate k (0 : UInt8) ++ l.take i ++ List.replicate (n - i) 0).map byteV)[k + i]? = some z := ⟨_, List.getElem?_eq_getElem (by have := HN.out; simp; omega)⟩
          obtain ⟨zz, hzz⟩ := hget
          rw [hzz] at hc6
          have hB7 := Only.below ((Only.refl g wr).setCell (p := ⟨g, k + i, none⟩) rfl (byteV y)) hB6 (Nat.le_refl _) hg6
          have HBV : Hid (byteV y = .int .u8 (y.toNat : Int)) := rfl
          rw [HBV.out] at hset hB7
          clear hzz
          have sw2b : IntKind.i64.wrap ((k + i : Nat) : Int) = ((k + i : Nat) : Int) := IntWalk.i64_in _ (by omega)
          generalize hki2 : k + i = ki at *
          clear hki2
          go_wp2
          go_region_with (fail)
          all_goals
            go_wp2
            refine ⟨⟨i + 1, by omega, by go_num, ?_, ?_, ?_⟩, by simp [intOf]; omega⟩
            · exact hset
            · exact hB7.drew
            · show g ≤ (wr.setCell _ _).heap.size
              simp [World.setCell]; exact hg6
        · have hin' : i = n := by omega
          subst hin'
          have t1 : ¬ (i : Int) < i := by omega
          rw [List.take_of_length_le (by rw [HN.out]; exact Nat.le_refl _), Nat.sub_self, List.replicate_zero, List.append_nil] at hk6
          have hBv : Hid (val (List.replicate k (0 : UInt8) ++ l) = val l) := val_pad _ _
          have hBl : Hid ((List.replicate k (0 : UInt8) ++ l).length = m) := by unfold Hid; have := HN.out; have := HKM.out; simp; omega
          generalize List.replicate k (0 : UInt8) ++ l = B at *
          have hBw : Below w.heap.size w wr := hT6.2.1
          have h256 : Hid (256 ^ m = 256 * 256 ^ (m - 1)) := by
            unfold Hid
            conv => lhs; rw [show m = (m - 1) + 1 by omega, Nat.pow_succ, Nat.mul_comm]
          cases p with
          | false =>
            have hbs := hk6.bs
            rw [hBl.out] at hbs
            obtain ⟨b', o', e', hcell⟩ := hbs.at_ (k := 0) (by omega)
            cases e'
            rw [Nat.add_zero] at hcell
            have hiff : Hid (nth B 0 < 128 ↔ Good false (val l) m) := by
              unfold Hid
              rw [head_lt (fun e => by have := hBl.out; rw [e] at this; simp at this; omega), hBl.out, hBv.out]
              simp [Good]
            have hm0 : 0 < m := by omega
            have hm0I : (0 : Int) < m := by omega
            by_cases hgd : Good false (val l) m
            · have q5 := hiff.out.2 hgd
              have FIN : Hid (ContR ⟨false, l⟩ w (.returned (.slice (some ⟨g, 0, none⟩) m m)) wr) :=
                ⟨m, _, m, B, rfl, hbs, Nat.le_refl _, hm1, by show m ≤ l.length + 1; rw [HN.out]; exact hmn, hgd, hbad.out, hBv.out, hBw⟩
              clear hiff
              generalize nth B 0 = X at *
              go_wp2
              go_ret
              exact FIN.out
            · have q5 : ¬ nth B 0 < 128 := fun h => hgd (hiff.out.1 h)
              have hr1 := hstep.out hgd
              have hr2 := hnext.out hgd
              clear hiff
              generalize nth B 0 = X at *
              go_wp2
              refine ⟨⟨m + 1, by omega, hr2, by go_num, hT6, hs6, hr1⟩, by simp [intOf]; omega⟩
          | true =>
            have hv0 := hpos.out rfl
            go_wp2
            go_loopw [6, 7] (fun cv iv w' => ∃ (j kc : Nat) (C : List UInt8), j ≤ m ∧ kc ≤ 1 ∧ cv = .int .i64 (kc : Int) ∧ iv = .int .i64 ((j : Int) - 1) ∧ C.length = m - j ∧ Blk w' g 5 ((B.take j ++ C).map byteV) ∧ Hid (val C + kc * 256 ^ (m - j) + val (B.drop j) = 256 ^ (m - j)) ∧ Below g _ w' ∧ g ≤ w'.heap.size) (fun _ iv _ => (intOf iv + 1).toNat)
            case atStart =>
              refine ⟨m, 1, [], by omega, by omega, rfl, rfl, by simp, ?_, ?_, hB6, hg6⟩
              · rw [List.take_of_length_le (by rw [hBl.out]; exact Nat.le_refl _), List.append_nil]; exact hk6
              · unfold Hid; rw [List.drop_eq_nil_of_le (by rw [hBl.out]; exact Nat.le_refl _), Nat.sub_self]; simp [val]
            case round =>
              obtain ⟨j, kc, C, hj, hkc, rfl, rfl, hCl, hkC, hCv, hB7, hg7⟩ := hrel
              obtain ⟨d0', d1', hs7, hT7⟩ := FR.out _ hB7
              by_cases hj0 : j = 0
              · subst hj0
                rw [List.take_zero, List.nil_append] at hkC
                rw [List.drop_zero, Nat.sub_zero] at hCv
                rw [Nat.sub_zero] at hCl
                have hfin : Hid (val C + val l = 256 ^ m) := by
                  have h1 := hCv.out
                  rw [hBv.out] at h1
                  unfold Hid
                  rcases Nat.lt_or_ge kc 1 with h2 | h2
                  · have : kc = 0 := by omega
                    subst this; simpa using h1
                  · have : kc = 1 := by omega
                    subst this; omega
                have hbs := hkC.bs
                rw [hCl] at hbs
                obtain ⟨b', o', e', hcell⟩ := hbs.at_ (k := 0) (by omega)
                cases e'
                rw [Nat.add_zero] at hcell
                have hiff : Hid (¬ (nth C 0 < 128) ↔ Good true (val l) m) := by
                  unfold Hid
                  rw [head_lt (fun e => by rw [e] at hCl; simp at hCl; omega), hCl]
                  have h1 := hfin.out
                  have h2 := h256.out
                  simp only [Good, if_true]
                  omega
                have hBw7 : Below w.heap.size w wr := hT7.2.1
                have hm0 : 0 < m := by omega
                have hm0I : (0 : Int) < m := by omega
                clear hCv
                by_cases hgd : Good true (val l) m
                · have q5 := hiff.out.2 hgd
                  have q6 : 128 ≤ nth C 0 := by omega
                  have FIN : Hid (ContR ⟨true, l⟩ w (.returned (.slice (some ⟨g, 0, none⟩) m m)) wr) :=
                    ⟨m, _, m, C, rfl, hbs, Nat.le_refl _, hm1, by show m ≤ l.length + 1; rw [HN.out]; exact hmn, hgd, hbad.out, hfin.out, hBw7⟩
                  clear hiff
                  generalize nth C 0 = X at *
                  go_wp2
                  go_ret
                  exact FIN.out
                · have q5 : nth C 0 < 128 := by
                    by_cases h : nth C 0 < 128
                    · exact h
                    · exact absurd (hiff.out.1 h) hgd
                  have q6 : ¬ 128 ≤ nth C 0 := by omega
                  have hr1 := hstep.out hgd
                  have hr2 := hnext.out hgd
                  clear hiff
                  generalize nth C 0 = X at *
                  go_wp2
                  refine ⟨⟨m + 1, by omega, hr2, by go_num, hT7, hs7, hr1⟩, by simp [intOf]; omega⟩
              · obtain ⟨j', rfl⟩ : ∃ j', j = j' + 1 := ⟨j - 1, by omega⟩
                have te : ((j' + 1 : Nat) : Int) - 1 = (j' : Int) := by omega
                rw [te]
                have hjB : j' < B.length := by rw [hBl.out]; omega
                obtain ⟨x, hx⟩ : ∃ x, B[j']? = some x := ⟨B[j'], List.getElem?_eq_getElem hjB⟩
                have hxb : x.toNat < 256 := UInt8.toNat_lt x
                have hc7 := hkC.cell j'
                have hgt : ((B.take (j' + 1) ++ C).map byteV)[j']? = some (.int .u8 (x.toNat : Int)) := by
                  rw [List.getElem?_map, List.getElem?_append_left (by simp; omega), List.getElem?_take, if_pos (by omega), hx]; rfl
                rw [hgt] at hc7
                have hf7 := hkC.free j'
                obtain ⟨X, hX⟩ : ∃ X, x.toNat = X := ⟨_, rfl⟩
                rw [hX] at hc7 hxb
                obtain ⟨S, hS⟩ : ∃ S, 255 - X + kc = S := ⟨_, rfl⟩
                obtain ⟨Y, hY⟩ : ∃ Y, S % 256 = Y := ⟨_, rfl⟩
                obtain ⟨k', hk'⟩ : ∃ k', S / 256 = k' := ⟨_, rfl⟩
                have tS : (255 : Int) - X + kc = (S : Int) := by omega
                have tY : (S : Int) % 256 = (Y : Int) := by omega
                have tYt : (S : Int).tmod 256 = (Y : Int) := by rw [Int.tmod_eq_emod_of_nonneg (by omega)]; omega
                have tk : (S : Int) / 256 = (k' : Int) := by omega
                have tkt : (S : Int).tdiv 256 = (k' : Int) := by rw [Int.tdiv_eq_ediv_of_nonneg (by omega)]; omega
                obtain ⟨y, hy⟩ : ∃ y : UInt8, y.toNat = Y := ⟨UInt8.ofNat Y, by rw [UInt8.toNat_ofNat']; omega⟩
                have hSb : S ≤ 256 := by omega
                have hYb : Y < 256 := by omega
                have hk1 : k' ≤ 1 := by omega
                have HSV : Hid (val (y :: C) + k' * 256 ^ (m - j') + val (B.drop j') = 256 ^ (m - j')) := comp_val hBl.out (by omega) hx hX hy hCl (by omega) hCv.out
                have hset := hkC.set j' (byteV y)
                rw [comp_step hjB] at hset
                have hB8 := Only.below ((Only.refl g wr).setCell (p := ⟨g, j', none⟩) rfl (byteV y)) hB7 (Nat.le_refl _) hg7
                have HBV : Hid (byteV y = .int .u8 (Y : Int)) := by unfold Hid byteV; rw [hy]
                rw [HBV.out] at hset hB8
                have hjm : j' < m := by omega
                have hjI : (j' : Int) < m := by omega
                have hlC : Hid ((y :: C).length = m - j') := by unfold Hid; rw [List.length_cons, hCl]; omega
                clear hS hY hk' hx hX hy hgt hCv HBV hCl te
                go_wp2
                refine ⟨⟨j', k', y :: C, by omega, hk1, by first | rfl | trivial, by first | rfl | go_num, hlC.out, hset, HSV, hB8, ?_⟩, ?_⟩
                · simp [World.setCell]; exact hg7
                · simp [intOf]
end Go.Proofs.YtbjiknfebocepaaGreatDoor
