/-
  The contracts of the project's head: Bytes.
-/
import Derived.Test.YtbhfaakhcnkegaaHdWr
import Derived.Test.YtbhfaakhcnkegaaOneB
namespace Go.Proofs.Ytbhfaakhcnkegaa
open Go.RowKit
set_option linter.unusedVariables false
set_option linter.unusedSimpArgs false
set_option maxRecDepth 4000

/-- The first k bytes with 128 added. -/
def mkL (l : List UInt8) (k : Nat) : List UInt8 := (l.take k).map (fun x => x + 128) ++ l.drop k
theorem mkL_len (l : List UInt8) (k : Nat) : (mkL l k).length = l.length := by simp [mkL]; omega
theorem mkL_at {l : List UInt8} {k : Nat} (h : k < l.length) : nth (mkL l k) k = nth l k := by
  unfold nth mkL
  have hl : ((l.take k).map (fun x => x + 128)).length = k := by simp; omega
  simp only [List.getD, List.getElem?_append, hl, Nat.lt_irrefl, if_false, Nat.sub_self, List.getElem?_drop, Nat.add_zero]
theorem mkL_set {l : List UInt8} {k : Nat} (h : k < l.length) : (mkL l k).set k (l.getD k 0 + 128) = mkL l (k + 1) := by
  unfold mkL
  have hl : ((l.take k).map (fun x => x + 128)).length = k := by simp; omega
  rw [List.set_append, if_neg (by rw [hl]; omega), hl, Nat.sub_self, List.drop_eq_getElem_cons h]
  rw [List.take_succ_eq_append_getElem h]
  simp only [List.map_append, List.map_cons, List.map_nil, List.append_assoc, List.set_cons_zero, List.cons_append, List.nil_append, List.getD, List.getElem?_eq_getElem h, Option.getD_some]

theorem Ob.row {w : World} {B : Nat} {e : TypeId} {v : Value} {l : List UInt8} (h : Ob w B e v l) (hl : 0 < l.length) : ∃ g c, v = .slice (some ⟨g, 0, none⟩) l.length c ∧ l.length ≤ c ∧ B ≤ g := by
  rcases h.2 with ⟨rfl, h0⟩ | ⟨g, cap, cur, rfl, hg, _, hle, _, _, _⟩
  · omega
  · exact ⟨g, cap, rfl, hle, hg⟩
theorem Ob.store {w : World} {B g n c : Nat} {e : TypeId} {l : List UInt8} (h : Ob w B e (.slice (some ⟨g, 0, none⟩) n c) l) (hn : l.length = n) (k : Nat) (x : UInt8) :
    Ob (w.setCell ⟨g, k, none⟩ (byteV x)) B e (.slice (some ⟨g, 0, none⟩) n c) (l.set k x) ∧ Only g w (w.setCell ⟨g, k, none⟩ (byteV x)) := by
  subst hn
  have := World.ownsRow.stored h k (byteV x)
  refine ⟨?_, this.2⟩
  unfold Ob
  rw [List.map_set, List.length_set]
  exact this.1

theorem digL_lt (b : Int) (hb : 0 < b) (hb1 : b ≤ 128) : ∀ (f : Nat) (n : Int), ∀ x ∈ digL b f n, x.toNat < 128 := by
  have hu : ∀ n : Int, (u8 (n % b)).toNat < 128 := by
    intro n
    have h0 := Int.emod_nonneg n (by omega : b ≠ 0)
    have h1 := Int.emod_lt_of_pos n hb
    have := u8_val (n % b) h0 (by omega)
    omega
  intro f
  induction f with
  | zero => intro n x hx; simp [digL] at hx; subst hx; exact hu n
  | succ f ih =>
    intro n x hx
    unfold digL at hx
    rw [List.mem_append] at hx
    rcases hx with hx | hx
    · split at hx
      · exact ih _ x hx
      · simp at hx
    · simp at hx; subst hx; exact hu n
theorem digL_nth {f : Nat} {n : Int} {k : Nat} (hk : k < (digL 128 f n).length) : nth (digL 128 f n) k < 128 := by
  have := digL_lt 128 (by omega) (by omega) f n ((digL 128 f n).getD k 0) (by simp [List.getD, List.getElem?_eq_getElem hk])
  unfold nth; omega
theorem digL_pos (b : Int) (f : Nat) (n : Int) : 0 < (digL b f n).length := by cases f <;> simp [digL]

theorem tagB_digL (c n : Int) (m : Bool) (h0 : 31 ≤ n) (h1 : n < 2097152) : tagB ⟨c, n, m⟩ = u8 (64 * c + (if m then 32 else 0) + 31) :: mkL (digL 128 2 n) ((digL 128 2 n).length - 1) := by
  have hadd : ∀ z : Int, 0 ≤ z → z < 128 → u8 z + 128 = u8 (128 + z) := by
    intro z h0 h1
    apply UInt8.toNat_inj.1
    have a := u8_val z h0 (by omega)
    have b := u8_val (128 + z) (by omega) (by omega)
    rw [UInt8.toNat_add]
    have e : (128 : UInt8).toNat = 128 := rfl
    rw [e]
    omega
  by_cases a1 : n < 128
  · rw [tagB1 c n m h0 a1]
    have q1 : ¬ 128 ≤ n := by omega
    simp [digL, q1, mkL]
  · by_cases a2 : n < 16384
    · rw [tagB2 c n m (by omega) a2]
      have q1 : 128 ≤ n := by omega
      have q2 : ¬ 128 ≤ n / 128 := by omega
      simp [digL, q1, q2, mkL]
      exact (hadd _ (by omega) (by omega)).symm
    · rw [tagB3 c n m (by omega)]
      have q1 : 128 ≤ n := by omega
      have q2 : 128 ≤ n / 128 := by omega
      have q3 : n / 128 / 128 % 128 = n / 16384 := by omega
      simp [digL, q1, q2, q3, mkL]
      exact ⟨(hadd _ (by omega) (by omega)).symm, (hadd _ (by omega) (by omega)).symm⟩

set_option maxHeartbeats 800000 in
theorem hdBytesNo (t : Tg) (w : World) (h : t.rightB = false) :
    Calls Try.prog 84 #[t.v] w fun e w' => e = .returned (.tuple #[.slice none 0 0, .int .i64 1]) ∧ Below w.heap.size w w' := by
  have hR := Lib.hid (fun W => hdRight t W)
  rw [h] at hR
  obtain ⟨tc, tn, tm⟩ := t
  unfold Tg.v at *
  go_enter Try.func84, Try.ntmps84
  go_wp2_with fail
  refine (hR.out _).mono ?_
  rintro e w1 ⟨rfl, hB⟩
  have hB1 : Below w.heap.size w w1 := (below_alloc1 _ _).trans (Below.mono hB (by simp))
  clear hB
  go_wp2
  go_ret2
  exact ⟨rfl, hB1⟩

set_option maxHeartbeats 3200000 in
theorem hdBytes_false (tc tn : Int) (w : World) (c0 : 0 ≤ tc) (c1 : tc < 4) (n0 : 0 ≤ tn) (n1 : tn < 2097152) :
    Calls Try.prog 84 #[.agg #[.int .i64 tc, .int .i64 tn, .bool false]] w (NewBs2 w (tagB ⟨tc, tn, false⟩)) := by
  have hR := Lib.hid (fun W => hdRight ⟨tc, tn, false⟩ W)
  rw [(Tg.rightB_iff _).2 ⟨c0, c1, n0, n1⟩] at hR
  unfold Tg.v at hR
  have o1 := Own3.new w (.int .i64 tc) (.int .i64 tn) (.bool false) 36
  go_enter Try.func84, Try.ntmps84
  go_wp2_with fail
  refine (hR.out _).mono ?_
  rintro e w1 ⟨rfl, hB⟩
  have hB1 : Below w.heap.size w w1 := (below_alloc1 _ _).trans (Below.mono hB (by simp))
  obtain ⟨r0, r1, r2, _, _, _⟩ := o1.below hB
  clear hB o1 hR
  by_cases h2 : tn < 31
  · have hT : Hid (tagB ⟨tc, tn, false⟩ = [u8 (64 * tc + tn)]) := by unfold Hid; rw [tagB0 tc tn false h2]; simp
    have hob := Ob.lit w1 w.heap.size 5 [u8 (64 * tc + tn)] #[.int .u8 (64 * tc + tn)] hB1.size (by simp [byteV_u8 (64 * tc + tn) (by omega) (by omega)]) (by simp)
    go_wp2
    go_ret2
    rw [hT.out]
    exact ⟨_, _, _, rfl, hob, hB1.alloc hB1.size _⟩
  · have hT : Hid (tagB ⟨tc, tn, false⟩ = u8 (64 * tc + 31) :: mkL (digL 128 2 tn) ((digL 128 2 tn).length - 1)) := by unfold Hid; rw [tagB_digL tc tn false (by omega) n1]; simp
    have hpw : tn < 128 ^ (2 + 1) := by omega
    have HP := Lib.hid hpw
    clear hpw
    go_wp2_with fail
    refine (hdSpell 128 (.inl rfl) 2 tn _ n0 HP.out (by omega) (by omega)).mono ?_
    rintro e w2 ⟨A, m, c, rfl, hob, hB⟩
    have hB2 : Below w.heap.size w w2 := hB1.trans (Below.mono hB hB1.size)
    have hob := hob.mono (base' := w.heap.size) hB1.size
    have hlt := fun k hk => digL_nth (f := 2) (n := tn) (k := k) hk
    have hle := digL_len 128 2 tn
    have hpos := digL_pos 128 2 tn
    clear hB r0 r1 r2 hB1 HP
    generalize digL 128 2 tn = D at *
    obtain ⟨g, c', hv, hmc, hBg⟩ := hob.row hpos
    cases hv
    have HLT := Lib.hid hlt
    clear hlt
    generalize hM : D.length = M at *
    have HM := Lib.hid hM
    clear hM
    go_wp2
    go_loopw [32] (fun i wr => ∃ k : Nat, i = .int .i64 (k : Int) ∧ k ≤ M - 1 ∧ Ob wr w.heap.size 5 (.slice (some ⟨g, 0, none⟩) M c) (mkL D k) ∧ Below w.heap.size w wr) (fun i _ => M - (intOf i).toNat)
    case atStart => exact ⟨0, rfl, by omega, by simpa [mkL] using hob, hB2⟩
    case round =>
      obtain ⟨k, rfl, hk, hob, hbel⟩ := hrel
      clear hB2
      by_cases hlt : k < M - 1
      · obtain ⟨hbs, hmc'⟩ := hob.bs
        obtain ⟨b', o', hbo, hcell⟩ := hbs.at_ (k := k) (by omega)
        cases hbo
        have hnk : Hid (nth (mkL D k) k = nth D k) := mkL_at (by have := HM.out; omega)
        rw [hnk.out, Nat.zero_add] at hcell
        have hfr : wr.frozen? ⟨g, k, none⟩ = false := World.ownsRow.frozenAt (by have h9 := hob; unfold Ob at h9; rw [mkL_len, HM.out] at h9; exact h9) k
        have hbd := nth_bound D k
        have hb2 : nth D k < 128 := HLT.out k (by have := HM.out; omega)
        have i1 : (k : Int) < M - 1 := by omega
        have i2 : (k : Int) < M := by omega
        have hst := hob.store (by rw [mkL_len, HM.out]) k (D.getD k 0 + 128)
        rw [mkL_set (by have := HM.out; omega)] at hst
        have hval : byteV (D.getD k 0 + 128) = .int .u8 (nth D k + 128) := by
          unfold byteV nth
          have hx : ((D.getD k 0).toNat : Int) < 128 := hb2
          rw [UInt8.toNat_add]
          have e : (128 : UInt8).toNat = 128 := rfl
          rw [e]
          congr 1
          omega
        rw [hval] at hst
        have hbel2 := Only.below hst.2 hbel hBg hbel.size
        have HST := Lib.hid hst
        clear hst hval
        go_wp2
        go_roundw
        case rel => exact ⟨k + 1, by go_num, by omega, HST.out.1, hbel2⟩
        case measure => simp [intOf]; omega
      · obtain rfl : k = M - 1 := by omega
        have i1 : ¬ ((M - 1 : Nat) : Int) < (M : Int) - 1 := by omega
        have hBss := Bss.new2 41 (Bs.new1 wr (u8 (64 * tc + 31)) (64 * tc + 31) 5 (u8_val _ (by omega) (by omega))) (hob.bs.1.below (below_alloc1 wr (Obj.cells #[Value.int IntKind.u8 (64 * tc + 31)] 5))) (c1 := 1) (Nat.le_refl _) hob.bs.2 (m := wr.heap.size + 1) (by simp)
        have hml : (mkL D (M - 1)).length = M := by rw [mkL_len, HM.out]
        have HML := Lib.hid hml
        clear hml
        have HK : Hid (((M - 1 : Nat) : Int) = (M : Int) - 1) := by unfold Hid; omega
        go_wp2_with fail
        refine (octJoin _ _ _ _ _ hBss (by omega) (by simp [HML.out]; omega)).mono ?_
        rintro e w3 ⟨A2, m2, c2, rfl, hob2, hB3⟩
        have hB4 : Below w.heap.size w w3 := ((hbel.alloc hbel.size _).alloc (by have := hbel.size; simp; omega) _).trans (Below.mono hB3 (by have := hbel.size; simp; omega))
        have hob3 := hob2.mono (base' := w.heap.size) (by have := hbel.size; simp; omega)
        clear hob2 hB3 hBss hob hbel
        go_wp2
        go_ret2
        rw [hT.out]
        exact ⟨A2, m2, c2, rfl, by simpa using hob3, hB4⟩

set_option maxHeartbeats 3200000 in
theorem hdBytes_true (tc tn : Int) (w : World) (c0 : 0 ≤ tc) (c1 : tc < 4) (n0 : 0 ≤ tn) (n1 : tn < 2097152) :
    Calls Try.prog 84 #[.agg #[.int .i64 tc, .int .i64 tn, .bool true]] w (NewBs2 w (tagB ⟨tc, tn, true⟩)) := by
  have hR := Lib.hid (fun W => hdRight ⟨tc, tn, true⟩ W)
  rw [(Tg.rightB_iff _).2 ⟨c0, c1, n0, n1⟩] at hR
  unfold Tg.v at hR
  have o1 := Own3.new w (.int .i64 tc) (.int .i64 tn) (.bool true) 36
  go_enter Try.func84, Try.ntmps84
  go_wp2_with fail
  refine (hR.out _).mono ?_
  rintro e w1 ⟨rfl, hB⟩
  have hB1 : Below w.heap.size w w1 := (below_alloc1 _ _).trans (Below.mono hB (by simp))
  obtain ⟨r0, r1, r2, _, _, _⟩ := o1.below hB
  clear hB o1 hR
  by_cases h2 : tn < 31
  · have hT : Hid (tagB ⟨tc, tn, true⟩ = [u8 (64 * tc + 32 + tn)]) := by unfold Hid; rw [tagB0 tc tn true h2]; simp
    have hob := Ob.lit w1 w.heap.size 5 [u8 (64 * tc + 32 + tn)] #[.int .u8 (64 * tc + 32 + tn)] hB1.size (by simp [byteV_u8 (64 * tc + 32 + tn) (by omega) (by omega)]) (by simp)
    go_wp2
    go_ret2
    rw [hT.out]
    exact ⟨_, _, _, rfl, hob, hB1.alloc hB1.size _⟩
  · have hT : Hid (tagB ⟨tc, tn, true⟩ = u8 (64 * tc + 32 + 31) :: mkL (digL 128 2 tn) ((digL 128 2 tn).length - 1)) := by unfold Hid; rw [tagB_digL tc tn true (by omega) n1]; simp
    have hpw : tn < 128 ^ (2 + 1) := by omega
    have HP := Lib.hid hpw
    clear hpw
    go_wp2_with fail
    refine (hdSpell 128 (.inl rfl) 2 tn _ n0 HP.out (by omega) (by omega)).mono ?_
    rintro e w2 ⟨A, m, c, rfl, hob, hB⟩
    have hB2 : Below w.heap.size w w2 := hB1.trans (Below.mono hB hB1.size)
    have hob := hob.mono (base' := w.heap.size) hB1.size
    have hlt := fun k hk => digL_nth (f := 2) (n := tn) (k := k) hk
    have hle := digL_len 128 2 tn
    have hpos := digL_pos 128 2 tn
    clear hB r0 r1 r2 hB1 HP
    generalize digL 128 2 tn = D at *
    obtain ⟨g, c', hv, hmc, hBg⟩ := hob.row hpos
    cases hv
    have HLT := Lib.hid hlt
    clear hlt
    generalize hM : D.length = M at *
    have HM := Lib.hid hM
    clear hM
    go_wp2
    go_loopw [32] (fun i wr => ∃ k : Nat, i = .int .i64 (k : Int) ∧ k ≤ M - 1 ∧ Ob wr w.heap.size 5 (.slice (some ⟨g, 0, none⟩) M c) (mkL D k) ∧ Below w.heap.size w wr) (fun i _ => M - (intOf i).toNat)
    case atStart => exact ⟨0, rfl, by omega, by simpa [mkL] using hob, hB2⟩
    case round =>
      obtain ⟨k, rfl, hk, hob, hbel⟩ := hrel
      clear hB2
      by_cases hlt : k < M - 1
      · obtain ⟨hbs, hmc'⟩ := hob.bs
        obtain ⟨b', o', hbo, hcell⟩ := hbs.at_ (k := k) (by omega)
        cases hbo
        have hnk : Hid (nth (mkL D k) k = nth D k) := mkL_at (by have := HM.out; omega)
        rw [hnk.out, Nat.zero_add] at hcell
        have hfr : wr.frozen? ⟨g, k, none⟩ = false := World.ownsRow.frozenAt (by have h9 := hob; unfold Ob at h9; rw [mkL_len, HM.out] at h9; exact h9) k
        have hbd := nth_bound D k
        have hb2 : nth D k < 128 := HLT.out k (by have := HM.out; omega)
        have i1 : (k : Int) < M - 1 := by omega
        have i2 : (k : Int) < M := by omega
        have hst := hob.store (by rw [mkL_len, HM.out]) k (D.getD k 0 + 128)
        rw [mkL_set (by have := HM.out; omega)] at hst
        have hval : byteV (D.getD k 0 + 128) = .int .u8 (nth D k + 128) := by
          unfold byteV nth
          have hx : ((D.getD k 0).toNat : Int) < 128 := hb2
          rw [UInt8.toNat_add]
          have e : (128 : UInt8).toNat = 128 := rfl
          rw [e]
          congr 1
          omega
        rw [hval] at hst
        have hbel2 := Only.below hst.2 hbel hBg hbel.size
        have HST := Lib.hid hst
        clear hst hval
        go_wp2
        go_roundw
        case rel => exact ⟨k + 1, by go_num, by omega, HST.out.1, hbel2⟩
        case measure => simp [intOf]; omega
      · obtain rfl : k = M - 1 := by omega
        have i1 : ¬ ((M - 1 : Nat) : Int) < (M : Int) - 1 := by omega
        have hBss := Bss.new2 41 (Bs.new1 wr (u8 (64 * tc + 32 + 31)) (64 * tc + 32 + 31) 5 (u8_val _ (by omega) (by omega))) (hob.bs.1.below (below_alloc1 wr (Obj.cells #[Value.int IntKind.u8 (64 * tc + 32 + 31)] 5))) (c1 := 1) (Nat.le_refl _) hob.bs.2 (m := wr.heap.size + 1) (by simp)
        have hml : (mkL D (M - 1)).length = M := by rw [mkL_len, HM.out]
        have HML := Lib.hid hml
        clear hml
        have HK : Hid (((M - 1 : Nat) : Int) = (M : Int) - 1) := by unfold Hid; omega
        go_wp2_with fail
        refine (octJoin _ _ _ _ _ hBss (by omega) (by simp [HML.out]; omega)).mono ?_
        rintro e w3 ⟨A2, m2, c2, rfl, hob2, hB3⟩
        have hB4 : Below w.heap.size w w3 := ((hbel.alloc hbel.size _).alloc (by have := hbel.size; simp; omega) _).trans (Below.mono hB3 (by have := hbel.size; simp; omega))
        have hob3 := hob2.mono (base' := w.heap.size) (by have := hbel.size; simp; omega)
        clear hob2 hB3 hBss hob hbel
        go_wp2
        go_ret2
        rw [hT.out]
        exact ⟨A2, m2, c2, rfl, by simpa using hob3, hB4⟩

theorem hdBytes (t : Tg) (w : World) (h : t.right) : Calls Try.prog 84 #[t.v] w (NewBs2 w (tagB t)) := by
  obtain ⟨c0, c1, n0, n1⟩ := h
  obtain ⟨tc, tn, tm⟩ := t
  cases tm
  · exact hdBytes_false tc tn w c0 c1 n0 n1
  · exact hdBytes_true tc tn w c0 c1 n0 n1

end Go.Proofs.Ytbhfaakhcnkegaa
