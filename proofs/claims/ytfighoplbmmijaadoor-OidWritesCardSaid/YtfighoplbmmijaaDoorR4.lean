/-
  The contracts of layer 4's reference: contents, wholes and texts of oids; the project's Must.
-/
import Derived.Test.YtfighoplbmmijaaDoorRw
import Derived.Test.YtfighoplbmmijaaDoorR3c
import Derived.Test.YtfighoplbmmijaaDoorOf
import Derived.Deep.RegionWith
import Derived.IntWalk
import Derived.Deep.Cut
import Derived.Deep.CutRange
import Derived.Deep.DeepCutAuto
namespace Go.Proofs.YtfighoplbmmijaaDoor
open Go.RowKit Go.Joins
set_option linter.unusedVariables false
set_option linter.unusedSimpArgs false
set_option maxRecDepth 4000

theorem spl_mark (k : Nat) : (spl k 0).set ((spl k 0).length - 1) (UInt8.ofNat (k % 128 + 128)) = spl k 128 := by
  have e : ∀ m, spl k m = (if h : 128 ≤ k then spl (k / 128) 128 else []) ++ [UInt8.ofNat (k % 128 + m)] := fun m => by rw [spl]
  rw [e 0, e 128]
  generalize (if h : 128 ≤ k then spl (k / 128) 128 else []) = X
  simp [List.set_append]
theorem spl_last (k : Nat) : nth (spl k 0) ((spl k 0).length - 1) = ((k % 128 : Nat) : Int) := by
  rw [spl]
  generalize (if h : 128 ≤ k then spl (k / 128) 128 else []) = X
  unfold nth
  rw [List.getD, List.length_append, List.getElem?_append_right (by simp)]
  simp
  omega

set_option maxHeartbeats 1600000 in
theorem ref4Digits : ∀ (n : Nat) (x : Int) (w : World), x = (n : Int) → n ≤ 2147483647 →
    Calls Tryd.prog 36 #[.int .i64 x] w (NewBs w (spl n 0)) := by
  obtain ⟨i0, hi, hz0, hz1, hz2⟩ := info_parts u8_info
  intro n
  induction n using Nat.strongRecOn with
  | ind n ih =>
    intro x w hx hn
    have HX := Lib.hid hx
    have x0 : 0 ≤ x := by omega
    have x1 : x ≤ 2147483647 := by omega
    clear hx
    by_cases hge : 128 ≤ n
    · have hge' : ¬ x < 128 := by have := HX.out; omega
      have IH := ih (n / 128) (by omega) (x / 128) w (by have := HX.out; omega) (by omega)
      have hsp := Lib.hid (spl_big (m := 0) hge)
      have hmark := Lib.hid (spl_mark (n / 128))
      have hlast := Lib.hid (spl_last (n / 128))
      have hlen : (spl (n / 128) 0).length ≤ 5 := spl_len5 _ _ (by omega)
      have hpos := spl_pos (n / 128) 0
      obtain ⟨y, hy, hyv⟩ : ∃ y : UInt8, y = UInt8.ofNat (n % 128 + 0) ∧ x % 128 = (y.toNat : Int) := ⟨_, rfl, by rw [u8n _ (by omega)]; have := HX.out; omega⟩
      rw [← hy] at hsp
      have HY := Lib.hid hyv
      have hm0 : 0 ≤ x % 128 ∧ x % 128 < 256 := by omega
      clear ih hy hyv
      go_enter Tryd.func36, Tryd.ntmps36
      go_wp2_with fail
      refine IH.mono ?_
      rintro e w1 ⟨A1, m1, c1, rfl, hob, hB1⟩
      clear IH
      generalize spl (n / 128) 0 = f at *
      obtain ⟨g, c', hv, hmc, hBg⟩ := hob.row hpos
      cases hv
      have hck := hob.bs.1.at_ (k := f.length - 1) (by omega)
      obtain ⟨b', o', e', cl⟩ := hck
      cases e'
      rw [hlast.out, Nat.zero_add] at cl
      have fl := World.ownsRow.frozenAt hob (f.length - 1)
      have hst := hob.store rfl (f.length - 1) (UInt8.ofNat (n / 128 % 128 + 128))
      rw [hmark.out] at hst
      have hidx : (f.length : Int) - 1 = ((f.length - 1 : Nat) : Int) := by omega
      have hbv : Hid (Value.int .u8 (((n / 128 % 128 : Nat) : Int) + 128) = byteV (UInt8.ofNat (n / 128 % 128 + 128))) := by
        unfold Hid byteV; rw [u8n _ (by omega)]; congr 1
      have hd1 : f.length - 1 < f.length := by omega
      have hq := Nat.mod_lt (n / 128) (show 128 > 0 by omega)
      generalize (n / 128 % 128) = qd at *
      have HQ := Lib.hid hq
      have hqb : (qd : Int) + 128 < 256 := by omega
      clear hlast
      generalize hfl : f.length - 1 = fl1 at *
      have HFL := Lib.hid hfl
      clear hfl hq
      rw [← hbv.out] at hst
      obtain ⟨hst1, hst2⟩ := hst
      have hB2 : Below w.heap.size w (w1.setCell ⟨g, fl1, none⟩ (.int .u8 ((qd : Int) + 128))) := Only.below hst2 hB1 hBg hB1.size
      have hlsp : Hid ((spl (n / 128) 128).length = f.length) := by unfold Hid; rw [← hmark.out]; simp
      go_upto_region 5 with (fail)
      generalize (w1.setCell ⟨g, fl1, none⟩ (.int .u8 ((qd : Int) + 128))) = W2 at *
      clear fl cl hob
      go_wp2_with (at_builtin; (refine wpList_appendB rfl _ _ 24 rfl w.heap.size 5 i0 (.int .u8 0) Tryd.underlying24 hi hz0 hz1 hz2 rfl _ (spl (n / 128) 128) rfl (hst1.alloc _) _ _ _ [y] rfl (Bs.new1 _ y _ 5 HY.out) (by have := hlsp.out; simp; omega) (by have := hB2.size; simp; omega) ?_))
      intro v' w9 hob9 hg9 _ _
      have hbel := (hst1.alloc _).grew (hB2.alloc hB2.size _) (Nat.le_refl _) hg9
      obtain ⟨A9, c9, rfl, _, _⟩ := hob9.slice
      go_wp2
      go_ret
      rw [hsp.out]
      exact ⟨_, _, _, rfl, hob9, hbel⟩
    · have hge' : x < 128 := by have := HX.out; omega
      have ho := Ob.one w w.heap.size 5 (UInt8.ofNat (n + 0)) x (Nat.le_refl _) (by rw [u8n _ (by omega)]; have := HX.out; omega)
      have hF := Lib.hid (spl_small (n := n) (m := 0) (by omega))
      go_enter Tryd.func36, Tryd.ntmps36
      go_wp2
      go_ret
      rw [hF.out]
      exact ⟨_, _, _, rfl, ho, below_alloc1 _ _⟩

theorem arcs_len {l : List Int} (h : RightO l) (k : Nat) : (arcO (40 * zth l 0 + zth l 1) ++ ((l.drop 2).take k).flatMap arcO).length ≤ 165 := by
  have h1 := contO_len h
  unfold contO at h1
  rw [List.length_append] at h1 ⊢
  have key : ∀ (r : List Int) (k : Nat), ((r.take k).flatMap arcO).length ≤ (r.flatMap arcO).length := by
    intro r
    induction r with
    | nil => intro k; simp
    | cons x r ih =>
      intro k
      cases k with
      | zero => simp
      | succ k => have := ih k; rw [List.take_succ_cons, List.flatMap_cons, List.flatMap_cons, List.length_append, List.length_append]; omega
  have := key (l.drop 2) k
  omega

set_option maxHeartbeats 1600000 in
theorem ref4Contents (A : Option Addr) (n c : Nat) (l : List Int) (w : World) (h : Zs w A n l) (hr : RightO l) :
    Calls Tryd.prog 17 #[.slice A n c] w (NewBs w (contO l)) := by
  obtain ⟨i0, hi, hz0, hz1, hz2⟩ := info_parts u8_info
  have hl := Lib.hid h.len
  have h2 : 2 ≤ n := by have := hr.two; have := hl.out; omega
  have h32 : n ≤ 32 := by have := hr.max; have := hl.out; omega
  have ZS : Hid (∀ W, Below w.heap.size w W → Zs W A n l) := fun W hW => h.below hW
  have f0 := hr.first
  have a0 := hr.at_ 0
  have a1 := hr.at_ 1
  have a2 := hr.top
  have e0 : ¬ (n : Int) < 2 := by omega
  have w40 : IntKind.i64.wrap (40 * zth l 0) = 40 * zth l 0 := IntWalk.i64_in _ (by omega)
  have w41 : IntKind.i64.wrap (40 * zth l 0 + zth l 1) = 40 * zth l 0 + zth l 1 := IntWalk.i64_in _ (by omega)
  have LEN : Hid (∀ k, 0 ≤ zth l k ∧ zth l k ≤ 2147483647) := hr.at_
  have BND := Lib.hid (arcs_len hr)
  have FIN : Hid (arcO (40 * zth l 0 + zth l 1) ++ ((l.drop 2).take (n - 2)).flatMap arcO = contO l) := by
    unfold Hid contO; rw [List.take_of_length_le (by have := hl.out; simp; omega)]
  have STEP : Hid (∀ k, k + 2 < n → (arcO (40 * zth l 0 + zth l 1) ++ ((l.drop 2).take k).flatMap arcO) ++ spl (zth l (k + 2)).toNat 0 = arcO (40 * zth l 0 + zth l 1) ++ ((l.drop 2).take (k + 1)).flatMap arcO) := by
    intro k hk
    have hkl : k < (l.drop 2).length := by have := hl.out; simp; omega
    rw [List.take_succ_eq_append_getElem hkl, List.flatMap_append, ← List.append_assoc]
    congr 1
    simp [arcO, zth, List.getD, List.getElem?_eq_getElem (show k + 2 < l.length by have := hl.out; omega), Nat.add_comm]
  obtain ⟨b, o, rfl, c0⟩ := h.at_ (k := 0) (by omega)
  obtain ⟨b', o', e, c1⟩ := h.at_ (k := 1) (by omega)
  cases e
  rw [Nat.add_zero] at c0
  have i0' : 0 < n := by omega
  have i1 : 1 < n := by omega
  have j1 : (1 : Int) < (n : Int) := by omega
  have DG : Hid (∀ W, Calls Tryd.prog 36 #[.int .i64 (40 * zth l 0 + zth l 1)] W (NewBs W (arcO (40 * zth l 0 + zth l 1)))) := fun W => ref4Digits (40 * zth l 0 + zth l 1).toNat _ W (by omega) (by omega)
  go_enter Tryd.func17, Tryd.ntmps17
  go_wp2
  go_cut [3] from 5 (fun v wc => Ob wc w.heap.size 5 v (arcO (40 * zth l 0 + zth l 1)) ∧ Below w.heap.size w wc)
  case first =>
    go_region_with (first | (go_at_call 36; refine (DG.out _).mono ?_; rintro e w1 ⟨A1, m1, c1, rfl, hob1, hB1⟩))
    all_goals
      go_wp2_with fail
      go_meet
      exact ⟨hob1, (Below.refl w.heap.size w).drew.trans hB1⟩
  case rest =>
  obtain ⟨hob0, hB0⟩ := hcut
  clear DG w40 w41 c0 c1 f0 a0 a1 a2
  go_wp2
  go_loopw [3, 4] (fun v i wr => ∃ k : Nat, k + 2 ≤ n ∧ i = .int .i64 ((k + 2 : Nat) : Int) ∧ Ob wr w.heap.size 5 v (arcO (40 * zth l 0 + zth l 1) ++ ((l.drop 2).take k).flatMap arcO) ∧ Below w.heap.size w wr) (fun _ i _ => n - (intOf i).toNat)
  case atStart => exact ⟨0, h2, rfl, by simpa using hob0, hB0⟩
  case round =>
    obtain ⟨k, hk, rfl, hob, hB⟩ := hrel
    clear hob0 hB0
    have hbd := BND.out k
    by_cases hlt : k + 2 < n
    · obtain ⟨b', o', e, cz⟩ := (ZS.out wr hB).at_ (k := k + 2) hlt
      cases e
      have hz := LEN.out (k + 2)
      have hst := Lib.hid (STEP.out k hlt)
      generalize zth l (k + 2) = z at *
      generalize (arcO (40 * zth l 0 + zth l 1) ++ ((l.drop 2).take k).flatMap arcO) = pre at *
      generalize hk2 : k + 2 = k2 at *
      have HK := Lib.hid hk2
      clear hk2
      have e1 : (k2 : Int) < n := by omega
      have DG2 := ref4Digits z.toNat z wr (by omega) (by omega)
      obtain ⟨A1, c1, rfl, hc1, hbs1⟩ := hob.slice
      generalize hpn : pre.length = pn at *
      have HPN := Lib.hid hpn
      clear hpn
      go_wp2_with fail
      refine DG2.mono ?_
      rintro e w2 ⟨A2, m2, c2, rfl, hob2, hB2⟩
      have hob' := hob.below hB2
      have hB3 : Below w.heap.size w w2 := hB.trans (Below.mono hB2 hB.size)
      have h5 := spl_len5 z.toNat 0 (by omega)
      have hm2 := hob2.bs.1.len
      go_wp2_with (at_builtin; (refine wpList_appendB rfl _ _ 24 rfl w.heap.size 5 i0 (.int .u8 0) Tryd.underlying24 hi hz0 hz1 hz2 rfl _ pre rfl hob' _ _ _ (spl z.toNat 0) rfl hob2.bs.1 (by have := HPN.out; omega) (by have := hB3.size; omega) ?_))
      intro v' w9 hob9 hg9 _ _
      have hbel := hob'.grew hB3 (Nat.le_refl _) hg9
      rw [hst.out] at hob9
      go_wp2
      refine ⟨⟨k + 1, by have := HK.out; omega, ?_, hob9, hbel⟩, by simp [intOf]; omega⟩
      have := HK.out
      congr 1
      omega
    · have hk2 : k = n - 2 := by omega
      have hF := FIN.out
      rw [← hk2] at hF
      have HF := Lib.hid hF; clear hF
      have e1 : ¬ ((k + 2 : Nat) : Int) < n := by omega
      generalize (arcO (40 * zth l 0 + zth l 1) ++ ((l.drop 2).take k).flatMap arcO) = pre at *
      obtain ⟨A1, c1, rfl, hc1, hbs1⟩ := hob.slice
      generalize hpn : pre.length = pn at *
      clear hpn hk2
      generalize k + 2 = k2 at *
      go_wp2
      go_ret
      rw [← HF.out]
      exact ⟨_, _, _, rfl, hob, hB⟩

theorem ref2Of6 (w : World) : Calls Tryd.prog 38 #[.int .i64 6] w fun e w' => e = .returned tgO.v ∧ Below w.heap.size w w' := refOf 6 w

set_option maxHeartbeats 1600000 in
theorem ref4Whole (A : Option Addr) (n c : Nat) (l : List Int) (w : World) (h : Zs w A n l) (hr : RightO l) :
    Calls Tryd.prog 18 #[.slice A n c] w (NewBs w (wrapB tgO (contO l))) := by
  have hlen := contO_len hr
  go_enter Tryd.func18, Tryd.ntmps18
  go_wp2_with fail
  refine (ref2Of6 w).mono ?_
  rintro e w1 ⟨rfl, hB1⟩
  go_wp2_with fail
  refine (ref4Contents A n c l w1 (h.below hB1) hr).mono ?_
  rintro e w2 ⟨A2, m2, c2, rfl, hob2, hB2⟩
  have q2 : Below w.heap.size w w2 := hB1.trans (Below.mono hB2 hB1.size)
  have hm2 := hob2.bs.1.len
  have RW := refWrap tgO A2 m2 c2 (contO l) w2 tgO_right hob2.bs.1 (by omega)
  go_wp2_with fail
  refine RW.mono ?_
  rintro e w3 ⟨A3, m3, c3, rfl, hob3, hB3⟩
  go_wp2
  go_ret
  exact ⟨_, _, _, rfl, hob3.mono q2.size, q2.trans (Below.mono hB3 q2.size)⟩

theorem oidMustNo (A : Option Addr) (n c : Nat) (l : List Int) (w : World) (h : Zs w A n l) (hn : n ≤ 1099511627776) (hr : rightO l = false) :
    Calls Tryd.prog 11 #[.slice A n c] w fun e w' => e = .returned (.slice none 0 0) ∧ Below w.heap.size w w' := by
  go_enter Tryd.func11, Tryd.ntmps11
  go_wp2_with fail
  refine (oidWriteNo A n c l w h hn hr).mono ?_
  rintro e w1 ⟨rfl, hB⟩
  go_wp2
  go_ret
  exact ⟨rfl, hB⟩
theorem oidMust (A : Option Addr) (n c : Nat) (l : List Int) (w : World) (h : Zs w A n l) (hc : n ≤ c) (hn : n ≤ 1099511627776) (hr : RightO l) :
    Calls Tryd.prog 11 #[.slice A n c] w (NewBs w (wrapB tgO (contO l))) := by
  go_enter Tryd.func11, Tryd.ntmps11
  go_wp2_with fail
  refine (oidWriteW A n c l w h hc hn hr).mono ?_
  rintro e w1 ⟨A1, m1, c1, rfl, hob, hB⟩
  go_wp2
  go_ret
  exact ⟨_, _, _, rfl, hob, hB⟩
end Go.Proofs.YtfighoplbmmijaaDoor
