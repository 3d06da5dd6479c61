/-
  DeleteFunc and SortFunc of the library at spans.
-/
import Derived.Test.YtlmmoinmlcpmnaaSf
namespace Go.Proofs.Ytlmmoinmlcpmnaa
open Go.RowKit
open Go.Sort (SWO PermIn SortedIn)
set_option linter.unusedVariables false
set_option linter.unusedSimpArgs false
set_option maxRecDepth 4000

theorem enters20 : ∀ args w, (callFunc 20 args).run Try.prog w = .ok (.enter 20 args) w := enters_of Try.func20 (by kernel_rfl) rfl
theorem predEmpty (w : World) : PredBelow Try.prog 20 #[] (fun x => .agg (spC x).toArray) (fun x : Sp => decide (x.2 < x.1)) w := fun W x hb =>
  (spEmpty x.1 x.2 W).mono fun e w' ⟨he, hw⟩ => ⟨he, bstep hb hw hb.size⟩

set_option maxHeartbeats 800000 in
theorem idx0 (A : Option Addr) (c : Nat) (fv : Value) (w : World) :
    Calls Try.prog 61 #[.slice A 0 c, fv] w fun e w' => e = .returned (.int .i64 (-1)) ∧ w' = w := by
  go_enter Try.func61, Try.ntmps61
  go_wp2
  go_loopw [8] (fun i wr => i = .int .i64 0 ∧ wr = w) (fun _ _ => 0)
  case atStart => exact ⟨rfl, rfl⟩
  case round =>
    obtain ⟨rfl, rfl⟩ := hrel
    go_wp2
    go_ret
    exact ⟨rfl, rfl⟩

/-- Where the first empty one is. -/
theorem spIndex (g c : Nat) (B : Nat) (l : List Sp) (w : World) (h : Ow w B (.slice (some ⟨g, 0, none⟩) l.length c) l) (hn : l.length ≤ 1099511627776) (hg : g < w.heap.size) :
    Calls Try.prog 61 #[.slice (some ⟨g, 0, none⟩) l.length c, .func (.func 20) #[] #[]] w fun e w' =>
      ((e = .returned (.int .i64 (-1)) ∧ nonE l = l) ∨ (∃ k : Nat, e = .returned (.int .i64 (k : Int)) ∧ DInv l k (k + 1) l)) ∧ Below w.heap.size w w' := by
  have hI := Try.indexK_all (α := Sp) spC (fun _ => rfl) (fun x : Sp => decide (x.2 < x.1)) 20 #[] enters20 g 0 l.length c l w (predEmpty w) (Nat.le_refl _) (by omega) hg
    (fun j hj i v hi => by
      have hx : l[j]? = some ((l[j]!).1, (l[j]!).2) := by rw [getElem!_pos l j hj]; exact List.getElem?_eq_getElem hj
      obtain ⟨⟨k0, k1⟩, _⟩ := h.cells j _ _ hx
      rw [Nat.zero_add]
      clear hx
      generalize l[j]! = z at hi k0 k1
      match i, hi with
      | 0, hi => simp [spC] at hi; rw [← hi]; exact k0
      | 1, hi => simp [spC] at hi; rw [← hi]; exact k1
      | i + 2, hi => simp [spC] at hi)
  refine hI.mono ?_
  rintro e w' ⟨rfl, hb⟩
  refine ⟨?_, hb⟩
  rw [List.take_length]
  have at_ : ∀ (j : Nat) (y : Sp), l[j]? = some y → l[j]! = y := fun j y hy => by
    obtain ⟨h1, h2⟩ := List.getElem?_eq_some_iff.1 hy
    rw [getElem!_pos l j h1]; exact h2
  rcases idxByFrom_spec (fun _ (y : Sp) => decide (y.2 < y.1)) default l 0 with ⟨e1, hall⟩ | ⟨k0, hk0, e1, ht, hall⟩
  · left
    refine ⟨?_, ?_⟩
    · show Ending.returned (.int .i64 (Lib.idxByFrom _ _ l 0)) = _
      rw [e1]
    · show l.filter ne1 = l
      rw [List.filter_eq_self]
      intro y hy
      obtain ⟨j, hj, e⟩ := List.mem_iff_getElem.1 hy
      have h1 := hall j hj
      rw [getElem!_pos l j hj, e] at h1
      unfold ne1; rw [h1]; rfl
  · right
    refine ⟨k0, ?_, ?_⟩
    · show Ending.returned (.int .i64 (Lib.idxByFrom _ _ l 0)) = _
      rw [e1]; simp
    · refine DInv.start (x := l[k0]!) (by rw [getElem!_pos l k0 hk0]; exact List.getElem?_eq_getElem hk0) (by unfold ne1; rw [ht]; rfl) ?_
      intro j y hj hy
      have h1 := hall j hj
      rw [at_ j y hy] at h1
      unfold ne1; rw [h1]; rfl

/-- A block of two cells is no row of spans' first cell: it is another block. -/
theorem Ow.late {w W : World} {B : Nat} {v : Value} {l : List Sp} (h : Ow w B v l) (hb : Below w.heap.size w W) : Ow W B v l := h.below hb

set_option maxHeartbeats 3200000 in
theorem spDelete (v : Value) (l : List Sp) (w0 w : World) (h : Ow w w0.heap.size v l) (hb0 : Below w0.heap.size w0 w) (hn : l.length ≤ 1099511627776) :
    Calls Try.prog 48 #[v, .func (.func 20) #[] #[]] w fun e w' => ∃ v', e = .returned v' ∧ Ow w' w0.heap.size v' (nonE l) ∧ Below w0.heap.size w0 w' := by
  rcases h.form with ⟨rfl, rfl⟩ | ⟨g, c, rfl, hle, hB, hg⟩
  · go_enter Try.func48, Try.ntmps48
    go_wp2_with fail
    refine (idx0 _ _ _ _).mono ?_
    rintro e w1 ⟨rfl, rfl⟩
    go_wp2
    go_ret
    exact ⟨_, rfl, h, hb0⟩
  · have HI := Lib.hid (spIndex g c _ l w h hn hg)
    have HO := Lib.hid h
    have HB0 := Lib.hid hb0
    have HE := Lib.hid (fun x y W => spEmpty x y W)
    have HGE := Lib.hid hB
    have hcx : l.length ≤ c := hle
    obtain ⟨n, hnl⟩ : ∃ n, l.length = n := ⟨_, rfl⟩
    have HNL := Lib.hid hnl
    rw [hnl] at HI HO hn hle hcx ⊢
    clear h hb0 hB hnl hle
    go_enter Try.func48, Try.ntmps48
    go_wp2_with fail
    refine HI.out.mono ?_
    rintro e w1 ⟨hcase, hb⟩
    have HO1 := Lib.hid (HO.out.below hb)
    have HB1 := Lib.hid (bstep HB0.out hb HB0.out.size)
    clear hb HI HO
    rcases hcase with ⟨rfl, hne⟩ | ⟨k, rfl, hD⟩
    · have HN := Lib.hid hne
      clear hne
      go_wp2
      go_ret
      exact ⟨_, rfl, by rw [HN.out]; exact HO1.out, HB1.out⟩
    · have HD := Lib.hid hD
      have hk : k < n := by have := hD.le; have := HNL.out; omega
      clear hD
      go_wp2
      go_loopw [5, 6, 7] (fun s5 s6 _ wr => ∃ (i j : Nat) (ds : List Sp), s5 = .int .i64 (i : Int) ∧ s6 = .int .i64 (j : Int) ∧ DInv l i j ds ∧ Ow wr w0.heap.size (.slice (some ⟨g, 0, none⟩) n c) ds ∧ Below w0.heap.size w0 wr) (fun _ s6 _ _ => n - (intOf s6).toNat)
      case atStart => exact ⟨k, k + 1, l, rfl, by go_num, HD.out, HO1.out, HB1.out⟩
      case round =>
        obtain ⟨i, j, ds, rfl, rfl, hI, hO, hBB⟩ := hrel
        have II := Lib.hid hI
        have OO := Lib.hid hO
        have BB := Lib.hid hBB
        have hij := hI.lt
        have hjn : j ≤ n := by have := hI.le; have := HNL.out; omega
        clear HO1 HB1 HD hI hBB
        by_cases hlt : j < n
        · have hjl : j < l.length := by have := HNL.out; omega
          have hx : l[j]? = some ((l[j]).1, (l[j]).2) := List.getElem?_eq_getElem hjl
          have hx2 := (II.out.at_ hjl).trans hx
          obtain ⟨⟨c0, c1⟩, _, _⟩ := hO.cells j _ _ hx2
          have HX := Lib.hid hx
          clear hx hx2
          generalize (l[j]).1 = x at *
          generalize (l[j]).2 = y at *
          have e1 : (j : Int) < (n : Int) := by omega
          have KF := Lib.hid (Blk.fst wr (.int .i64 x) (.int .i64 y) 31)
          have OA := Lib.hid (OO.out.alloc (.cells #[.int .i64 x, .int .i64 y] 31))
          have BA := Lib.hid (BB.out.alloc BB.out.size (.cells #[.int .i64 x, .int .i64 y] 31))
          obtain ⟨⟨p0, p1⟩, _, _⟩ := KF.out.two
          clear hO
          go_wp2_with fail
          refine (HE.out x y _).mono ?_
          rintro e w2 ⟨rfl, hb⟩
          have K2 := Lib.hid (KF.out.below hb)
          have O2 := Lib.hid (OA.out.below hb)
          have B2 := Lib.hid (bstep BA.out hb BA.out.size)
          clear hb KF OA BA p0 p1 c0 c1
          obtain ⟨⟨p0, p1⟩, _, _⟩ := K2.out.two
          have hil : i < ds.length := by have := II.out.len; omega
          have hy2 : ds[i]? = some ((ds[i]).1, (ds[i]).2) := List.getElem?_eq_getElem hil
          obtain ⟨⟨c0, c1⟩, f0, f1⟩ := O2.out.cells i _ _ hy2
          generalize (ds[i]).1 = xo at *
          generalize (ds[i]).2 = yo at *
          clear hy2
          have hin : (i : Int) < (n : Int) := by omega
          have hi2 : (i : Int) < 1099511627776 := by omega
          by_cases g0 : y < x
          · have hp : Hid (ne1 (x, y) = false) := by unfold Hid ne1; simpa using g0
            have IS := Lib.hid (II.out.skip HX.out hp.out)
            go_wp2
            go_roundw
            case rel => exact ⟨_, _, _, _, _, _, _, _, _, _, _, _, _, _, _, _, _, _, _, _, _, _, _, ⟨i, j + 1, ds, rfl, by go_num, IS.out, O2.out, B2.out⟩, rfl⟩
            case measure => simp [intOf]; omega
          · have g1 : decide (y < x) = false := by simpa using g0
            have hp : Hid (ne1 (x, y) = true) := by unfold Hid ne1; simpa using g0
            have IS := Lib.hid (II.out.keep HX.out hp.out)
            have OP := Lib.hid (O2.out.put i x y)
            have BP : Hid (Below w0.heap.size w0 ((w2.setCell ⟨g, i * 2, none⟩ (.int .i64 x)).setCell ⟨g, i * 2 + 1, none⟩ (.int .i64 y))) := B2.out.grown OP.out.2 B2.out.size (by intro q hq; cases hq; exact HGE.out)
            go_wp2
            go_roundw
            case rel => exact ⟨_, _, _, _, _, _, _, _, _, _, _, _, _, _, _, _, _, _, _, _, _, _, _, ⟨i + 1, j + 1, ds.set i (x, y), by go_num, by go_num, IS.out, OP.out.1, BP.out⟩, rfl⟩
            case measure => simp [intOf]; omega
        · have e1 : ¬ (j : Int) < (n : Int) := by omega
          have hjn2 : j = n := by omega
          have hd : DInv l i l.length ds := by rw [HNL.out, ← hjn2]; exact II.out
          obtain ⟨q1, q2⟩ := hd.done
          have Q1 := Lib.hid q1
          obtain ⟨wz, hcl, hOz, hgz⟩ := Ow.clear (i := i) hO (by omega)
          have OZ := Lib.hid hOz
          have BZ : Hid (Below w0.heap.size w0 wz) := BB.out.grown hgz BB.out.size (by intro q hq; cases hq; exact HGE.out)
          have hic : ¬ (i : Nat) = c := by omega
          have hcut : ∀ W : World, (Instr.slice 45 (.slice (some ⟨g, 0, none⟩) n c) (some (.int .i64 (i : Int))) none none).run Try.prog W = .ok (.slice (some ⟨g, i * 2, none⟩) (n - i) (c - i)) W := by
            intro W
            go_simp
            have : ¬ c = i := fun e => hic e.symm
            simp [sliced, hic, this, Nat.sub_eq_zero_iff_le]
            intro h; omega
          clear hO hOz hgz q1 q2 hd
          subst hjn2
          go_wp2
          go_ret
          refine ⟨_, rfl, ?_, BZ.out⟩
          rw [← Q1.out]
          exact OZ.out
end Go.Proofs.Ytlmmoinmlcpmnaa
