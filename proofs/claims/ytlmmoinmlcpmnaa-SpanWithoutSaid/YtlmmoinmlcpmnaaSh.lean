/-
  SortFunc of the library at spans; a fold that makes a list.
-/
import Derived.Test.YtlmmoinmlcpmnaaSg
namespace Go.Proofs.Ytlmmoinmlcpmnaa
open Go.RowKit
open Go.Sort (SWO PermIn SortedIn HoldsK)
set_option linter.unusedVariables false
set_option linter.unusedSimpArgs false
set_option maxRecDepth 4000

theorem enters51 : ∀ args w, (callFunc 51 args).run Try.prog w = .ok (.enter 51 args) w := enters_of Try.func51 (by kernel_rfl) rfl
def cfS (x y : Sp) : Int := Lib.compareInt x.1 y.1
theorem ltS (x y : Sp) : ltOf cfS x y = decide (x.1 < y.1) := by
  unfold ltOf cfS Lib.compareInt
  by_cases h1 : x.1 < y.1
  · simp [h1]
  · by_cases h2 : y.1 < x.1 <;> simp [h1, h2]
theorem swoS : SWO (ltOf cfS) where
  irrefl x := by rw [ltS]; simp
  trans x y z h1 h2 := by rw [ltS] at *; simp at *; omega
  ntrans x y z h1 h2 := by rw [ltS] at *; simp at *; omega
set_option maxHeartbeats 800000 in
theorem spCmpC (x y : Sp) (W : World) : Calls Try.prog 51 #[.agg #[.int .i64 x.1, .int .i64 x.2], .agg #[.int .i64 y.1, .int .i64 y.2]] W fun e w' => e = .returned (.int .i64 (cfS x y)) ∧ ∃ q os', w' = Go.Sort.grow (W.drewN q) os' := by
  have hcon := Lib.hid (fun W' => Try.cmp_Compare_int x.1 y.1 W')
  unfold cfS
  generalize Lib.compareInt x.1 y.1 = r at hcon ⊢
  go_enter Try.func51, Try.ntmps51
  go_wp2_with fail
  refine (hcon.out _).mono ?_
  rintro e w' ⟨rfl, rfl⟩
  go_wp2
  go_ret
  exact ⟨rfl, 0, _, by rw [Go.Sort.alloc_eq_grow, Go.Sort.alloc_eq_grow, Go.Sort.grow_grow]; rfl⟩
theorem cmpLaysS (blk off size : Nat) (w : World) : CmpLays Try.prog 51 #[] spC 2 cfS blk off size w := fun _ _ _ _ x y => spCmpC x y _

theorem below_sortWorldK {B : Nat} {w w1 : World} (hb : Below B w w1) (hB : B ≤ w1.heap.size) (blk off m : Nat) (hk : B ≤ blk) (dk : Array Sp) (os : Array Obj) : Below B w (sortWorldK spC 2 w1 blk off m dk os) := by
  refine ⟨hb.os, hb.tape, hb.output, ?_, fun k hlt => ?_⟩
  · have := hb.size
    have h2 := size_sortWorldK_c spC 2 w1 blk off m dk os
    omega
  · rw [← hb.block k hlt]
    simp only [sortWorldK, Go.Sort.putRowK, Go.Sort.grow, Go.Sort.putRow, Go.Sort.mapBlock, Go.Sort.ahead]
    rw [Array.getElem?_append_left (by simp; omega), Array.getElem?_modify, if_neg (by omega)]

theorem spSort (v : Value) (l : List Sp) (w0 w : World) (h : Ow w w0.heap.size v l) (hb0 : Below w0.heap.size w0 w) (hn : l.length ≤ 1099511627776) :
    ∃ A c, v = .slice A l.length c ∧ Calls Try.prog 50 #[.slice A l.length c, .func (.func 51) #[] #[]] w fun e w' =>
      e = .returned (.tuple #[]) ∧ (∃ T : List Sp, T.Perm l ∧ T.Pairwise (fun x y => x.1 ≤ y.1) ∧ Sps w' A l.length T) ∧ Below w0.heap.size w0 w' := by
  rcases h.form with ⟨rfl, rfl⟩ | ⟨g, c, rfl, hle, hB, hg⟩
  · refine ⟨none, 0, rfl, (Try.sortK_none none 0 _ w).mono ?_⟩
    rintro e w' ⟨rfl, rfl⟩
    exact ⟨rfl, ⟨[], List.Perm.refl _, List.Pairwise.nil, Sps.nil _ _⟩, hb0⟩
  · refine ⟨_, c, rfl, ?_⟩
    have hH : HoldsK spC 2 w g 0 l.toArray := by
      intro t ht
      rw [Go.Sort.size_flatK] at ht
      have ht' : t < l.length * 2 := by simpa using ht
      have hi : t / 2 < l.length := by omega
      rw [Go.Sort.get_flatK _ _ _ _ (by simpa using ht')]
      obtain ⟨⟨k0, k1⟩, f0, f1⟩ := h.cells (t / 2) (l[t / 2]).1 (l[t / 2]).2 (List.getElem?_eq_getElem hi)
      have e0 : l.toArray[t / 2]! = l[t / 2] := by rw [getElem!_pos l.toArray (t / 2) (by simpa using hi)]; simp
      rw [e0, Nat.zero_add]
      rcases (show (t = t / 2 * 2 ∧ t % 2 = 0) ∨ (t = t / 2 * 2 + 1 ∧ t % 2 = 1) by omega) with ⟨q, q2⟩ | ⟨q, q2⟩
      · rw [q2]; rw [← q] at k0 f0; exact ⟨k0, f0⟩
      · rw [q2]; rw [← q] at k1 f1; exact ⟨k1, f1⟩
    have hs := Try.sortK_all (α := Sp) spC (fun _ => rfl) (fun x v hv => spC_one [x] v (by simpa [spCs] using hv)) cfS swoS 51 #[] g 0 c l.toArray w enters51 (cmpLaysS g 0 _ w) hH hg (by simp; omega)
    rw [List.size_toArray] at hs
    refine hs.mono ?_
    rintro e w' ⟨rfl, d', m, os, hp, hso, rfl⟩
    obtain ⟨hsz, _, hperm⟩ := hp
    have hsz' : d'.size = l.length := by simpa using hsz
    have hperm' : d'.toList.Perm l := by
      have e1 : (d'.extract 0 l.length).toList = d'.toList := by rw [← hsz']; simp
      have e2 : (l.toArray.extract 0 l.length).toList = l := by simp
      rw [e1, e2] at hperm
      exact hperm
    refine ⟨rfl, ⟨d'.toList, hperm', ?_, ?_⟩, below_sortWorldK hb0 hb0.size g 0 m hB d' os⟩
    · rw [List.pairwise_iff_getElem]
      intro i j hi hj hij
      have hi' : i < d'.size := by simpa using hi
      have hj' : j < d'.size := by simpa using hj
      have := hso i j (Nat.zero_le _) hij (by omega)
      rw [ltS, getElem!_pos d' i hi', getElem!_pos d' j hj'] at this
      simp at this
      simpa using this
    · refine ⟨by simpa using hsz', fun i x hx => ⟨g, 0, rfl, ?_⟩⟩
      have hi : i < d'.size := by
        have := (List.getElem?_eq_some_iff.1 hx).1
        simpa using this
      have hHK := holdsK_sortWorldK spC 2 w g 0 m l.toArray d' os hg hH (by simpa using hsz')
      have hdi : d'[i]! = x := by
        rw [getElem!_pos d' i hi]
        have := (List.getElem?_eq_some_iff.1 hx).2
        simpa using this
      have c0 := (hHK.cell (i := i) (c := 0) hi (by omega)).1
      have c1 := (hHK.cell (i := i) (c := 1) hi (by omega)).1
      rw [hdi] at c0 c1
      exact ⟨c0, c1⟩

set_option maxHeartbeats 1600000 in
theorem spFoldL (g : Nat) (lb : Array Value) (eg : ∀ args w, (callFunc g args).run Try.prog w = .ok (.enter g args) w) (f : List Sp → Sp → List Sp) (A : Option Addr) (n c : Nat) (l : List Sp) (w : World) (h : Sps w A n l) (hn : n ≤ 1099511627776)
    (hf : ∀ (k : Nat) (x : Sp) (W : World) (v : Value) (out : List Sp), l[k]? = some x → out = (l.take k).foldl f [] → Below w.heap.size w W → Ow W w.heap.size v out →
      Calls Try.prog g (#[v, .agg #[.int .i64 x.1, .int .i64 x.2]] ++ lb) W fun e w' => ∃ v', e = .returned v' ∧ Ow w' w.heap.size v' (f out x) ∧ Below w.heap.size w w') :
    Calls Try.prog 53 #[.slice none 0 0, .slice A n c, .func (.func g) #[] lb] w fun e w' => ∃ v', e = .returned v' ∧ Ow w' w.heap.size v' (l.foldl f []) ∧ Below w.heap.size w w' := by
  have HS := Lib.hid hf
  have HZ := Lib.hid h
  have HLN := Lib.hid h.len
  have HST : Hid (∀ k x, l[k]? = some x → (l.take (k + 1)).foldl f [] = f ((l.take k).foldl f []) x) := fun k x hx => fold_take f [] l k _ hx
  have HN : Hid ((l.take n).foldl f [] = l.foldl f []) := by unfold Hid; rw [← h.len]; simp
  have HV0 : Hid (Ow w w.heap.size (.slice none 0 0) ((l.take 0).foldl f [])) := Ow.nil _ _
  clear h hf
  obtain ⟨F, hF⟩ : ∃ F : Nat → List Sp, ∀ k, (l.take k).foldl f [] = F k := ⟨fun k => (l.take k).foldl f [], fun _ => rfl⟩
  simp only [hF] at HST HN HS HV0
  clear hF
  rw [← HN.out]
  clear HN
  go_enter Try.func53, Try.ntmps53
  go_wp2
  go_loopw [0, 11] (fun v i wr => ∃ k : Nat, k ≤ n ∧ i = .int .i64 (k : Int) ∧ Ow wr w.heap.size v (F k) ∧ Below w.heap.size w wr) (fun _ i _ => n - (intOf i).toNat)
  case atStart => exact ⟨0, Nat.zero_le _, rfl, HV0.out, Below.refl _ _⟩
  case round =>

    obtain ⟨k, hk, rfl, h1, h3⟩ := hrel
    have K1 := Lib.hid h1
    have K3 := Lib.hid h3
    clear h1 h3 HV0
    by_cases hlt : k < n
    · obtain ⟨bb, oo, x, y, rfl, hx, c0, c1⟩ := (Sps.below HZ.out K3.out).at_ hlt
      have HX := Lib.hid (HST.out k _ hx)
      have HL := Lib.hid hx
      have e1 : (k : Int) < (n : Int) := by omega
      clear hx
      have K1a := Lib.hid (K1.out.alloc (.cells #[.int .i64 x, .int .i64 y] 31))
      have K3a := Lib.hid (K3.out.alloc K3.out.size (.cells #[.int .i64 x, .int .i64 y] 31))
      have KC := Lib.hid (HS.out k (x, y) _ u0 (F k) HL.out rfl K3a.out K1a.out)
      clear K1 K3 HS
      go_wp2_with fail
      refine KC.out.mono ?_
      rintro e w' ⟨v', rfl, ho, hb⟩
      have K1b := Lib.hid ho
      have K3b := Lib.hid hb
      clear hb ho c0 c1 K1a K3a KC
      go_wp2
      go_roundw
      case rel => exact ⟨k + 1, by omega, by go_num, by rw [HX.out]; exact K1b.out, K3b.out⟩
      case measure => simp [intOf]; omega
    · have e1 : ¬ (k : Int) < (n : Int) := by omega
      have hkn : k = n := by omega
      subst hkn
      go_wp2
      go_ret
      exact ⟨_, rfl, K1.out, K3.out⟩
end Go.Proofs.Ytlmmoinmlcpmnaa
