/-
  The contracts of the project's whole: the text of -256, from its parts.
-/
import Derived.Test.YtbjiknfebocepaaDoorWt
import Derived.Deep.LoopGhost
namespace Go.Proofs.YtbjiknfebocepaaDoor
open Go.RowKit Go.Joins
set_option linter.unusedVariables false
set_option linter.unusedSimpArgs false
set_option maxRecDepth 4000

theorem str_info : (Tryd.prog.info? 9).map (fun i => (i.zero, i.size, i.bytes)) = some (some (.string ⟨#[]⟩), 1, 16) := by kernel_rfl

def S256 : ByteArray := ⟨#[50, 53, 54]⟩
theorem dec256 : (⟨(Lib.decDigits 256).toArray⟩ : ByteArray) = S256 := by decide +kernel
def TextIs (s : ByteArray) (w : World) (e : Ending) (w' : World) : Prop := e = .returned (.string s) ∧ Below w.heap.size w w'

set_option maxHeartbeats 3200000 in
theorem whDecimal256 (A : Option Addr) (c : Nat) (w : World) (h : Bs w A 2 [1, 0]) (ht : Tab w) :
    Calls Tryd.prog 48 #[.slice A 2 c] w (TextIs S256 w) := by
  obtain ⟨i0, hi, hz0, hz1, hz2⟩ := info_parts str_info
  go_enter Tryd.func48, Tryd.ntmps48
  go_wp2_with fail
  refine (whWords256 A c w h).mono ?_
  rintro e w1 ⟨g, rfl, hg, hK, hB1⟩
  go_wp2_with fail
  go_loopw [3, 4] (fun gs lf wr => gs = .slice none 0 0 ∧ lf = .slice (some ⟨g, 0, none⟩) 1 1 ∧ wr = w1) (fun _ _ _ => 0)
  case atStart => exact ⟨rfl, rfl, rfl⟩
  case round =>
    obtain ⟨rfl, rfl, rfl⟩ := hrel
    go_wp2_with fail
    refine (whDivide1 g 256 _ (by decide) hK).mono ?_
    rintro e w2 ⟨rfl, hK2, hO2⟩
    have hB2 : Below w.heap.size w w2 := Only.below hO2 hB1 hg hB1.size
    go_wp2_with fail
    refine (fmtUintS 256 w2 (by decide) (ht.below hB2)).mono ?_
    rintro e w3 ⟨rfl, hB3⟩
    rw [dec256]
    have hB3' : Below w.heap.size w w3 := hB2.trans (Below.mono hB3 hB2.size)
    have k3 := (hK2.below hB3).cell 0
    simp at k3
    go_wp2_with fail
    refine (whTrimWords1 g 1 w3 k3 (Nat.le_refl _)).mono ?_
    rintro e w4 ⟨A4, c4, rfl, rfl⟩
    have hov0 : Ov (w3.alloc (Obj.cells #[.string S256] 9)) w.heap.size 9 (.slice none 0 0) [] := Ov.nil _ _ _
    have hsz3 := hB3'.size
    go_wp2_with (at_builtin; (refine wpList_appendV rfl _ _ 80 rfl w.heap.size 9 i0 (.string ⟨#[]⟩) Tryd.underlying80 hi hz0 hz1 (by omega) rfl _ [] rfl hov0 _ _ _ [.string S256] rfl (Vs.new1 w3 _ 9) ?ab0 ?ab1 ?ab2 ?_))
    case ab0 => intro u hu; simp at hu; subst hu; rfl
    case ab1 => simp
    case ab2 => simp; omega
    intro v' w9 hov9 hg9 hh4 hh5
    clear hh4 hh5
    have hB9 := hov0.grew (hB3'.alloc hsz3 _) (Nat.le_refl _) hg9
    clear hov0 hg9
    have h2 := hov9.2
    rcases h2 with ⟨_, h2⟩ | ⟨g9, cap, cur, rfl, hg9, hgb, hle, hmx, hsz, htk⟩
    · simp at h2
    simp only [List.length_singleton] at hov9 hle ⊢
    have hc9 : w9.cell? ⟨g9, 0, none⟩ = some (.string S256) := by
      have := hov9.cells (g := g9) rfl 0 (.string S256) rfl
      rwa [Addr.add_none] at this
    have hf9 : w9.frozen? ⟨g9, 0, none⟩ = false := World.ownsRow.frozenAt hov9 0
    have hlt9 : g9 < w9.heap.size := World.block_lt_of_cell? w9 _ hc9
    clear hov9 hgb hmx hsz htk k3 hK2 hO2 hB3 hK
    go_wp2_with fail
    have HC : ∀ i, i < 1 → w9.cell? ⟨g9, 0 + i, none⟩ = some (.string S256) := by
      intro i hi
      have h0 : i = 0 := by omega
      subst h0; exact hc9
    have HF : ∀ i, i < 1 → w9.frozen? ⟨g9, 0 + i, none⟩ = false := by
      intro i hi
      have h0 : i = 0 := by omega
      subst h0; exact hf9
    refine (Tryd.slices_Reverse_string_cells g9 0 1 cap (fun _ => S256) w9 (by decide) HC HF).mono ?_
    clear HC HF
    rintro e w10 ⟨rfl, q, hw10⟩
    have hE : ((Lib.strsOf (fun _ => S256) 1).reverse.map encStr) = [.string S256] := by rfl
    rw [hE] at hw10
    have hc10 : w10.cell? ⟨g9, 0, none⟩ = some (.string S256) := by
      have := World.cell?_setCells_in g9 [.string S256] 0 (w9.drewN q) (fun j hj => by
        obtain rfl : j = 0 := by simpa using hj
        show (w9.cell? ⟨g9, 0, none⟩).isSome = true
        rw [hc9]; rfl) 0 (by simp)
      rw [hw10]; exact this
    have hB10 : Below w.heap.size w w10 := by
      rw [hw10]
      exact Only.below ((Only.refl g9 (w9.drewN q)).setCell (p := ⟨g9, 0, none⟩) rfl (.string S256)) (below_drewN hB9 q) hg9 (below_drewN hB9 q).size
    have hlt10 : g9 < w10.heap.size := World.block_lt_of_cell? w10 _ hc10
    clear hw10
    go_wp2_with fail
    refine (Tryd.strings_Join g9 0 cap [S256] ⟨#[]⟩ w10 (fun j x hx => by
      match j, hx with
      | 0, hx => simp at hx; subst hx; exact hc10) hlt10 (by decide) hle (by decide +kernel)).mono ?_
    rintro e w11 ⟨rfl, hB11⟩
    have hJ : (⟨(Lib.join ([S256].map (·.data.toList)) (⟨#[]⟩ : ByteArray).data.toList).toArray⟩ : ByteArray) = S256 := by decide +kernel
    rw [hJ]
    go_wp2
    go_ret
    exact ⟨rfl, hB10.trans (Below.mono hB11 hB10.size)⟩

def S256m : ByteArray := ⟨#[45, 50, 53, 54]⟩
theorem n256 {x : Nm} (h : x.ok) (hz : x.z = -256) : x = ⟨true, [1, 0]⟩ := Nm.inj h ⟨rfl, fun h => by simp at h⟩ (by rw [hz]; rfl)

set_option maxHeartbeats 1600000 in
theorem whText256 (x : Nm) (u : Value) (w : World) (hx : NumV w x u) (hok : x.ok) (hz : x.z = -256) (ht : Tab w) :
    Calls Tryd.prog 32 #[u] w (TextIs S256m w) := by
  obtain rfl := n256 hok hz
  clear hok hz
  obtain ⟨A, c, rfl, hb, hc⟩ := hx
  simp only [List.length_cons, List.length_nil, Nat.zero_add, Nat.reduceAdd] at hb hc ⊢
  have hX : NumV w ⟨true, [1, 0]⟩ (.agg #[.bool true, .slice A 2 c]) := NumV.mk' true hb hc
  have hT := One.start w 30 (.bool true) (.slice A 2 c)
  go_enter Tryd.func32, Tryd.ntmps32
  go_wp2_with fail
  generalize (w.alloc (Obj.cells #[Value.bool true, Value.slice A 2 c] 30)) = W0 at *
  generalize hR : w.heap.size = R at *
  have HR := Lib.hid hR; clear hR
  refine (whPlain ⟨true, [1, 0]⟩ _ W0 (hX.frame hT.2.1) (by decide)).mono ?_
  have hm0 : Nm.mk0 ⟨true, [1, 0]⟩ = ⟨true, [1, 0]⟩ := by rfl
  rw [hm0]
  rintro e w1 ⟨v1, rfl, ⟨A1, c1, rfl, hs1, hc1⟩, hb1⟩
  simp only [List.length_cons, List.length_nil, Nat.zero_add, Nat.reduceAdd] at hs1 hc1 ⊢
  have hT1 := hT.frame hb1
  clear hb1 hT hX hb hc hm0
  have hs2 := hs1.set2 hT1.1 (.bool true) (.slice A1 2 c1)
  have hT2 := hT1.put (a0 := .bool true) (a1 := .slice A1 2 c1) rfl
  have c0 := hT1.1.cell 0
  have c1' := hT1.1.cell 1
  have f0 := hT1.1.free 0
  have f1 := hT1.1.free 1
  simp at c0 c1'
  go_upto_region 3 with (fail)
  generalize ((w1.setCell ⟨R, 0, none⟩ (.bool true)).setCell ⟨R, 1, none⟩ (.slice A1 2 c1)) = W2 at *
  have d0 := hT2.1.cell 0
  have d1 := hT2.1.cell 1
  simp at d0 d1
  clear c0 c1' f0 f1 hT1 hs1
  have hst := hT2.2.1
  go_wp2_with fail
  refine (whDecimal256 A1 c1 W2 hs2 (ht.below hst)).mono ?_
  rintro e w3 ⟨rfl, hB3⟩
  have hcat : (⟨#[45]⟩ : ByteArray) ++ S256 = S256m := by decide +kernel
  have hs3 : S256.size = 3 := by rfl
  go_wp2
  go_ret
  exact ⟨rfl, hst.trans (Below.mono hB3 hst.size)⟩
end Go.Proofs.YtbjiknfebocepaaDoor
