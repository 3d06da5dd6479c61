/-
  The contracts of the project's oid: an oid's text.
-/
import Derived.Test.YtfighoplbmmijaaDoorOe
import Derived.RowKit3
namespace Go.Proofs.YtfighoplbmmijaaDoor
open Go.RowKit Go.Joins
set_option linter.unusedVariables false
set_option linter.unusedSimpArgs false
set_option maxRecDepth 4000

/-- The library's table of powers of ten lies as its text lays it. -/
def Tab (w : World) : Prop := Lib.TabIs Tryd.prog w "internal/strconv.uint64pow10" .u64 Lib.pow10Tab ∧ 2 ≤ w.heap.size
theorem gTab : Tryd.prog.globalNamed "internal/strconv.uint64pow10" = some 1 := by kernel_rfl
theorem Tab.of {w : World} (h : Lib.TabIs Tryd.prog w "internal/strconv.uint64pow10" .u64 Lib.pow10Tab) : Tab w := by
  refine ⟨h, ?_⟩
  have hc := Lib.TabIs.cell h gTab 0 (by decide)
  have := World.block_lt_of_cell? w _ hc
  simp at this
  omega
theorem Tab.belowB {w w' : World} {B : Nat} (h : Tab w) (hb : Below B w w') (hB : 2 ≤ B) : Tab w' :=
  ⟨var?_below hb gTab (by omega) h.1, Nat.le_trans h.2 hb.size⟩
theorem Tab.below {w w' : World} (h : Tab w) (hb : Below w.heap.size w w') : Tab w' := h.belowB hb h.2
theorem below_grow (w : World) (k : Nat) (os : Array Obj) : Below w.heap.size w (Go.Sort.grow (w.drewN k) os) :=
  ⟨rfl, rfl, rfl, by simp [Go.Sort.grow, World.drewN], fun i hi => by
    show (w.heap ++ os)[i]? = w.heap[i]?
    rw [Array.getElem?_append_left hi]⟩

theorem str_info : (Tryd.prog.info? 9).map (fun i => (i.zero, i.size, i.bytes)) = some (some (.string ⟨#[]⟩), 1, 16) := by kernel_rfl
/-- make([]string, 0, n). -/
theorem run_makeS (i : TypeInfo) (hi : Tryd.prog.info? 9 = some i) (hz : i.zero = some (.string ⟨#[]⟩)) (hsize : i.size = 1) (hby : i.bytes = 16) (x : Int) (h0 : 0 ≤ x) (hx : x ≤ 1000000) (W : World) :
    (Instr.makeSlice 54 (.int .i64 0) (.int .i64 x)).run Tryd.prog W = .ok (.slice (some ⟨W.heap.size, 0, none⟩) 0 x.toNat) (W.alloc (.cells (madeCells #[.string ⟨#[]⟩] x.toNat) 9)) := by
  have := run_make (P := Tryd.prog) W 54 9 i _ Tryd.underlying54 hi hz .i64 .i64 0 x (by omega) h0 (by rw [hby]; omega) (by omega)
  rw [hsize, Nat.mul_one] at this
  exact this
theorem Ov.made (w : World) (base n : Nat) (e : TypeId) (z : Value) (hb : base ≤ w.heap.size) (hn : n ≤ 1000000) : Ov (w.alloc (.cells (madeCells #[z] n) e)) base e (.slice (some ⟨w.heap.size, 0, none⟩) 0 n) [] :=
  World.ownsRow_made w _ n hb (by unfold maxLen; omega) (by rw [size_madeCells, Nat.mul_one])

/-- A number's text. -/
def decS (n : Int) : ByteArray := ⟨(Lib.itoa n).toArray⟩
def strV (n : Int) : Value := .string (decS n)

theorem oidTextNo (A : Option Addr) (n c : Nat) (l : List Int) (w : World) (h : Zs w A n l) (hn : n ≤ 1099511627776) (hr : rightO l = false) :
    Calls Tryd.prog 10 #[.slice A n c] w fun e w' => e = .returned (.tuple #[.string ⟨#[]⟩, .int .i64 1]) ∧ Below w.heap.size w w' := by
  have hR := oidRight A n c l w h hn
  rw [hr] at hR
  go_enter Tryd.func10, Tryd.ntmps10
  go_wp2_with fail
  refine hR.mono ?_
  rintro e w1 ⟨rfl, q⟩
  go_wp2
  go_ret2
  exact ⟨rfl, q.below⟩

theorem itoa_len (n : Int) (h0 : 0 ≤ n) (h1 : n ≤ 2147483647) : (Lib.itoa n).length ≤ 10 := (itoa_ok n h0 h1).1.ten
theorem lens_le {xs : List (List UInt8)} {k : Nat} (h : ∀ x ∈ xs, x.length ≤ k) : Lib.lens xs ≤ k * xs.length := by
  induction xs with
  | nil => simp [Lib.lens]
  | cons x r ih =>
    have h1 := h x (by simp)
    have h2 := ih (fun y hy => h y (by simp [hy]))
    have : Lib.lens (x :: r) = x.length + Lib.lens r := by simp [Lib.lens]
    rw [this, List.length_cons, Nat.mul_succ]
    omega
theorem join_len {xs : List (List UInt8)} {k : Nat} (h : ∀ x ∈ xs, x.length ≤ k) : (Lib.join xs [46]).length ≤ (k + 1) * xs.length := by
  cases xs with
  | nil => simp [Lib.join_nil]
  | cons x r =>
    rw [Lib.join_cons, List.length_append, Lib.joinTail_length]
    have h1 := h x (by simp)
    have h2 := lens_le (xs := r) (fun y hy => h y (by simp [hy]))
    simp only [List.length_cons, List.length_nil, Nat.add_mul, Nat.mul_add]
    omega

set_option maxHeartbeats 1600000 in
theorem oidText (A : Option Addr) (n c : Nat) (l : List Int) (w : World) (h : Zs w A n l) (hn : n ≤ 1099511627776) (hr : RightO l) (ht : Tab w) :
    Calls Tryd.prog 10 #[.slice A n c] w fun e w' => e = .returned (.tuple #[.string ⟨(textO l).toArray⟩, .int .i64 0]) ∧ Below w.heap.size w w' := by
  obtain ⟨i0, hi, hz0, hz1, hz2⟩ := info_parts str_info
  have hR := oidRight A n c l w h hn
  rw [(rightO_iff l).2 hr] at hR
  have hl := Lib.hid h.len
  have h2 : 2 ≤ n := by have := hr.two; have := hl.out; omega
  have h32 : n ≤ 32 := by have := hr.max; have := hl.out; omega
  have hmk := run_makeS i0 hi hz0 hz1 hz2 (n : Int) (by omega) (by omega)
  rw [Int.toNat_natCast] at hmk
  have ZS : Hid (∀ W, Below w.heap.size w W → Zs W A n l) := fun W hW => h.below hW
  have TB : Hid (∀ W, Below w.heap.size w W → Tab W) := fun W hW => ht.below hW
  have ARC : Hid (∀ k, 0 ≤ zth l k ∧ zth l k ≤ 2147483647) := hr.at_
  go_enter Tryd.func10, Tryd.ntmps10
  go_wp2_with fail
  refine hR.mono ?_
  rintro e w1 ⟨rfl, q⟩
  have hB1 : Below w.heap.size w w1 := q.below
  have hov1 := Ov.made w1 w.heap.size n 9 (.string ⟨#[]⟩) hB1.size (by omega)
  clear hR h q ht
  go_wp2
  go_loopw [4, 15] (fun v i wr => ∃ k : Nat, k ≤ n ∧ i = .int .i64 (k : Int) ∧ Ov wr w.heap.size 9 v ((l.take k).map strV) ∧ Below w.heap.size w wr) (fun _ i _ => n - (intOf i).toNat)
  case atStart => exact ⟨0, by omega, rfl, by simpa using hov1, hB1.alloc hB1.size _⟩
  case round =>
    obtain ⟨k, hk, rfl, hov, hB⟩ := hrel
    clear hov1 hB1 hmk
    by_cases hlt : k < n
    · obtain ⟨b, o, rfl, cz⟩ := (ZS.out wr hB).at_ hlt
      have e1 : (k : Int) < n := by omega
      have ha := ARC.out k
      have hst : Hid ((l.take k).map strV ++ [strV (zth l k)] = (l.take (k + 1)).map strV) := by
        unfold Hid
        have hkl : k < l.length := by have := hl.out; omega
        rw [List.take_succ_eq_append_getElem hkl, List.map_append]
        simp [zth, List.getD, List.getElem?_eq_getElem hkl]
      have hlen : ((l.take k).map strV).length ≤ 32 := by simp; omega
      generalize zth l k = z at *
      have hI := Tryd.strconv_Itoa z (by omega) (by omega) wr (TB.out wr hB).1
      go_wp2_with fail
      refine hI.mono ?_
      rintro e w2 ⟨rfl, kk, os, hw2⟩
      have hBg : Below wr.heap.size wr w2 := by rw [hw2]; exact below_grow _ _ _
      have hB2 : Below w.heap.size w w2 := hB.trans (Below.mono hBg hB.size)
      have hov2 := hov.below hBg
      clear hw2 hBg hI hov cz
      have hsv : Hid (strV z = .string ⟨(Lib.itoa z).toArray⟩) := rfl
      generalize (l.take k).map strV = pre at *
      go_wp2_with (at_builtin; (refine wpList_appendV rfl _ _ 54 rfl w.heap.size 9 i0 (.string ⟨#[]⟩) Tryd.underlying54 hi hz0 hz1 (by omega) rfl _ pre rfl (hov2.alloc _) _ _ _ [strV z] rfl (Vs.new1 w2 _ 9) ?ab0 ?ab1 ?ab2 ?_))
      case ab0 => intro u hu; simp at hu; subst hu; rfl
      case ab1 => omega
      case ab2 => have := hB2.size; simp; omega
      intro v' w9 hov9 hg9 _ _
      have hbel1 := (hov2.alloc _).grew (hB2.alloc hB2.size _) (Nat.le_refl _) hg9
      rw [hst.out] at hov9
      go_wp2
      go_roundw
      case rel => exact ⟨k + 1, by omega, by go_num, hov9, hbel1⟩
      case measure => simp [intOf]; omega
    · have hkn : k = n := by omega
      have hall : (l.take k).map strV = l.map strV := by rw [List.take_of_length_le (by have := hl.out; omega)]
      rw [hall] at hov
      have hpos : 0 < (l.map strV).length := by have := hl.out; simp; omega
      obtain ⟨g, cap, cur, hv, hg, hh, hle, _⟩ := hov.2.resolve_left (fun e => by omega)
      obtain ⟨hvs, hcap⟩ := Ov.vs (by rw [hv] at hov; exact hov)
      have hlt := lt_of_block hh
      subst hv
      have hJ := Tryd.strings_Join g 0 cap (l.map decS) ⟨#[46]⟩ wr ?jc hlt (by have := hl.out; simp; omega) (by simpa using hle) ?jl
      case jc =>
        intro j x hx
        rw [List.getElem?_map] at hx
        obtain ⟨y, hy, rfl⟩ := Option.map_eq_some_iff.1 hx
        obtain ⟨b', o', e', hc'⟩ := hvs.2 j (strV y) (by simp [hy])
        cases e'
        exact hc'
      case jl =>
        have h1 : ((l.map decS).map (·.data.toList)) = l.map Lib.itoa := by simp [decS, Function.comp_def]
        rw [h1]
        have h3 := join_len (xs := l.map Lib.itoa) (k := 10) (by
          intro x hx
          obtain ⟨y, hy, rfl⟩ := List.mem_map.1 hx
          exact itoa_len y (hr.arcs y hy).1 (hr.arcs y hy).2)
        have h4 := hl.out
        simp at h3 ⊢
        omega
      have hF : Hid ((Lib.join ((l.map decS).map (·.data.toList)) [46]) = textO l) := by
        unfold Hid textO; simp [decS, Function.comp_def]
      have hln : (l.map decS).length = (l.map strV).length := by simp
      rw [hln] at hJ
      have hJ2 : Hid (Calls Tryd.prog 32 #[.slice (some ⟨g, 0, none⟩) (l.map strV).length cap, .string ⟨#[46]⟩] wr fun e w' => e = .returned (.string ⟨(textO l).toArray⟩) ∧ Below wr.heap.size wr w') := by
        unfold Hid; rw [← hF.out]; exact hJ
      clear hJ hF hln hvs hh hov hall
      generalize (l.map strV).length = L at *
      go_wp2_with fail
      refine hJ2.out.mono ?_
      rintro e w2 ⟨rfl, hB2⟩
      go_wp2
      go_ret2
      exact ⟨rfl, hB.trans (Below.mono hB2 hB.size)⟩
end Go.Proofs.YtfighoplbmmijaaDoor
