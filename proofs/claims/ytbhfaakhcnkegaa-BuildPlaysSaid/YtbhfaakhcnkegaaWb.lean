/-
  build's Sorted and SetOf: rows of bytes, sorted.
-/
import Derived.Test.YtbhfaakhcnkegaaWa
import Derived.Test.YtbhfaakhcnkegaaSo
import Derived.Test.YtbhfaakhcnkegaaShelf
namespace Go.Proofs.Ytbhfaakhcnkegaa
open Go.RowKit
open Go.Sort (SWO Holds PermIn SortedIn putRow mapBlock)
set_option linter.unusedVariables false
set_option linter.unusedSimpArgs false
set_option maxRecDepth 4000

theorem bytealgCompare_run {A B : Option Addr} {n m c d : Nat} {a b : List UInt8} {w : World} (ha : Bs w A n a) (hb : Bs w B m b) :
    (callFunc 96 #[.slice A n c, .slice B m d]).run Try.prog w = .ok (.value (.int .i64 (Lib.compareBytes a b))) w := by
  rw [run_callFunc_extern Try.func96 (by kernel_rfl) (by kernel_rfl) (by kernel_rfl) (e := Extern.BytealgCompare.compare) (by kernel_rfl), run_compareB ha hb]
  rfl

theorem bytesCompare (A B : Option Addr) (n m c d : Nat) (a b : List UInt8) (w : World) (ha : Bs w A n a) (hb : Bs w B m b) :
    Calls Try.prog 75 #[.slice A n c, .slice B m d] w fun e w' => e = .returned (.int .i64 (Lib.compareBytes a b)) ∧ w = w' := by
  have hr := bytealgCompare_run (c := c) (d := d) ha hb
  go_enter Try.func75, Try.ntmps75
  go_wp2
  go_ret
  exact ⟨rfl, rfl⟩

theorem octCompare (A B : Option Addr) (n m c d : Nat) (a b : List UInt8) (w : World) (ha : Bs w A n a) (hb : Bs w B m b) :
    Calls Try.prog 57 #[.slice A n c, .slice B m d] w fun e w' => e = .returned (.int .i64 (Lib.compareBytes a b)) ∧ w = w' := by
  go_enter Try.func57, Try.ntmps57
  go_wp2_with fail
  refine (bytesCompare A B n m c d a b _ ha hb).mono ?_
  rintro e w' ⟨rfl, rfl⟩
  go_wp2
  go_ret
  exact ⟨rfl, rfl⟩

/-- A slice of bytes in a world. -/
structure Sl (w : World) where
  A : Option Addr
  n : Nat
  c : Nat
  l : List UInt8
  bs : Bs w A n l
  le : n ≤ c
instance (w : World) : Inhabited (Sl w) := ⟨⟨none, 0, 0, [], Bs.nil _ _, Nat.le_refl _⟩⟩
def Sl.v {w : World} (x : Sl w) : Value := .slice x.A x.n x.c
def Sl.cf {w : World} (x y : Sl w) : Int := Lib.compareBytes x.l y.l
theorem Sl.one {w : World} : OneCell (Sl.v (w := w)) := fun x => rfl
theorem Sl.lt_iff {w : World} (x y : Sl w) : ltOf Sl.cf x y = false ↔ leB y.l x.l := by
  unfold ltOf Sl.cf leB
  rw [cmp_swap x.l y.l]
  simp
theorem Sl.swo (w : World) : SWO (ltOf (Sl.cf (w := w))) where
  irrefl x := (Sl.lt_iff x x).2 (leB_refl _)
  trans x y z h1 h2 := by
    cases h : ltOf Sl.cf x z with
    | true => rfl
    | false =>
      have h3 := (Sl.lt_iff x z).1 h
      unfold ltOf Sl.cf at h1 h2
      simp at h1 h2
      have h4 := leB_trans h3 (show leB x.l y.l by unfold leB; omega)
      unfold leB at h4
      rw [cmp_swap] at h4
      omega
  ntrans x y z h1 h2 := (Sl.lt_iff x z).2 (leB_trans ((Sl.lt_iff y z).1 h2) ((Sl.lt_iff x y).1 h1))

/-- Each row of slices is one of such. -/
theorem Vss.sls {w : World} : ∀ {vs : List Value} {ls : List (List UInt8)}, Vss w vs ls → ∃ xs : List (Sl w), xs.map Sl.v = vs ∧ xs.map Sl.l = ls
  | [], [], _ => ⟨[], rfl, rfl⟩
  | [], _ :: _, h => by have := h.1; simp at this
  | _ :: _, [], h => by have := h.1; simp at this
  | v :: vs, l :: ls, h => by
    obtain ⟨A, n, c, hv, hb, hc⟩ := h.2 0 l rfl
    simp at hv
    subst hv
    obtain ⟨xs, h1, h2⟩ := Vss.sls (w := w) (vs := vs) (ls := ls) ⟨by have := h.1; simpa using this, fun i x hx => h.2 (i + 1) x hx⟩
    exact ⟨⟨A, n, c, l, hb, hc⟩ :: xs, by rw [List.map_cons, h1]; rfl, by rw [List.map_cons, h2]⟩

theorem below_sortWorld {α : Type} [Inhabited α] {B : Nat} {w w1 : World} (enc : α → Value) (hb : Below B w w1) (hB : B ≤ w1.heap.size) (blk off m : Nat) (hk : B ≤ blk) (dk : Array α) (os : Array Obj) : Below B w (sortWorld enc w1 blk off m dk os) := by
  refine ⟨hb.os, hb.tape, hb.output, ?_, fun k hlt => ?_⟩
  · have := hb.size
    simp [sortWorld, Go.Sort.grow, putRow, mapBlock, Go.Sort.ahead]
    omega
  · rw [← hb.block k hlt]
    simp only [sortWorld, Go.Sort.grow, putRow, mapBlock, Go.Sort.ahead]
    rw [Array.getElem?_append_left (by simp; omega), Array.getElem?_modify, if_neg (by omega)]

theorem cmpLays {w w1 : World} (hb : Below w.heap.size w w1) (blk off size : Nat) (hk : w.heap.size ≤ blk) : CmpLays1 Try.prog 57 #[] (Sl.v (w := w)) Sl.cf blk off size w1 := by
  intro m os dk hs x y
  have hB := below_sortWorld (Sl.v (w := w)) hb hb.size blk off m hk dk os
  refine (octCompare x.A y.A x.n y.n x.c y.c x.l y.l _ (x.bs.below hB) (y.bs.below hB)).mono ?_
  rintro e w' ⟨rfl, rfl⟩
  exact ⟨rfl, 0, #[], by simp [Go.Sort.grow]; rfl⟩

set_option maxHeartbeats 800000 in
theorem slClone (A : Option Addr) (n c : Nat) (ls : List (List UInt8)) (w : World) (h : Bss w A n ls) (hn : n ≤ 1099511627) :
    Calls Try.prog 55 #[.slice A n c] w fun e w' => ∃ v vs, e = .returned v ∧ w'.ownsRow w.heap.size 41 1 v n vs ∧ Vss w vs ls ∧ Below w.heap.size w w' := by
  have q : ∀ (w : World) (a : Option Addr) (n c : Nat), (binOp .eql 27 (.slice a n c) (.slice none 0 0)).run Try.prog w = .ok (.bool a.isNone) w := fun w a n c => Lib.run_eql_slice_nil w _ _ a n c 0 0 Try.underlying27
  obtain ⟨i1, hi1, hz0, hz1, hz2⟩ := info_parts sl_info
  rcases A with _ | a
  · have : n = 0 := by
      rcases Nat.eq_zero_or_pos n with h0 | h0
      · exact h0
      · obtain ⟨_, _, _, _, _, e, _⟩ := h.at_ h0; cases e
    subst this
    have : ls = [] := List.eq_nil_of_length_eq_zero h.len
    subst this
    go_enter Try.func55, Try.ntmps55
    go_wp2
    go_ret
    exact ⟨_, [], rfl, World.ownsRow_nil _ _ _ _, Vss.nil _, Below.refl _ _⟩
  · obtain ⟨us, hul, hus, hvs⟩ := h.vals
    have hown : (w.alloc (.cells #[] 41)).ownsRow w.heap.size 41 1 (.slice (some ⟨w.heap.size, 0, none⟩) 0 0) 0 [] := World.ownsRow_made w #[] 0 (Nat.le_refl _) (Nat.zero_le _) rfl
    have HUS : Hid (∀ j u, us[j]? = some u → ∃ b o, some a = some (⟨b, o, none⟩ : Addr) ∧ (w.alloc (.cells #[] 41)).cell? ⟨b, o + j, none⟩ = some u) := by
      intro j u hu
      obtain ⟨b, o, e, hc⟩ := hus j u hu
      exact ⟨b, o, e, ((below_alloc1 w _).cell (World.block_lt_of_cell? w _ hc)).trans hc⟩
    have HV := Lib.hid hvs
    clear hus hvs h
    go_enter Try.func55, Try.ntmps55
    go_wp2_with (at_builtin; refine wpList_appendS rfl _ _ 27 rfl w.heap.size 41 i1 (.slice none 0 0) Try.underlying27 hi1 hz0 hz1 hz2 rfl _ 0 [] rfl hown _ n _ us rfl hul HUS.out HV.out.one ?ab1 ?ab2 ?_)
    case ab1 => omega
    case ab2 => simp
    intro v' w1 hrow hgrow
    have hb : Below w.heap.size w w1 := (below_alloc1 w (.cells #[] 41)).grown hgrow (by simp) (by intro k hk; simp [Value.ownBlock] at hk; omega)
    go_wp2
    go_ret
    exact ⟨_, us, rfl, by simpa using hrow, HV.out, hb⟩

/-- What is behind a sort of a row of the call's own. -/
theorem sorted_rows {w w1 : World} {blk n c : Nat} {vs : List Value} {ls : List (List UInt8)} (hb : Below w.heap.size w w1) (hrow : w1.ownsRow w.heap.size 41 1 (.slice (some ⟨blk, 0, none⟩) n c) n vs) (hv : Vss w vs ls) (hn : n ≤ 1099511627) (Q : Ending → World → Prop)
    (h : ∀ w2, Bss w2 (some ⟨blk, 0, none⟩) n (ordO ls) → Below w.heap.size w w2 → Q (.returned (.tuple #[])) w2) :
    Calls Try.prog 56 #[.slice (some ⟨blk, 0, none⟩) n c, .func (.func 57) #[] #[]] w1 Q := by
  obtain ⟨xs, h1, h2⟩ := hv.sls
  have hlt := hrow.lt blk rfl
  have hnl : n = xs.length := by have := hrow.1; rw [← h1] at this; simpa using this.symm
  have hcell := fun j (hj : j < n) => hrow.cellAt j (by omega)
  have hfro := fun j => hrow.frozenAt j
  have hH : Holds Sl.v w1 blk 0 xs.toArray := by
    intro j hj
    simp at hj
    refine ⟨?_, by rw [Nat.zero_add]; exact hfro j⟩
    rw [Nat.zero_add, hcell j (by omega), ← h1]
    simp [hj]
  subst hnl
  have eg : ∀ args w, (callFunc 57 args).run Try.prog w = .ok (.enter 57 args) w := enters_of Try.func57 (by kernel_rfl) rfl
  have hs := Try.sortS_all Sl.v Sl.one Sl.cf (Sl.swo w) 57 #[] blk 0 c xs.toArray w1 eg (cmpLays hb blk 0 _ hlt.1) hH hlt.2 (by simp; omega)
  rw [List.size_toArray] at hs
  refine hs.mono ?_
  rintro e w2 ⟨rfl, d', m, os, hp, hso, rfl⟩
  have hB := below_sortWorld (Sl.v (w := w)) hb hb.size blk 0 m hlt.1 d' os
  obtain ⟨hsz, _, hperm⟩ := hp
  have hsz' : d'.size = xs.length := by simpa using hsz
  have hperm' : d'.toList.Perm xs := by
    have e1 : (d'.extract 0 xs.length).toList = d'.toList := by rw [← hsz']; simp
    have e2 : (xs.toArray.extract 0 xs.length).toList = xs := by simp
    rw [e1, e2] at hperm
    exact hperm
  have hord : d'.toList.map Sl.l = ordO ls := by
    refine ordO_unique ?_ (by rw [← h2]; exact hperm'.map _)
    rw [List.pairwise_map, List.pairwise_iff_getElem]
    intro i j hi hj hij
    have hi' : i < d'.size := by simpa using hi
    have hj' : j < d'.size := by simpa using hj
    have := (Sl.lt_iff _ _).1 (hso i j (Nat.zero_le _) hij (by omega))
    rw [getElem!_pos d' i hi', getElem!_pos d' j hj'] at this
    simpa using this
  refine h _ ⟨by rw [← hord]; simp [hsz'], fun i l hl => ?_⟩ hB
  rw [← hord, List.getElem?_map] at hl
  obtain ⟨x, hx, rfl⟩ := Option.map_eq_some_iff.1 hl
  have hi : i < d'.size := by
    have := (List.getElem?_eq_some_iff.1 hx).1
    simpa using this
  have hc := (holds_sortWorld Sl.v w1 blk 0 m xs.toArray d' os hlt.2 hH (by simpa using hsz') i hi).1
  refine ⟨blk, 0, x.A, x.n, x.c, rfl, ?_, x.bs.below hB, x.le⟩
  rw [hc, getElem!_pos d' i hi]
  have : d'[i] = x := by
    have := (List.getElem?_eq_some_iff.1 hx).2
    simpa using this
  rw [this]
  rfl

theorem sort_any {w w1 : World} {v : Value} {n : Nat} {vs : List Value} {ls : List (List UInt8)} (hb : Below w.heap.size w w1) (hrow : w1.ownsRow w.heap.size 41 1 v n vs) (hv : Vss w vs ls) (hn : n ≤ 1099511627) :
    ∃ A c, v = .slice A n c ∧ n ≤ c ∧ Calls Try.prog 56 #[.slice A n c, .func (.func 57) #[] #[]] w1 fun e w2 => e = .returned (.tuple #[]) ∧ Bss w2 A n (ordO ls) ∧ Below w.heap.size w w2 := by
  rcases hrow.2 with ⟨rfl, rfl⟩ | ⟨g, cap, cur, rfl, _, _, hle, _⟩
  · have hl : ls = [] := List.eq_nil_of_length_eq_zero (by have h1 := hrow.1; have := hv.1; omega)
    subst hl
    refine ⟨none, 0, rfl, Nat.le_refl _, (Try.sortS_none none 0 _ w1).mono ?_⟩
    rintro e w2 ⟨rfl, rfl⟩
    exact ⟨rfl, Bss.nil _ _, hb⟩
  · exact ⟨_, _, rfl, hle, sorted_rows hb hrow hv hn _ fun w2 h1 h2 => ⟨rfl, h1, h2⟩⟩

set_option maxHeartbeats 1600000 in
theorem bdSetOf (A : Option Addr) (n c : Nat) (ls : List (List UInt8)) (w : World) (h : Bss w A n ls) (hn : n ≤ 1099511627) (htot : ls.flatten.length ≤ 16777216) (hsh : Short 1099511627776 ls) :
    Calls Try.prog 25 #[.slice A n c] w (NewBs2 w (wrapB ⟨0, 17, true⟩ (ordO ls).flatten)) := by
  have hfl : (ordO ls).flatten.length ≤ 16777216 := by rw [flatten_perm_length (ordO_perm ls)]; exact htot
  have hsh2 : Short 1099511627776 (ordO ls) := by
    intro k
    rcases Nat.lt_or_ge k (ordO ls).length with hk | hk
    · have hm := (ordO_perm ls).mem_iff.1 (rowL_mem hk)
      obtain ⟨i, hi, e⟩ := List.getElem_of_mem hm
      have := hsh i
      unfold rowL at this
      rw [List.getD_eq_getElem?_getD, List.getElem?_eq_getElem hi] at this
      rw [← e]; exact this
    · unfold rowL
      rw [List.getD_eq_getElem?_getD, List.getElem?_eq_none hk]; simp
  have hW := Lib.hid (fun (A : Option Addr) (c : Nat) (W : World) (hb : Bss W A n (ordO ls)) => hdWrap ⟨0, 17, true⟩ A n c (ordO ls) W (by decide) hb hn hfl hsh2)
  have hO := Lib.hid (fun (W : World) => hdOf 17 W)
  have hT : Hid (∀ (w2 w3 : World) e, Below w.heap.size w w2 → NewBs2 w2 (wrapB ⟨0, 17, true⟩ (ordO ls).flatten) e w3 → NewBs2 w (wrapB ⟨0, 17, true⟩ (ordO ls).flatten) e w3) := by
    rintro w2 w3 e hb ⟨A, n, c, rfl, hob, hb2⟩
    exact ⟨A, n, c, rfl, hob.mono hb.size, hb.trans (hb2.mono hb.size)⟩
  clear hsh2 hfl hsh htot
  go_enter Try.func25, Try.ntmps25
  go_wp2_with fail
  refine (slClone A n c ls _ h hn).mono ?_
  rintro e w1 ⟨v, vs, rfl, hrow, hv, hb1⟩
  obtain ⟨A1, c1, rfl, hc1, hS⟩ := sort_any hb1 hrow hv hn
  have HS := Lib.hid hS
  clear hS hrow hv hb1 h
  go_wp2_with fail
  refine HS.out.mono ?_
  rintro e w2 ⟨rfl, hbss, hb2⟩
  clear HS
  go_wp2_with fail
  refine (hO.out _).mono ?_
  rintro e w3 ⟨rfl, hb3⟩
  have hbss3 := hbss.below hb3
  have hb4 := hb2.trans (hb3.mono hb2.size)
  clear hbss hb2 hb3 hO
  go_wp2_with fail
  refine (hW.out _ _ _ hbss3).mono ?_
  intro e w4 hh
  obtain ⟨A5, n5, c5, rfl, hob, hb5⟩ := hT.out _ _ _ hb4 hh
  clear hh hT hW
  go_wp2
  go_ret2
  exact ⟨A5, n5, c5, rfl, hob, hb5⟩

/-! ### Sorted -/

/-- The rows don't fall. -/
def risesB (l : List (List UInt8)) : Prop := ∀ i, i + 1 < l.length → leB (rowL l i) (rowL l (i + 1))

end Go.Proofs.Ytbhfaakhcnkegaa
