/-
  build's Sorted, Sequence, Explicit, Implicit.
-/
import Derived.Test.YtbhfaakhcnkegaaWb
namespace Go.Proofs.Ytbhfaakhcnkegaa
open Go.RowKit
open Go.Sort (SWO Holds PermIn SortedIn putRow mapBlock)
set_option linter.unusedVariables false
set_option linter.unusedSimpArgs false
set_option maxRecDepth 4000

/-! ### Sorted -/

/-- A slice of bytes that isn't at a block. -/
structure Sb (w : World) (blk : Nat) where
  x : Sl w
  ne : ∀ a, x.A = some a → a.block ≠ blk
instance (w : World) (blk : Nat) : Inhabited (Sb w blk) := ⟨⟨⟨none, 0, 0, [], Bs.nil _ _, Nat.le_refl _⟩, by intro a h; cases h⟩⟩
def Sb.v {w : World} {blk : Nat} (x : Sb w blk) : Value := x.x.v
def Sb.cf {w : World} {blk : Nat} (x y : Sb w blk) : Int := Lib.compareBytes x.x.l y.x.l
theorem Sb.lt_iff {w : World} {blk : Nat} (x y : Sb w blk) : ltOf Sb.cf x y = false ↔ leB y.x.l x.x.l := Sl.lt_iff x.x y.x

theorem Bs.sortWorld {α : Type} [Inhabited α] {w : World} {A : Option Addr} {n : Nat} {l : List UInt8} (h : Bs w A n l) (enc : α → Value) (blk off m : Nat) (dk : Array α) (os : Array Obj) (hne : ∀ a, A = some a → a.block ≠ blk) : Bs (sortWorld enc w blk off m dk os) A n l :=
  ⟨h.1, fun i x hx => by
    obtain ⟨b, o, e, hc⟩ := h.2 i x hx
    refine ⟨b, o, e, ?_⟩
    have h1 := hne _ e
    have h2 := World.block_lt_of_cell? w _ hc
    rw [← hc]
    unfold World.cell?
    have hb : (Go.Proofs.sortWorld enc w blk off m dk os).heap[b]? = w.heap[b]? := by
      simp only [Go.Proofs.sortWorld, Go.Sort.grow, putRow, mapBlock, Go.Sort.ahead]
      simp only at h1 h2
      rw [Array.getElem?_append_left (by simp; omega), Array.getElem?_modify, if_neg (by omega)]
    rw [hb]⟩

theorem cmpLaysB (w : World) (blk off size : Nat) : CmpLays1 Try.prog 57 #[] (Sb.v (w := w) (blk := blk)) Sb.cf blk off size w := by
  intro m os dk hs x y
  refine (octCompare x.x.A y.x.A x.x.n y.x.n x.x.c y.x.c x.x.l y.x.l _ (x.x.bs.sortWorld _ blk off m dk os x.ne) (y.x.bs.sortWorld _ blk off m dk os y.ne)).mono ?_
  rintro e w' ⟨rfl, rfl⟩
  exact ⟨rfl, 0, #[], by simp [Go.Sort.grow]; rfl⟩

theorem Oss.sbs {w : World} {B blk : Nat} {cs : Array Value} {f : Nat × Nat} (hb : w.heap[blk]? = some (.cells cs 41 f)) : ∀ {vs : List Value} {ls : List (List UInt8)}, Oss w B vs ls → ∃ xs : List (Sb w blk), xs.map Sb.v = vs ∧ xs.map (fun x => x.x.l) = ls
  | [], [], _ => ⟨[], rfl, rfl⟩
  | [], _ :: _, h => by have := h.1; simp at this
  | _ :: _, [], h => by have := h.1; simp at this
  | v :: vs, l :: ls, h => by
    obtain ⟨u, hv, ho⟩ := h.2 0 l rfl
    simp at hv
    subst hv
    have hne := ho.notBlk hb (by decide)
    obtain ⟨A, c, rfl, hc, hbs⟩ := ho.slice
    obtain ⟨xs, h1, h2⟩ := Oss.sbs (w := w) (B := B) hb (vs := vs) (ls := ls) ⟨by have := h.1; simpa using this, fun i x hx => h.2 (i + 1) x hx⟩
    refine ⟨⟨⟨A, l.length, c, l, hbs, hc⟩, ?_⟩ :: xs, by rw [List.map_cons, h1]; rfl, by rw [List.map_cons, h2]⟩
    rintro a rfl
    rcases hne with h | h
    · simp [Value.ownBlock] at h
    · simpa [Value.ownBlock] using h

theorem isSorted_any {w : World} {B : Nat} {v : Value} {n : Nat} {vs : List Value} {ls : List (List UInt8)} (hrow : w.ownsRow B 41 1 v n vs) (hv : Oss w B vs ls) (hn : n ≤ 1099511627) :
    ∃ A c, v = .slice A n c ∧ Calls Try.prog 68 #[.slice A n c, .func (.func 57) #[] #[]] w fun e w2 => (∃ b : Bool, e = .returned (.bool b) ∧ (b = true ↔ risesB ls)) ∧ Below w.heap.size w w2 := by
  rcases hrow.2 with ⟨rfl, rfl⟩ | ⟨g, cap, cur, rfl, _, hblk, hle, _⟩
  · have hl : ls = [] := List.eq_nil_of_length_eq_zero (by have h1 := hrow.1; have := hv.1; omega)
    subst hl
    refine ⟨none, 0, rfl, (Try.isSortedS_none none 0 _ w).mono ?_⟩
    rintro e w2 ⟨rfl, rfl⟩
    exact ⟨⟨true, rfl, by simp [risesB]⟩, Below.refl _ _⟩
  · refine ⟨_, _, rfl, ?_⟩
    obtain ⟨xs, h1, h2⟩ := hv.sbs hblk
    have hlt := hrow.lt g rfl
    have hnl : n = xs.length := by have := hrow.1; rw [← h1] at this; simpa using this.symm
    have hcell := fun j (hj : j < n) => hrow.cellAt j (by omega)
    have hfro := fun j => hrow.frozenAt j
    have hH : Holds Sb.v w g 0 xs.toArray := by
      intro j hj
      simp at hj
      refine ⟨?_, by rw [Nat.zero_add]; exact hfro j⟩
      rw [Nat.zero_add, hcell j (by omega), ← h1]
      simp [hj]
    subst hnl
    have eg : ∀ args w, (callFunc 57 args).run Try.prog w = .ok (.enter 57 args) w := enters_of Try.func57 (by kernel_rfl) rfl
    have hs := Try.isSortedS_all Sb.v (fun x => rfl) Sb.cf 57 #[] g 0 cap xs.toArray w eg (cmpLaysB w g 0 _) hH hlt.2 (by simp; omega)
    rw [List.size_toArray] at hs
    refine hs.mono ?_
    rintro e w2 ⟨rfl, m, os, rfl⟩
    refine ⟨⟨_, rfl, ?_⟩, ?_⟩
    · rw [Lib.downOK_iff, ← h2]
      unfold risesB
      rw [List.length_map]
      have key : ∀ i, i + 1 < xs.length → (ltOf Sb.cf xs.toArray[i + 1]! xs.toArray[i]! = false ↔ leB (rowL (xs.map fun x => x.x.l) i) (rowL (xs.map fun x => x.x.l) (i + 1))) := by
        intro i hi
        rw [Sb.lt_iff, getElem!_pos xs.toArray i (by simp; omega), getElem!_pos xs.toArray (i + 1) (by simp; omega)]
        unfold rowL
        rw [List.getD_eq_getElem?_getD, List.getD_eq_getElem?_getD, List.getElem?_map, List.getElem?_map, List.getElem?_eq_getElem (by omega), List.getElem?_eq_getElem hi]
        rfl
      constructor
      · intro h i hi
        exact (key i hi).1 (h i (by omega))
      · intro h i hi
        exact (key i (by omega)).2 (h i (by omega))
    · have e1 : Go.Proofs.sortWorld Sb.v w g 0 m xs.toArray os = Go.Sort.grow (Go.Sort.ahead w m) os := by
        unfold Go.Proofs.sortWorld
        rw [Go.Sort.putRow_self]
        exact hH
      rw [e1]
      exact ⟨rfl, rfl, rfl, by simp [Go.Sort.grow, Go.Sort.ahead], fun k hk => by simp [Go.Sort.grow, Go.Sort.ahead, Array.getElem?_append_left hk]⟩

/-- What Sorted hands back. -/
def SortedOk (w : World) (g : Nat) (s : Value) (l : List UInt8) (k : Nat) (R : List (List UInt8) × Int) (e : Ending) (w' : World) : Prop :=
  (∃ b : Bool, e = .returned (.tuple #[.bool b, .int .i64 R.2]) ∧ (b = true ↔ R.2 = 0 ∧ risesB R.1)) ∧ Cur w' g s l k ∧ Only g w w'

set_option maxHeartbeats 1600000 in
theorem bdSorted (g k : Nat) (l : List UInt8) (w : World) {s : Value} (h : Cur w g s l k) (hlen : l.length ≤ 1099511627) :
    Calls Try.prog 36 #[.pointer (some ⟨g, 0, none⟩)] w (SortedOk w g s l k (whs l k)) := by
  have hkl : k ≤ l.length := by obtain ⟨_, _, _, _, _, _, hb, _, hk, _⟩ := h; have := hb.len; omega
  have hglt := h.lt
  have hcnt := whs_count l l.length k (by omega)
  have hW := Lib.hid (fun W (hW : Cur W g s l k) => bdWholes g k l W hW hlen)
  have HW : Hid (∀ W e w', WhOk W g s l k e w' → ((whs l k).2 = 0 → ∃ A n c vs, e = .returned (.tuple #[.slice A n c, .int .i64 0]) ∧ n = (whs l k).1.length ∧ w'.ownsRow W.heap.size 41 1 (.slice A n c) n vs ∧ Oss w' W.heap.size vs (whs l k).1 ∧ Cur w' g s l l.length) ∧
    ((whs l k).2 ≠ 0 → e = .returned (.tuple #[.slice none 0 0, .int .i64 (whs l k).2]) ∧ Cur w' g s l k) ∧ Only g W w') := fun W e w' h => h
  generalize whs l k = R at *
  obtain ⟨ls, E⟩ := R
  simp only at HW hcnt
  go_enter Try.func36, Try.ntmps36
  go_wp2_with fail
  refine (curAt g k l _ h).mono ?_
  rintro e w1 ⟨rfl, rfl⟩
  go_wp2_with fail
  refine (hW.out _ h).mono ?_
  intro e w2 hh
  obtain ⟨hyes, hno, hO⟩ := HW.out _ _ _ hh
  clear hh HW hW
  by_cases q : E = 0
  · subst q
    obtain ⟨A, n, c, vs, rfl, rfl, hrow, hoss, hc⟩ := hyes rfl
    clear hyes hno
    go_wp2_with fail
    refine (curBack g l.length k _ l _ hc hkl rfl).mono ?_
    rintro e w3 ⟨rfl, hc3, hO3⟩
    have hrow3 := rowElder hrow hglt hO3
    have hoss3 := hoss.elder hglt hO3
    have hO4 := hO.trans hO3
    clear hrow hoss hc hO hO3 h
    obtain ⟨A', c', he, hS⟩ := isSorted_any hrow3 hoss3 (by omega)
    simp only [Value.slice.injEq] at he
    obtain ⟨rfl, _, rfl⟩ := he
    have HS := Lib.hid hS
    clear hS hrow3 hoss3
    go_wp2_with fail
    refine HS.out.mono ?_
    rintro e w4 ⟨⟨b, rfl, hb⟩, hb4⟩
    have HB := Lib.hid hb
    have hc4 := hc3.below hb4
    have hO5 := hO4.trans (Only.of_below hb4)
    clear hb HS
    go_wp2
    go_ret2
    exact ⟨⟨b, rfl, HB.out.trans ⟨fun h => ⟨rfl, h⟩, fun h => h.2⟩⟩, hc4, hO5⟩
  · obtain ⟨rfl, hc⟩ := hno q
    have e1 : (E != 0) = true := by simp; exact q
    have Q := Lib.hid q
    clear hyes hno q
    go_wp2
    go_ret2
    exact ⟨⟨false, rfl, ⟨fun h => by simp at h, fun h => absurd h.1 Q.out⟩⟩, hc, hO⟩

/-! ### Sequence, Explicit, Implicit -/

set_option maxHeartbeats 800000 in
theorem hdAt (n : Int) (m : Bool) (w : World) :
    Calls Try.prog 58 #[.int .i64 n, .bool m] w fun e w' => e = .returned (Tg.v ⟨2, n, m⟩) ∧ Below w.heap.size w w' := by
  unfold Tg.v
  go_enter Try.func58, Try.ntmps58
  go_wp2
  refine bodyPost_ret (v := .agg #[.int .i64 2, .int .i64 n, .bool m]) (by simp [results, Try.results58, go_sem]) rfl ?_
  exact ⟨rfl, below_alloc1 _ _⟩

/-- A tag's whole, or ErrArg. -/
def WrapOk (w : World) (t : Tg) (l : List UInt8) (e : Ending) (w' : World) : Prop :=
  (t.rightB = true → NewBs2 w (wrapB t l) e w') ∧ (t.rightB = false → e = .returned (.tuple #[.slice none 0 0, .int .i64 1])) ∧ Below w.heap.size w w'
/-- One contract: what is handed back, whatever the tag is. -/
theorem WrapOk.form {w w' : World} {t : Tg} {l : List UInt8} {e : Ending} (h : WrapOk w t l e w') : ∃ A n c, e = .returned (.tuple #[.slice A n c, .int .i64 (if t.rightB then 0 else 1)]) ∧ Ob w' w.heap.size 5 (.slice A n c) (if t.rightB then wrapB t l else []) ∧ Below w.heap.size w w' := by
  obtain ⟨h1, h2, h3⟩ := h
  cases hr : t.rightB with
  | true => obtain ⟨A, n, c, rfl, ho, _⟩ := h1 hr; exact ⟨A, n, c, rfl, ho, h3⟩
  | false => exact ⟨none, 0, 0, h2 hr, Ob.nil _ _ _, h3⟩
theorem hdWrapAny (t : Tg) (A : Option Addr) (n c : Nat) (ls : List (List UInt8)) (w : World) (h : Bss w A n ls) (hn : n ≤ 1099511627) (htot : ls.flatten.length ≤ 16777216) (hsh : Short 1099511627776 ls) :
    Calls Try.prog 54 #[t.v, .slice A n c] w (WrapOk w t ls.flatten) := by
  cases hr : t.rightB with
  | true =>
    refine (hdWrap t A n c ls w hr h hn htot hsh).mono ?_
    rintro e w' ⟨A', n', c', rfl, ho, hb⟩
    exact ⟨fun _ => ⟨A', n', c', rfl, ho, hb⟩, (fun h => by rw [hr] at h; cases h), hb⟩
  | false =>
    have hE : encE t ((min ls.flatten.length 16777217 : Nat) : Int) = 1 := by unfold encE; rw [if_pos hr]
    refine (hdWrapNo t A n c ls w h hn hsh (by rw [hE]; decide)).mono ?_
    rintro e w' ⟨rfl, hb⟩
    exact ⟨(fun h => by rw [hr] at h; cases h), (fun _ => by rw [hE]), hb⟩

set_option maxHeartbeats 800000 in
theorem bdSequence (A : Option Addr) (n c : Nat) (ls : List (List UInt8)) (w : World) (h : Bss w A n ls) (hn : n ≤ 1099511627) (htot : ls.flatten.length ≤ 16777216) (hsh : Short 1099511627776 ls) :
    Calls Try.prog 24 #[.slice A n c] w (NewBs2 w (wrapB ⟨0, 16, true⟩ ls.flatten)) := by
  have hW := Lib.hid (fun (W : World) (hb : Bss W A n ls) => hdWrap ⟨0, 16, true⟩ A n c ls W (by decide) hb hn htot hsh)
  have hO := Lib.hid (fun (W : World) => hdOf 16 W)
  have hT : Hid (∀ (w2 w3 : World) e, Below w.heap.size w w2 → NewBs2 w2 (wrapB ⟨0, 16, true⟩ ls.flatten) e w3 → NewBs2 w (wrapB ⟨0, 16, true⟩ ls.flatten) e w3) := by
    rintro w2 w3 e hb ⟨A, n, c, rfl, hob, hb2⟩
    exact ⟨A, n, c, rfl, hob.mono hb.size, hb.trans (hb2.mono hb.size)⟩
  clear hsh htot
  go_enter Try.func24, Try.ntmps24
  go_wp2_with fail
  refine (hO.out _).mono ?_
  rintro e w3 ⟨rfl, hb3⟩
  have hbss3 := h.below hb3
  clear hO h
  go_wp2_with fail
  refine (hW.out _ hbss3).mono ?_
  intro e w4 hh
  obtain ⟨A5, n5, c5, rfl, hob, hb5⟩ := hT.out _ _ _ hb3 hh
  clear hh hT hW
  go_wp2
  go_ret2
  exact ⟨A5, n5, c5, rfl, hob, hb5⟩

set_option maxHeartbeats 800000 in
theorem bdExplicit (m : Int) (A : Option Addr) (n c : Nat) (ls : List (List UInt8)) (w : World) (h : Bss w A n ls) (hn : n ≤ 1099511627) (htot : ls.flatten.length ≤ 16777216) (hsh : Short 1099511627776 ls) :
    Calls Try.prog 26 #[.int .i64 m, .slice A n c] w (WrapOk w ⟨2, m, true⟩ ls.flatten) := by
  have hW := Lib.hid (fun (W : World) (hb : Bss W A n ls) => hdWrapAny ⟨2, m, true⟩ A n c ls W hb hn htot hsh)
  have hO := Lib.hid (fun (W : World) => hdAt m true W)
  have hT : Hid (∀ (w2 w3 : World) e, Below w.heap.size w w2 → WrapOk w2 ⟨2, m, true⟩ ls.flatten e w3 → (∃ A n c, e = .returned (.tuple #[.slice A n c, .int .i64 (if (Tg.mk 2 m true).rightB then 0 else 1)])) ∧ WrapOk w ⟨2, m, true⟩ ls.flatten e w3) := by
    intro w2 w3 e hb hw
    obtain ⟨A, n, c, he, _⟩ := hw.form
    refine ⟨⟨A, n, c, he⟩, fun h => ?_, hw.2.1, hb.trans (hw.2.2.mono hb.size)⟩
    obtain ⟨A, n, c, rfl, hob, hb2⟩ := hw.1 h
    exact ⟨A, n, c, rfl, hob.mono hb.size, hb.trans (hb2.mono hb.size)⟩
  clear hsh htot
  go_enter Try.func26, Try.ntmps26
  go_wp2_with fail
  refine (hO.out _).mono ?_
  rintro e w3 ⟨rfl, hb3⟩
  have hbss3 := h.below hb3
  clear hO h
  go_wp2_with fail
  refine (hW.out _ hbss3).mono ?_
  intro e w4 hh
  obtain ⟨⟨A5, n5, c5, rfl⟩, hw⟩ := hT.out _ _ _ hb3 hh
  clear hh hT hW
  generalize (if (Tg.mk 2 m true).rightB then (0 : Int) else 1) = E at *
  have HW := Lib.hid hw
  clear hw
  go_wp2
  go_ret2
  exact HW.out

theorem Bss.new1 {w : World} {A1 : Option Addr} {n1 c1 : Nat} {l1 : List UInt8} (t : TypeId) (h1 : Bs w A1 n1 l1) (k1 : n1 ≤ c1) :
    Bss (w.alloc (.cells #[.slice A1 n1 c1] t)) (some ⟨w.heap.size, 0, none⟩) 1 [l1] := by
  have hb := heap_alloc_new w (.cells #[.slice A1 n1 c1] t)
  refine ⟨rfl, fun i l hl => ?_⟩
  match i, hl with
  | 0, hl => cases hl; exact ⟨_, _, A1, n1, c1, rfl, by rw [blk_cell hb]; rfl, h1.below (below_alloc1 _ _), k1⟩

/-- What Implicit finds wrong with the whole. -/
def impE (l : List UInt8) : Int :=
  if (rHead l 0).2.2.2 ≠ 0 then (rHead l 0).2.2.2
  else if (l.length : Int) - (rHead l 0).2.2.1 < (rHead l 0).2.1 then 3
  else if (rHead l 0).2.1 < (l.length : Int) - (rHead l 0).2.2.1 then 7
  else 0
/-- What Implicit hands back. -/
def ImpOk (w : World) (m : Int) (l : List UInt8) (e : Ending) (w' : World) : Prop :=
  (impE l ≠ 0 → e = .returned (.tuple #[.slice none 0 0, .int .i64 (impE l)])) ∧ (impE l = 0 → WrapOk w ⟨2, m, (rHead l 0).1.made⟩ (l.drop (rHead l 0).2.2.1) e w') ∧ Below w.heap.size w w'

set_option maxHeartbeats 3200000 in
theorem bdImplicit (m : Int) (A : Option Addr) (n c : Nat) (l : List UInt8) (w : World) (h : Bs w A n l) (hn : n ≤ 16777216) :
    Calls Try.prog 27 #[.int .i64 m, .slice A n c] w (ImpOk w m l) := by
  have hln := h.len
  subst hln
  have hRd := Lib.hid (fun g s W (hW : Cur W g s l 0) => hdRead g 0 l W hW)
  have hge := rHead_ok l 0
  have HO : Hid (∀ W g s e w', HeadOk W g s l 0 e w' → e = .returned (.tuple #[(rHead l 0).1.v, .int .i64 (rHead l 0).2.1, .int .i64 (rHead l 0).2.2.2]) ∧ Cur w' g s l (rHead l 0).2.2.1 ∧ Only g W w') := fun W g s e w' h => h
  have HI : Hid (ImpOk w m l = fun e w' => (impE l ≠ 0 → e = .returned (.tuple #[.slice none 0 0, .int .i64 (impE l)])) ∧ (impE l = 0 → WrapOk w ⟨2, m, (rHead l 0).1.made⟩ (l.drop (rHead l 0).2.2.1) e w') ∧ Below w.heap.size w w') := rfl
  have HE : Hid (impE l = if (rHead l 0).2.2.2 ≠ 0 then (rHead l 0).2.2.2
    else if (l.length : Int) - (rHead l 0).2.2.1 < (rHead l 0).2.1 then 3
    else if (rHead l 0).2.1 < (l.length : Int) - (rHead l 0).2.2.1 then 7 else 0) := rfl
  generalize rHead l 0 = T at *
  obtain ⟨⟨tc, tn, tm⟩, N0, K, E⟩ := T
  unfold Tg.v at *
  simp only at hge HI HE
  go_enter Try.func27, Try.ntmps27
  go_wp2_with fail
  refine (octNew A l.length c l _ h (by omega)).mono ?_
  rintro e w1 ⟨g, s, rfl, hg, hc, hb1⟩
  clear h
  go_wp2_with fail
  refine (hRd.out _ _ _ hc).mono ?_
  intro e w2 hh
  obtain ⟨rfl, hc2, hO2⟩ := HO.out _ _ _ _ _ hh
  have hb2 : Below w.heap.size w w2 := Only.below hO2 hb1 hg hb1.size
  have hglt : g < w2.heap.size := Nat.lt_of_lt_of_le hc.lt hO2.size
  clear hh HO hRd hc hO2 hb1
  have hc3 := hc2.below (below_alloc1 w2 (blk3 tc tn tm))
  have hb3 := hb2.trans ((below_alloc1 w2 (blk3 tc tn tm)).mono hb2.size)
  have o3 := Own3.new w2 (Value.int IntKind.i64 tc) (Value.int IntKind.i64 tn) (Value.bool tm) 36
  have hsz2 := hb2.size
  clear hc2 hb2
  by_cases q : E = 0
  · subst q
    obtain ⟨k0, k1, k2⟩ := hge rfl
    have HE2 : Hid (impE l = if (l.length : Int) - K < N0 then 3 else if N0 < (l.length : Int) - K then 7 else 0) := by
      unfold Hid; rw [HE.out, if_neg (by simp)]
    clear HE hge
    by_cases a1 : (l.length : Int) - K < N0
    · have e1 : decide ((l.length : Int) - K < N0) = true := by simp; exact a1
      have HE3 : Hid (impE l = 3) := by unfold Hid; rw [HE2.out, if_pos a1]
      clear a1 HE2
      go_wp2_with fail
      refine (curLeft g K l _ hc3).mono ?_
      rintro e w4 ⟨rfl, hq⟩
      have hb4 := hb3.trans (hq.below (B := w.heap.size))
      clear hb3 hc3 o3 hq
      go_wp2
      go_ret2
      rw [HI.out, HE3.out]
      exact ⟨fun _ => rfl, fun h => by simp at h, hb4⟩
    · have e1 : decide ((l.length : Int) - K < N0) = false := by simp; omega
      by_cases a2 : N0 < (l.length : Int) - K
      · have e2 : decide (N0 < (l.length : Int) - K) = true := by simp; exact a2
        have HE3 : Hid (impE l = 7) := by unfold Hid; rw [HE2.out, if_neg a1, if_pos a2]
        clear a1 a2 HE2
        go_wp2_with fail
        refine (curLeft g K l _ hc3).mono ?_
        rintro e w4 ⟨rfl, hq⟩
        have hb4 := hb3.trans (hq.below (B := w.heap.size))
        have hc4 := hc3.qt hq
        clear hb3 hc3 o3 hq
        go_wp2_with fail
        refine (curLeft g K l _ hc4).mono ?_
        rintro e w5 ⟨rfl, hq⟩
        have hb5 := hb4.trans (hq.below (B := w.heap.size))
        clear hb4 hc4 hq
        go_wp2
        go_ret2
        rw [HI.out, HE3.out]
        exact ⟨fun _ => rfl, fun h => by simp at h, hb5⟩
      · have e2 : decide (N0 < (l.length : Int) - K) = false := by simp; omega
        have HE3 : Hid (impE l = 0) := by unfold Hid; rw [HE2.out, if_neg a1, if_neg a2]
        have hlen : (l.drop K).length ≤ 16777216 := by simp; omega
        clear a1 a2 HE2
        have hA := Lib.hid (fun (W : World) => hdAt m tm W)
        have hW := Lib.hid (fun (A : Option Addr) (W : World) (hb : Bss W A 1 [l.drop K]) => hdWrapAny ⟨2, m, tm⟩ A 1 1 [l.drop K] W hb (by omega) (by simpa using hlen) (by
          intro k
          unfold rowL
          rcases k with _ | k
          · simpa using (show l.length - K ≤ 1099511627776 by simp at hlen; omega)
          · simp))
        have hT : Hid (∀ (w2 w3 : World) e, Below w.heap.size w w2 → WrapOk w2 ⟨2, m, tm⟩ [l.drop K].flatten e w3 → (∃ A n c, e = .returned (.tuple #[.slice A n c, .int .i64 (if (Tg.mk 2 m tm).rightB then 0 else 1)])) ∧ WrapOk w ⟨2, m, tm⟩ (l.drop K) e w3) := by
          intro w2 w3 e hb hw
          rw [show [l.drop K].flatten = l.drop K by simp] at hw
          obtain ⟨A, n, c, he, _⟩ := hw.form
          refine ⟨⟨A, n, c, he⟩, fun h => ?_, hw.2.1, hb.trans (hw.2.2.mono hb.size)⟩
          obtain ⟨A, n, c, rfl, hob, hb2⟩ := hw.1 h
          exact ⟨A, n, c, rfl, hob.mono hb.size, hb.trans (hb2.mono hb.size)⟩
        clear hlen
        go_wp2_with fail
        refine (curLeft g K l _ hc3).mono ?_
        rintro e w4 ⟨rfl, hq⟩
        have hb4 := hb3.trans (hq.below (B := w.heap.size))
        have hc4 := hc3.qt hq
        have o4 := o3.below hq.below
        have hs4 := (hq.below (B := 0)).size
        clear hb3 hc3 o3 hq
        go_wp2_with fail
        refine (curLeft g K l _ hc4).mono ?_
        rintro e w5 ⟨rfl, hq⟩
        have hb5 := hb4.trans (hq.below (B := w.heap.size))
        have hc5 := hc4.qt hq
        have o5 := o4.below hq.below
        clear hb4 hc4 o4 hq
        obtain ⟨r0, r1, r2, f0, f1, f2⟩ := o5
        go_wp2_with fail
        clear r0 r1 r2 f0 f1 f2
        refine (hA.out _).mono ?_
        rintro e w6 ⟨rfl, hb6⟩
        have hb7 := hb5.trans (hb6.mono hb5.size)
        have hc7 := hc5.below hb6
        clear hb6 hb5 hc5 hA
        go_wp2_with fail
        refine (curRest g K l _ hc7).mono ?_
        rintro e w8 ⟨A8, n8, c8, rfl, hob, _, hO8⟩
        have hb8 := Only.below hO8 hb7 hg hb7.size
        obtain ⟨hbs8, hnc8⟩ := hob.bs
        have hbss := Bss.new1 41 hbs8 hnc8
        have hb9 := hb8.alloc hb8.size (.cells #[.slice A8 n8 c8] 41)
        clear hb7 hc7 hO8 hob hbs8
        go_wp2_with fail
        refine (hW.out _ _ hbss).mono ?_
        intro e w10 hh
        obtain ⟨⟨A5, n5, c5, rfl⟩, hw⟩ := hT.out _ _ _ hb9 hh
        have HW := Lib.hid hw
        have HB := Lib.hid hw.2.2
        clear hh hT hW hw
        generalize (if (Tg.mk 2 m tm).rightB then (0 : Int) else 1) = E at *
        go_wp2
        go_ret2
        rw [HI.out]
        exact ⟨fun h => absurd HE3.out h, fun _ => HW.out, HB.out⟩
  · have e1 : (E != 0) = true := by simp; exact q
    have HE3 : Hid (impE l = E) := by unfold Hid; rw [HE.out, if_pos q]
    have Q := Lib.hid q
    clear q HE hc3 o3
    go_wp2
    go_ret2
    rw [HI.out, HE3.out]
    exact ⟨fun _ => rfl, fun h => absurd h Q.out, hb3⟩

end Go.Proofs.Ytbhfaakhcnkegaa
