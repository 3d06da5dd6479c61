/-
  HeadWraps: the rows that the law cuts, and the loop that gathers them.
-/
import Derived.Test.YtolcfoaffjnibaaLawOpens
import Derived.Test.YtolcfoaffjnibaaCutB
import Derived.Test.YtolcfoaffjnibaaBackB
import Derived.Deep.RegionLaw
import Derived.Deep.RegionHeld3
namespace Go.Proofs.Ytolcfoaffjnibaa
open Go.RowKit
set_option linter.unusedVariables false
set_option linter.unusedSimpArgs false
set_option maxRecDepth 4000

theorem step_appendS {P : Program} {w : World} {ops : Array Oper} {o : Oper} {a : Act} {K : Act → World → Prop} {Q : Exit → Act → World → Prop} {E : Prop} (hgd : o.guard = none) (s x : Operand) (t : TypeId)
    (ho : o.op = .call { callee := .builtin .append, args := #[s, x], argTypes := #[t, t] })
    (base : Nat) (e : TypeId) (i : TypeInfo) (z : Value) (ht : P.underlying t = some (.slice e)) (hi : P.info? e = some i) (hz : i.zero = some z)
    (hsize : i.size = 1) (hby : i.bytes = 24) (hzs : z.cells.size = 1) (v : Value) (k : Nat) (vs : List Value) (hs : a.eval s = v) (hown : w.ownsRow base e 1 v k vs)
    (A : Option Addr) (m c : Nat) (us : List Value) (hx : a.eval x = .slice A m c) (hul : us.length = m) (hus : ∀ j u, us[j]? = some u → ∃ b o, A = some ⟨b, o, none⟩ ∧ w.cell? ⟨b, o + j, none⟩ = some u) (h1 : ∀ u ∈ us, u.oneCell' = true)
    (hb : (k + m) * 24 ≤ 140737488355328) (hbase : base ≤ w.heap.size)
    (h : ∀ v' w', w'.ownsRow base e 1 v' (k + m) (vs ++ us) → w.grownBy w' v.ownBlock → K (a.put o.dst v') w') :
    if Region.wanted o (yielded ops a.tmps) = true then Oper.wp P o a w K Q else E := by
  have hw : Region.wanted o (yielded ops a.tmps) = true := by simp [Region.wanted, hgd]
  rw [if_pos hw]
  obtain ⟨v', w', hrun, h2, h3⟩ := run_appendS (P := P) base t o.type e i z ht hi hz hsize hby hzs hown (c := c) hul hus h1 hb hbase
  unfold Oper.wp execOp
  simp only [ho, resolve, invoke, builtin, Sem.run_bind, Sem.run_pure, Result.andThen_ok, List.map_toArray, List.map_cons, List.map_nil, hs, hx, hrun]
  exact h v' w' h2 h3

theorem one_new {w : World} {v : Value} {t : TypeId} {g : Nat} (hg : w.heap.size = g) : ∀ (j : Nat) (u : Value), [v][j]? = some u → ∃ b o, (some ⟨g, 0, none⟩ : Option Addr) = some ⟨b, o, none⟩ ∧ (w.alloc (.cells #[v] t)).drew.cell? ⟨b, o + j, none⟩ = some u := by
  subst hg
  intro j u hu
  match j, hu with
  | 0, hu => cases hu; exact ⟨_, _, rfl, by show (w.alloc (.cells #[v] t)).cell? _ = _; rw [blk_cell (heap_alloc_new w (.cells #[v] t))]; rfl⟩
  | j + 1, hu => simp at hu

/-- The first k rows, each cut to 150. -/
def cut2 (ls : List (List UInt8)) (k : Nat) : List (List UInt8) := (List.range k).map fun i => (rowL ls i).take 150
theorem cut2_succ (ls : List (List UInt8)) (k : Nat) : cut2 ls (k + 1) = cut2 ls k ++ [(rowL ls k).take 150] := by
  unfold cut2; rw [List.range_succ, List.map_append]; rfl
theorem cut2_len (ls : List (List UInt8)) (k : Nat) : (cut2 ls k).length = k := by simp [cut2]
theorem cut2_mem {ls : List (List UInt8)} {k : Nat} {l : List UInt8} (h : l ∈ cut2 ls k) : l.length ≤ 150 := by
  unfold cut2 at h
  obtain ⟨i, _, rfl⟩ := List.mem_map.1 h
  simp; omega
theorem flatten_short2 {N : Nat} : ∀ {ls : List (List UInt8)}, (∀ l ∈ ls, l.length ≤ N) → ls.flatten.length ≤ ls.length * N
  | [], _ => by simp
  | l :: ls, h => by
    have h1 := h l (List.mem_cons_self ..)
    have h2 := flatten_short2 (ls := ls) fun x hx => h x (List.mem_cons_of_mem _ hx)
    simp only [List.flatten_cons, List.length_append, List.length_cons, Nat.add_mul]
    omega
theorem cut2_flat (ls : List (List UInt8)) (k : Nat) (hk : k ≤ 20) : (cut2 ls k).flatten.length ≤ 3000 := by
  have h2 := flatten_short2 (N := 150) (ls := cut2 ls k) fun l hl => cut2_mem hl
  rw [cut2_len] at h2
  have : k * 150 ≤ 20 * 150 := Nat.mul_le_mul_right _ hk
  omega
theorem cut2_short (ls : List (List UInt8)) (k : Nat) : Short 1099511627776 (cut2 ls k) := by
  intro i
  unfold rowL
  rw [List.getD_eq_getElem?_getD]
  rcases h : (cut2 ls k)[i]? with _ | l
  · simp
  · have := cut2_mem (List.mem_of_getElem? h)
    simp; omega
theorem take150 {w : World} {A : Option Addr} {n : Nat} {l : List UInt8} (h : Bs w A n l) : Bs w A (min n 150) (l.take 150) := by
  have := h.take (m := min n 150) (by omega)
  have hl := h.len
  rw [show l.take (min n 150) = l.take 150 by
    rw [← hl]
    by_cases h5 : l.length ≤ 150
    · rw [Nat.min_eq_left h5, List.take_of_length_le (Nat.le_refl _), List.take_of_length_le h5]
    · rw [Nat.min_eq_right (by omega)]] at this
  exact this

theorem hdWrapAny (t : Tg) (A : Option Addr) (n c : Nat) (ls : List (List UInt8)) (w : World) (h : Bss w A n ls) (hn : n ≤ 1099511627) (htot : ls.flatten.length ≤ 16777216) (hsh : Short 1099511627776 ls) :
    Calls Try.prog 40 #[t.v, .slice A n c] w fun e w' => ∃ A n c E, e = .returned (.tuple #[.slice A n c, .int .i64 E]) ∧ Below w.heap.size w w' ∧
      (t.rightB = true → E = 0 ∧ Bs w' A n (wrapB t ls.flatten) ∧ n ≤ c) ∧ (t.rightB = false → E = 1 ∧ A = none ∧ n = 0 ∧ c = 0) := by
  cases hr : t.rightB
  · have hE : encE t ((min ls.flatten.length 16777217 : Nat) : Int) = 1 := by unfold encE; rw [if_pos hr]
    have := hdWrapNo t A n c ls w h hn hsh (by rw [hE]; decide)
    rw [hE] at this
    refine this.mono ?_
    rintro e w' ⟨rfl, b⟩
    exact ⟨none, 0, 0, 1, rfl, b, (fun h => by cases h), fun _ => ⟨rfl, rfl, rfl, rfl⟩⟩
  · refine (hdWrap t A n c ls w hr h hn htot hsh).mono ?_
    rintro e w' ⟨A', n', c', rfl, hob, b⟩
    exact ⟨A', n', c', 0, rfl, b, fun _ => ⟨rfl, hob.bs.1, hob.bs.2⟩, (fun h => by cases h)⟩
theorem modU4 (z d : Int) (h0 : 0 < d) (hd : d ≤ 1099511627777) : 0 ≤ wrap64 ((IntKind.u64.wrap z).tmod d) ∧ wrap64 ((IntKind.u64.wrap z).tmod d) < d := by
  have h1 : 0 ≤ IntKind.u64.wrap z := by simp [IntKind.wrap, IntKind.bits, IntKind.signed]; omega
  rw [Int.tmod_eq_emod_of_nonneg h1]
  have h3 := Int.emod_nonneg (IntKind.u64.wrap z) (show d ≠ 0 by omega)
  have h4 := Int.emod_lt_of_pos (IntKind.u64.wrap z) h0
  unfold wrap64
  omega

theorem lenB_pos (n : Int) : 0 < (lenB n).length := by unfold lenB; split <;> (try split) <;> (try split) <;> (try split) <;> simp
theorem lt_own {W : World} {R : Nat} {a b c : Value} (h : Own3 W R a b c) : R < W.heap.size := World.block_lt_of_cell? W _ h.1
theorem hdAloneCut (A : Option Addr) (n c : Nat) (l : List UInt8) (t : Tg) (w : World) (h : Bs w A n l) (hn : n ≤ 1099511627776) (hr : rAlone l t = ([], 3)) :
    Calls Try.prog 36 #[.slice A n c, t.v] w fun e w' => ∃ p, e = .returned (.tuple #[.pointer p, .int .i64 3]) ∧ Below w.heap.size w w' := by
  refine (hdAlone A n c l t w h hn).mono ?_
  rintro e w' ⟨p, rfl, b, _, _⟩
  rw [hr]
  exact ⟨p, rfl, b⟩

set_option maxHeartbeats 12800000 in
theorem lawWraps (t : Tg) (L M : Option Addr) (p cL n cM : Nat) (ls : List (List UInt8)) (more : List UInt8) (z : Int) (w : World) (hL : Bss w L p ls) (hcL : p ≤ cL) (hM : Bs w M n more) (hcM : n ≤ cM) :
    Calls Try.prog 6 #[t.v, .slice L p cL, .slice M n cM, .int .i64 z] w fun e w' => e = .returned (.bool true) ∧ Below w.heap.size w w' := by
  obtain ⟨i1, hi1, hz0, hz1, hz2⟩ := info_parts sl_info
  have hTo := Lib.hid (fun W => lawTo t W)
  have hRt := Lib.hid (fun W => refRight t W)
  obtain ⟨tc, tn, tm⟩ := t
  unfold Tg.v at hTo hRt ⊢
  have o0 := Own3.new w (.int .i64 tc) (.int .i64 tn) (.bool tm) 23
  have B0 := below_alloc1 w (blkR tc tn tm)
  go_enter Try.func6, Try.ntmps6
  go_wp2
  go_loopw [9, 10] (fun v i wr => ∃ (k : Nat) (vs : List Value), k ≤ p ∧ k ≤ 20 ∧ i = .int .i64 k ∧ wr.ownsRow (w.heap.size + 1) 25 1 v k vs ∧ Below w.heap.size w wr ∧ Own3 wr w.heap.size (.int .i64 tc) (.int .i64 tn) (.bool tm) ∧ w.heap.size + 1 ≤ wr.heap.size ∧
      Hid (Vss w vs (cut2 ls k))) (fun _ i _ => 20 - (intOf i).toNat)
  case atStart => exact ⟨0, [], Nat.zero_le _, Nat.zero_le _, rfl, World.ownsRow_nil _ _ _ _, B0, o0, by simp, Vss.nil _⟩
  case round =>
    obtain ⟨k, vs, hkp, hk20, rfl, hown, hbel, ho, hsz, hvs⟩ := hrel
    clear o0 B0
    by_cases hlt : k < p ∧ k < 20
    · obtain ⟨hl1, hl2⟩ := hlt
      obtain ⟨bL, oL, Ai, ni, ci, rfl, hci, hbsi, hnci⟩ := hL.at_ hl1
      have hcr : wr.cell? ⟨bL, oL + k, none⟩ = some (.slice Ai ni ci) := (hbel.cell (World.block_lt_of_cell? w _ hci)).trans hci
      have g1 : (k : Int) < p := by omega
      have g2 : decide ((k : Int) < 20) = true := by simp; omega
      have hnew := Lib.hid (take150 hbsi)
      have hvl : Hid (vs.length = k) := by have := hown.1; unfold Hid; omega
      have hlt' := Lib.hid (fun k hk => World.ownsRow.lt hown k hk)
      have fin : Hid (∀ (x : Nat) (o : Obj) (v' : Value) (w1 : World), x = min ni 150 → w1.ownsRow (w.heap.size + 1) 25 1 v' (k + 1) (vs ++ [.slice Ai x ci]) → ((wr.alloc o).drew).grownBy w1 u9.ownBlock →
          Below w.heap.size w w1 ∧ Own3 w1 w.heap.size (.int .i64 tc) (.int .i64 tn) (.bool tm) ∧ w.heap.size + 1 ≤ w1.heap.size ∧ Hid (Vss w (vs ++ [.slice Ai x ci]) (cut2 ls (k + 1)))) := by
        rintro x o v' w1 rfl hown1 hg1
        refine ⟨((hbel.alloc hbel.size o).drew).grown hg1 (by have := hbel.size; simp [World.drew]; omega) (fun k hk => by have := (hlt'.out k hk).1; omega), ?_, ?_, ?_⟩
        · refine Own3.grown (W := (wr.alloc o).drew) (Own3.below ho ((below_alloc1 wr o).drew)) hg1 (fun e => ?_)
          have := (hlt'.out w.heap.size e.symm).1
          omega
        · have := hg1.size; simp [World.drew] at this; omega
        · unfold Hid
          rw [cut2_succ]
          exact hvs.out.append (Vss.cons hnew.out (by omega) (Vss.nil _))
      have FIN := fin
      by_cases h150 : ni ≤ 150
      · have hif : (if (150 : Int) < ni then (150 : Int) else ni) = ni := if_neg (by omega)
        have hnc : (ni : Int) ≤ ci := by omega
        clear h150
        have hx : Hid (ni = min ni 150) := by unfold Hid; omega
        go_wp2
        go_region_law ((refine step_appendS (by rfl) _ _ 71 (by rfl) (w.heap.size + 1) 25 i1 (.slice none 0 0) Try.underlying71 hi1 hz0 hz1 hz2 rfl _ k vs (by rfl) (World.ownsRow.alloc hown _) _ 1 1 [.slice Ai ni ci] (by rfl) rfl (one_new (by first | rfl | simp)) (by intro u hu; simp at hu; subst hu; rfl) (by omega) (by simp; omega) ?_; intro v' w1 hown1 hg1))
        all_goals
          obtain ⟨F1, F2, F3, F4⟩ := FIN.out _ _ _ _ hx.out hown1 hg1
          go_wp2
          go_roundw
          case rel => exact ⟨k + 1, _, by omega, by omega, by go_num, hown1, F1, F2, F3, F4⟩
          case measure => simp [intOf]; omega
      · have hif : (if (150 : Int) < ni then (150 : Int) else ni) = 150 := if_pos (by omega)
        have hnc : (150 : Int) ≤ ci := by omega
        clear h150
        have hx : Hid (150 = min ni 150) := by unfold Hid; omega
        go_wp2
        go_region_law ((refine step_appendS (by rfl) _ _ 71 (by rfl) (w.heap.size + 1) 25 i1 (.slice none 0 0) Try.underlying71 hi1 hz0 hz1 hz2 rfl _ k vs (by rfl) (World.ownsRow.alloc hown _) _ 1 1 [.slice Ai 150 ci] (by rfl) rfl (one_new (by first | rfl | simp)) (by intro u hu; simp at hu; subst hu; rfl) (by omega) (by simp; omega) ?_; intro v' w1 hown1 hg1))
        all_goals
          obtain ⟨F1, F2, F3, F4⟩ := FIN.out _ _ _ _ hx.out hown1 hg1
          go_wp2
          go_roundw
          case rel => exact ⟨k + 1, _, by omega, by omega, by go_num, hown1, F1, F2, F3, F4⟩
          case measure => simp [intOf]; omega
    · obtain ⟨Mm, cm, rfl, hcm, hBm⟩ := bss_own hown (hvs.out.keep fun A n l hb => hb.below hbel)
      have hsh := cut2_short ls k
      have hfl := cut2_flat ls k hk20
      clear hvs hown
      generalize cut2 ls k = ms at *
      have hWA := Lib.hid (fun W hW => hdWrapAny ⟨tc, tn, tm⟩ Mm k cm ms W hW (by omega) (by omega) hsh)
      have hrr := Lib.hid (Tg.rightB_iff ⟨tc, tn, tm⟩)
      have hJn := Lib.hid (fun W hW => refJoin Mm k cm ms W hW (by omega) (by omega))
      have hSN : Hid (∀ (x : Nat), Tg.rightB ⟨tc, tn, tm⟩ = false → ∀ W, Calls Try.prog 41 #[Tg.v ⟨tc, tn, tm⟩, .int .i64 (x : Int)] W fun e w' => e = .returned (.int .i64 0) ∧ Below W.heap.size W w') := fun x hr W => hdSizeNo ⟨tc, tn, tm⟩ (x : Int) W (by unfold encE; rw [if_pos hr]; decide)
      have hSZ : Hid (∀ (x : Nat), Tg.rightB ⟨tc, tn, tm⟩ = true → x ≤ 16777216 → ∀ W, Calls Try.prog 41 #[Tg.v ⟨tc, tn, tm⟩, .int .i64 (x : Int)] W fun e w' => e = .returned (.int .i64 (((tagB ⟨tc, tn, tm⟩).length : Int) + ((lenB (x : Int)).length : Int) + (x : Int))) ∧ Below W.heap.size W w') := fun x hr hx W => hdSize ⟨tc, tn, tm⟩ (x : Int) W (by unfold encE; rw [if_neg (by rw [hr]; decide), if_neg (by omega), if_neg (by omega)])
      have hrW := Lib.hid (fun A n c W hr hb hn => refWrap ⟨tc, tn, tm⟩ A n c ms.flatten W hr hb hn)
      have hOp := Lib.hid (fun g s l (W : World) (hW : Cur W g s l 0) => hdOpen g 0 l ⟨tc, tn, tm⟩ W hW)
      unfold Tg.v at hWA hSN hSZ hrW hOp
      generalize ms.flatten = F at *
      generalize Tg.rightB ⟨tc, tn, tm⟩ = OK at *
      by_cases hkp' : k < p
      · have g1 : (k : Int) < p := by omega
        have g2 : decide ((k : Int) < 20) = false := by simp; omega
        go_wp2_with fail
        refine (hJn.out _ hBm).mono ?_
        rintro e w1 ⟨A1, n1, c1, rfl, hob1, b1⟩
        have B1 := bstep hbel b1
        have o1 := ho.below b1
        have hBm1 := hBm.below b1
        have s1 := hob1.bs.1
        have hn1 : n1 ≤ 3000 := by have := s1.len; omega
        have HL1 := Lib.hid s1.len
        obtain ⟨p0, p1, p2, _, _, _⟩ := o1
        have o1 := ho.below b1
        clear hob1 hBm ho hbel b1
        go_wp2_with fail
        refine (hTo.out _).mono ?_
        rintro e w2 ⟨rfl, b2⟩
        have B2 := bstep B1 b2
        have o2 := o1.below b2
        have hBm2 := hBm1.below b2
        have s2 := s1.below b2
        clear p0 p1 p2 o1 hBm1 s1 B1 b2
        go_wp2_with fail
        refine (hWA.out _ hBm2).mono ?_
        rintro e w3 ⟨A3, n3, c3, E3, rfl, b3, k1, k2⟩
        have B3 := bstep B2 b3
        have o3 := o2.below b3
        have s3 := s2.below b3
        have K1 := Lib.hid k1
        have K2 := Lib.hid k2
        obtain ⟨p0, p1, p2, _, _, _⟩ := o3
        have o3 := o2.below b3
        clear hBm2 s2 B2 b3 k1 k2 o2 hWA
        go_wp2_with fail
        refine (hRt.out _).mono ?_
        rintro e w4 ⟨rfl, b4⟩
        have B4 := bstep B3 b4
        have o4 := o3.below b4
        have s4 := s3.below b4
        have K1' : Hid (OK = true → E3 = 0 ∧ Bs w4 A3 n3 (wrapB ⟨tc, tn, tm⟩ F) ∧ n3 ≤ c3) := fun h => ⟨(K1.out h).1, (K1.out h).2.1.below b4, (K1.out h).2.2⟩
        clear p0 p1 p2 o3 s3 B3 b4 K1
        cases OK
        · obtain ⟨rfl, rfl, rfl, rfl⟩ := K2.out rfl
          go_wp2_with fail
          refine (known2 _).mono ?_
          rintro e w5 ⟨rfl, b5⟩
          have B5 := bstep B4 b5
          obtain ⟨p0, p1, p2, _, _, _⟩ := o4.below b5
          clear o4 s4 B4 b5
          go_wp2_with fail
          refine (hTo.out _).mono ?_
          rintro e w6 ⟨rfl, b6⟩
          have B6 := bstep B5 b6
          go_wp2_with fail
          refine (hSN.out n1 (by trivial) _).mono ?_
          rintro e w7 ⟨rfl, b7⟩
          have B7 := bstep B6 b7
          go_wp2
          go_ret
          exact ⟨rfl, B7⟩
        · obtain ⟨rfl, hb3, hc3⟩ := K1'.out rfl
          have hright : Hid (Tg.right ⟨tc, tn, tm⟩) := hrr.out.1 (by trivial)
          have hwl := hb3.len
          have hw3 : (n3 : Int) = ((tagB ⟨tc, tn, tm⟩).length : Int) + ((lenB (n1 : Int)).length : Int) + (n1 : Int) := by
            unfold wrapB at hwl
            rw [List.length_append, List.length_append, HL1.out] at hwl
            omega
          have hl1 := tagB_len ⟨tc, tn, tm⟩
          have hl2 := lenB_len (n1 : Int)
          have hn3 : n3 ≤ 4000 := by omega
          have hn3p : 0 < n3 := by have := lenB_pos (n1 : Int); omega
          have hSz := Lib.hid (hSZ.out n1 (by trivial) (by omega))
          rw [← hw3] at hSz
          have HW3 := Lib.hid hwl
          clear hw3 hl1 hl2 hwl K2 K1'
          go_wp2_with fail
          refine (known2 _).mono ?_
          rintro e w5 ⟨rfl, b5⟩
          have B5 := bstep B4 b5
          have o5 := o4.below b5
          have s5 := s4.below b5
          have hb5 := hb3.below b5
          obtain ⟨p0, p1, p2, _, _, _⟩ := o5
          have o5 := o4.below b5
          clear o4 s4 B4 b5 hb3
          go_wp2_with fail
          refine (hrW.out A1 n1 c1 _ hright.out s5 (by omega)).mono ?_
          rintro e w6 ⟨A6, n6, c6, rfl, hob6, b6⟩
          have B6 := bstep B5 b6
          have o6 := o5.below b6
          have s6 := s5.below b6
          have hb6 := hb5.below b6
          have hn6 : n6 ≤ 4000 := by have := hob6.bs.1.len; have := HW3.out; omega
          clear p0 p1 p2 o5 s5 B5 b6 hb5
          go_wp2_with fail
          refine (refSame A3 A6 n3 n6 c3 c6 _ _ _ hb6 hob6.bs.1 (by omega) (by omega)).mono ?_
          rintro e w7 ⟨rfl, q7⟩
          rw [decide_eq_true rfl]
          have B7 := B6.trans q7.below
          have o7 := o6.below q7.below
          have s7 := s6.qt q7
          have hb7 := hb6.qt q7
          obtain ⟨p0, p1, p2, _, _, _⟩ := o7
          have o7 := o6.below q7.below
          clear o6 s6 B6 hb6 hob6
          go_wp2_with fail
          refine (hTo.out _).mono ?_
          rintro e w8 ⟨rfl, b8⟩
          have B8 := bstep B7 b8
          have o8 := o7.below b8
          have s8 := s7.below b8
          have hb8 := hb7.below b8
          clear p0 p1 p2 o7 s7 B7 hb7 b8 q7
          go_wp2_with fail
          refine (hSz.out _).mono ?_
          rintro e w9 ⟨rfl, b9⟩
          have B9 := bstep B8 b9
          have o9 := o8.below b9
          have s9 := s8.below b9
          have hb9 := hb8.below b9
          clear o8 s8 B8 hb8 b9
          have hMn : Bs w9 M (min n 3000) (more.take (min n 3000)) := (hM.below B9).take (by omega)
          have hMl : min n 3000 ≤ 3000 := by omega
          have hMc : min n 3000 ≤ cM := by omega
          go_wp2_with fail
          refine (few2 M n cM _ hcM).mono ?_
          rintro e w0 ⟨rfl, rfl⟩
          generalize min n 3000 = nm at *
          generalize more.take nm = mm at *
          have hBss := Bss.new2 25 hb9 hMn hc3 hMc (m := w9.heap.size) rfl
          have b10 := below_alloc1 w9 (.cells #[.slice A3 n3 c3, .slice M nm cM] 25)
          have B10 := bstep B9 b10
          have o10 := o9.below b10
          have s10 := s9.below b10
          have hb10 := hb9.below b10
          have hml := Lib.hid hMn.len
          have hfl2 : Hid ([wrapB ⟨tc, tn, tm⟩ F, mm].flatten = wrapB ⟨tc, tn, tm⟩ F ++ mm) := by unfold Hid; simp
          have hfb : Hid ([wrapB ⟨tc, tn, tm⟩ F, mm].flatten.length ≤ 1099511627776) := by
            unfold Hid; rw [hfl2.out, List.length_append, HW3.out, hml.out]; omega
          clear o9 s9 B9 hb9 b10 hMn
          go_wp2_with fail
          refine (octJoin _ _ _ _ _ hBss (by omega) hfb.out).mono ?_
          rw [hfl2.out]
          rintro e w11 ⟨A11, n11, c11, rfl, hob11, b11⟩
          have B11 := bstep B10 b11
          have o11 := o10.below b11
          have s11 := s10.below b11
          have hb11 := hb10.below b11
          have hn11 : n11 ≤ 1099511627776 := by have := hob11.bs.1.len; rw [List.length_append, HW3.out, hml.out] at this; omega
          clear o10 s10 B10 hb10 b11 hBss hfb hfl2
          go_wp2_with fail
          refine (octNew A11 n11 c11 _ _ hob11.bs.1 hn11).mono ?_
          rintro e w12 ⟨g, s, rfl, hg, hc12, b12⟩
          have B12 := bstep B11 b12
          have o12 := o11.below b12
          have s12 := s11.below b12
          have hb12 := hb11.below b12
          have hgw : w.heap.size < g := Nat.lt_of_lt_of_le (lt_own o11) hg
          obtain ⟨p0, p1, p2, _, _, _⟩ := o12
          have o12 := o11.below b12
          clear o11 s11 B11 hb11 b12 hob11 hn11 hg
          go_wp2_with fail
          refine (hTo.out _).mono ?_
          rintro e w13 ⟨rfl, b13⟩
          have B13 := bstep B12 b13
          have o13 := o12.below b13
          have s13 := s12.below b13
          have hb13 := hb12.below b13
          have hc13 := hc12.below b13
          clear p0 p1 p2 o12 s12 B12 hb12 b13 hc12
          have hro := rOpen_wrapB [] mm F ⟨tc, tn, tm⟩ hright.out (by omega)
          rw [List.nil_append, List.length_nil, Nat.zero_add, HW3.out] at hro
          go_wp2_with fail
          refine (hOp.out g s (wrapB ⟨tc, tn, tm⟩ F ++ mm) _ hc13).mono ?_
          unfold OpenOk
          rw [hro]
          rintro e w14 ⟨pI, rfl, hc14, hO14, hI1, _⟩
          obtain ⟨g2, s2, rfl, hg2, hcI⟩ := hI1 rfl
          have hc14 : Cur w14 g s (wrapB ⟨tc, tn, tm⟩ F ++ mm) n3 := hc14
          have hcI : Cur w14 g2 s2 F 0 := hcI
          have B14 := hO14.below B13 (by omega) B13.size
          have o14 := o13.only hO14 (by omega)
          have s14 := s13.only hO14 hc13.noByte
          have hb14 := hb13.only hO14 hc13.noByte
          have hg2w : w.heap.size ≤ g2 := Nat.le_trans B13.size hg2
          have hne : g ≠ g2 := by have := hc13.lt; omega
          clear o13 s13 B13 hb13 hO14 hc13 hro hI1 hg2
          have hkm := modU4 z (n3 : Int) (by omega) (by omega)
          have e0 : ((n3 : Int) == 0) = false := by simp; omega
          go_wp2
          generalize wrap64 ((IntKind.u64.wrap z).tmod (n3 : Int)) = KK at *
          obtain ⟨kc, rfl⟩ : ∃ kc : Nat, KK = kc := ⟨KK.toNat, by omega⟩
          have hkc : kc < n3 := by omega
          have hkcc : (kc : Int) ≤ c3 := by omega
          have hbT : Bs w14 A3 kc ((wrapB ⟨tc, tn, tm⟩ F).take kc) := hb14.take (by omega)
          have hcutE := rAlone_cut ⟨tc, tn, tm⟩ F kc hright.out (by omega) (by rw [HW3.out]; exact hkc)
          obtain ⟨W0, hW0⟩ : ∃ W0, W0 = w14.drew := ⟨_, rfl⟩
          have HW0 := Lib.hid hW0
          have hbT0 : Hid (Bs W0 A3 kc ((wrapB ⟨tc, tn, tm⟩ F).take kc)) := by unfold Hid; rw [hW0]; exact hbT.drew
          have hB00 : Hid (Below W0.heap.size W0 w14.drew) := by unfold Hid; rw [hW0]; exact Below.refl _ _
          clear hW0 hbT
          obtain ⟨p0, p1, p2, _, _, _⟩ := o14
          have STP : Hid (∀ a b : World, Below a.heap.size a b → (a.cell? ⟨w.heap.size, 0, none⟩ = some (.int .i64 tc) ∧ a.cell? ⟨w.heap.size, 1, none⟩ = some (.int .i64 tn) ∧ a.cell? ⟨w.heap.size, 2, none⟩ = some (.bool tm) ∧ Below W0.heap.size W0 a) → (b.cell? ⟨w.heap.size, 0, none⟩ = some (.int .i64 tc) ∧ b.cell? ⟨w.heap.size, 1, none⟩ = some (.int .i64 tn) ∧ b.cell? ⟨w.heap.size, 2, none⟩ = some (.bool tm) ∧ Below W0.heap.size W0 b)) := by
            rintro a b hb ⟨h1, h2, h3, h4⟩
            have kp : ∀ {q : Addr} {v : Value}, a.cell? q = some v → b.cell? q = some v := fun hq => (hb.cell (World.block_lt_of_cell? a _ hq)).trans hq
            exact ⟨kp h1, kp h2, kp h3, bstep h4 hb⟩
          have SPR : Hid (∀ a : World, (a.cell? ⟨w.heap.size, 0, none⟩ = some (.int .i64 tc) ∧ a.cell? ⟨w.heap.size, 1, none⟩ = some (.int .i64 tn) ∧ a.cell? ⟨w.heap.size, 2, none⟩ = some (.bool tm) ∧ Below W0.heap.size W0 a) → Below W0.heap.size W0 a) := fun a h => h.2.2.2
          have hAl := Lib.hid (fun W (hW : Below W0.heap.size W0 W) => hdAloneCut A3 kc c3 _ ⟨tc, tn, tm⟩ W (hbT0.out.below hW) (by omega) hcutE)
          unfold Tg.v at hAl
          go_region_held3 (fun w' => w'.cell? ⟨w.heap.size, 0, none⟩ = some (.int .i64 tc) ∧ w'.cell? ⟨w.heap.size, 1, none⟩ = some (.int .i64 tn) ∧ w'.cell? ⟨w.heap.size, 2, none⟩ = some (.bool tm) ∧ Below W0.heap.size W0 w') (first | exact ⟨p0, p1, p2, hB00.out⟩ | assumption)
            (first
             | (go_at_call 11; refine (hTo.out _).mono ?_; rintro e wK ⟨rfl, bK⟩; have hS2 := STP.out _ _ bK (by assumption))
             | (go_at_call 36; refine (hAl.out _ (SPR.out _ (by assumption))).mono ?_; rintro e w15 ⟨pO, rfl, b15⟩; have F15 := bstep (SPR.out _ (by assumption)) b15; have hS2 := STP.out _ _ b15 (by assumption)))
          all_goals
            have b16 : Below w14.heap.size w14 w15 := by have := F15; rw [HW0.out] at this; exact (Below.drew (Below.refl _ _)).trans this
            have B16 := bstep B14 b16
            have s16 := s14.below b16
            have hc16 := hc14.below b16
            have hcI16 := hcI.below b16
            go_wp2_with fail
            refine (curRest g2 0 F _ hcI16).mono ?_
            rintro e w17 ⟨A17, n17, c17, rfl, hob17, _, hO17⟩
            have B17 := hO17.below B16 hg2w B16.size
            have s17 := s16.only hO17 hcI16.noByte
            have hc17 := hc16.only hO17 hne hcI16.noByte
            have hb17 := hob17.bs.1
            rw [List.drop_zero] at hb17
            have hn17 : n17 ≤ 1099511627776 := by have := hb17.len; have := HL1.out; omega
            go_wp2_with fail
            refine (refSame A17 A1 n17 n1 c17 c1 _ _ _ hb17 s17 hn17 (by omega)).mono ?_
            rintro e w18 ⟨rfl, q18⟩
            rw [decide_eq_true rfl]
            have B18 := B17.trans q18.below
            go_wp2_with fail
            refine (curAt g n3 _ _ (hc17.qt q18)).mono ?_
            rintro e w19 ⟨rfl, rfl⟩
            go_wp2
            go_ret
            exact ⟨rfl, B18⟩
      · have g1 : ¬ (k : Int) < p := by omega
        go_wp2_with fail
        refine (hJn.out _ hBm).mono ?_
        rintro e w1 ⟨A1, n1, c1, rfl, hob1, b1⟩
        have B1 := bstep hbel b1
        have o1 := ho.below b1
        have hBm1 := hBm.below b1
        have s1 := hob1.bs.1
        have hn1 : n1 ≤ 3000 := by have := s1.len; omega
        have HL1 := Lib.hid s1.len
        obtain ⟨p0, p1, p2, _, _, _⟩ := o1
        have o1 := ho.below b1
        clear hob1 hBm ho hbel b1
        go_wp2_with fail
        refine (hTo.out _).mono ?_
        rintro e w2 ⟨rfl, b2⟩
        have B2 := bstep B1 b2
        have o2 := o1.below b2
        have hBm2 := hBm1.below b2
        have s2 := s1.below b2
        clear p0 p1 p2 o1 hBm1 s1 B1 b2
        go_wp2_with fail
        refine (hWA.out _ hBm2).mono ?_
        rintro e w3 ⟨A3, n3, c3, E3, rfl, b3, k1, k2⟩
        have B3 := bstep B2 b3
        have o3 := o2.below b3
        have s3 := s2.below b3
        have K1 := Lib.hid k1
        have K2 := Lib.hid k2
        obtain ⟨p0, p1, p2, _, _, _⟩ := o3
        have o3 := o2.below b3
        clear hBm2 s2 B2 b3 k1 k2 o2 hWA
        go_wp2_with fail
        refine (hRt.out _).mono ?_
        rintro e w4 ⟨rfl, b4⟩
        have B4 := bstep B3 b4
        have o4 := o3.below b4
        have s4 := s3.below b4
        have K1' : Hid (OK = true → E3 = 0 ∧ Bs w4 A3 n3 (wrapB ⟨tc, tn, tm⟩ F) ∧ n3 ≤ c3) := fun h => ⟨(K1.out h).1, (K1.out h).2.1.below b4, (K1.out h).2.2⟩
        clear p0 p1 p2 o3 s3 B3 b4 K1
        cases OK
        · obtain ⟨rfl, rfl, rfl, rfl⟩ := K2.out rfl
          go_wp2_with fail
          refine (known2 _).mono ?_
          rintro e w5 ⟨rfl, b5⟩
          have B5 := bstep B4 b5
          obtain ⟨p0, p1, p2, _, _, _⟩ := o4.below b5
          clear o4 s4 B4 b5
          go_wp2_with fail
          refine (hTo.out _).mono ?_
          rintro e w6 ⟨rfl, b6⟩
          have B6 := bstep B5 b6
          go_wp2_with fail
          refine (hSN.out n1 (by trivial) _).mono ?_
          rintro e w7 ⟨rfl, b7⟩
          have B7 := bstep B6 b7
          go_wp2
          go_ret
          exact ⟨rfl, B7⟩
        · obtain ⟨rfl, hb3, hc3⟩ := K1'.out rfl
          have hright : Hid (Tg.right ⟨tc, tn, tm⟩) := hrr.out.1 (by trivial)
          have hwl := hb3.len
          have hw3 : (n3 : Int) = ((tagB ⟨tc, tn, tm⟩).length : Int) + ((lenB (n1 : Int)).length : Int) + (n1 : Int) := by
            unfold wrapB at hwl
            rw [List.length_append, List.length_append, HL1.out] at hwl
            omega
          have hl1 := tagB_len ⟨tc, tn, tm⟩
          have hl2 := lenB_len (n1 : Int)
          have hn3 : n3 ≤ 4000 := by omega
          have hn3p : 0 < n3 := by have := lenB_pos (n1 : Int); omega
          have hSz := Lib.hid (hSZ.out n1 (by trivial) (by omega))
          rw [← hw3] at hSz
          have HW3 := Lib.hid hwl
          clear hw3 hl1 hl2 hwl K2 K1'
          go_wp2_with fail
          refine (known2 _).mono ?_
          rintro e w5 ⟨rfl, b5⟩
          have B5 := bstep B4 b5
          have o5 := o4.below b5
          have s5 := s4.below b5
          have hb5 := hb3.below b5
          obtain ⟨p0, p1, p2, _, _, _⟩ := o5
          have o5 := o4.below b5
          clear o4 s4 B4 b5 hb3
          go_wp2_with fail
          refine (hrW.out A1 n1 c1 _ hright.out s5 (by omega)).mono ?_
          rintro e w6 ⟨A6, n6, c6, rfl, hob6, b6⟩
          have B6 := bstep B5 b6
          have o6 := o5.below b6
          have s6 := s5.below b6
          have hb6 := hb5.below b6
          have hn6 : n6 ≤ 4000 := by have := hob6.bs.1.len; have := HW3.out; omega
          clear p0 p1 p2 o5 s5 B5 b6 hb5
          go_wp2_with fail
          refine (refSame A3 A6 n3 n6 c3 c6 _ _ _ hb6 hob6.bs.1 (by omega) (by omega)).mono ?_
          rintro e w7 ⟨rfl, q7⟩
          rw [decide_eq_true rfl]
          have B7 := B6.trans q7.below
          have o7 := o6.below q7.below
          have s7 := s6.qt q7
          have hb7 := hb6.qt q7
          obtain ⟨p0, p1, p2, _, _, _⟩ := o7
          have o7 := o6.below q7.below
          clear o6 s6 B6 hb6 hob6
          go_wp2_with fail
          refine (hTo.out _).mono ?_
          rintro e w8 ⟨rfl, b8⟩
          have B8 := bstep B7 b8
          have o8 := o7.below b8
          have s8 := s7.below b8
          have hb8 := hb7.below b8
          clear p0 p1 p2 o7 s7 B7 hb7 b8 q7
          go_wp2_with fail
          refine (hSz.out _).mono ?_
          rintro e w9 ⟨rfl, b9⟩
          have B9 := bstep B8 b9
          have o9 := o8.below b9
          have s9 := s8.below b9
          have hb9 := hb8.below b9
          clear o8 s8 B8 hb8 b9
          have hMn : Bs w9 M (min n 3000) (more.take (min n 3000)) := (hM.below B9).take (by omega)
          have hMl : min n 3000 ≤ 3000 := by omega
          have hMc : min n 3000 ≤ cM := by omega
          go_wp2_with fail
          refine (few2 M n cM _ hcM).mono ?_
          rintro e w0 ⟨rfl, rfl⟩
          generalize min n 3000 = nm at *
          generalize more.take nm = mm at *
          have hBss := Bss.new2 25 hb9 hMn hc3 hMc (m := w9.heap.size) rfl
          have b10 := below_alloc1 w9 (.cells #[.slice A3 n3 c3, .slice M nm cM] 25)
          have B10 := bstep B9 b10
          have o10 := o9.below b10
          have s10 := s9.below b10
          have hb10 := hb9.below b10
          have hml := Lib.hid hMn.len
          have hfl2 : Hid ([wrapB ⟨tc, tn, tm⟩ F, mm].flatten = wrapB ⟨tc, tn, tm⟩ F ++ mm) := by unfold Hid; simp
          have hfb : Hid ([wrapB ⟨tc, tn, tm⟩ F, mm].flatten.length ≤ 1099511627776) := by
            unfold Hid; rw [hfl2.out, List.length_append, HW3.out, hml.out]; omega
          clear o9 s9 B9 hb9 b10 hMn
          go_wp2_with fail
          refine (octJoin _ _ _ _ _ hBss (by omega) hfb.out).mono ?_
          rw [hfl2.out]
          rintro e w11 ⟨A11, n11, c11, rfl, hob11, b11⟩
          have B11 := bstep B10 b11
          have o11 := o10.below b11
          have s11 := s10.below b11
          have hb11 := hb10.below b11
          have hn11 : n11 ≤ 1099511627776 := by have := hob11.bs.1.len; rw [List.length_append, HW3.out, hml.out] at this; omega
          clear o10 s10 B10 hb10 b11 hBss hfb hfl2
          go_wp2_with fail
          refine (octNew A11 n11 c11 _ _ hob11.bs.1 hn11).mono ?_
          rintro e w12 ⟨g, s, rfl, hg, hc12, b12⟩
          have B12 := bstep B11 b12
          have o12 := o11.below b12
          have s12 := s11.below b12
          have hb12 := hb11.below b12
          have hgw : w.heap.size < g := Nat.lt_of_lt_of_le (lt_own o11) hg
          obtain ⟨p0, p1, p2, _, _, _⟩ := o12
          have o12 := o11.below b12
          clear o11 s11 B11 hb11 b12 hob11 hn11 hg
          go_wp2_with fail
          refine (hTo.out _).mono ?_
          rintro e w13 ⟨rfl, b13⟩
          have B13 := bstep B12 b13
          have o13 := o12.below b13
          have s13 := s12.below b13
          have hb13 := hb12.below b13
          have hc13 := hc12.below b13
          clear p0 p1 p2 o12 s12 B12 hb12 b13 hc12
          have hro := rOpen_wrapB [] mm F ⟨tc, tn, tm⟩ hright.out (by omega)
          rw [List.nil_append, List.length_nil, Nat.zero_add, HW3.out] at hro
          go_wp2_with fail
          refine (hOp.out g s (wrapB ⟨tc, tn, tm⟩ F ++ mm) _ hc13).mono ?_
          unfold OpenOk
          rw [hro]
          rintro e w14 ⟨pI, rfl, hc14, hO14, hI1, _⟩
          obtain ⟨g2, s2, rfl, hg2, hcI⟩ := hI1 rfl
          have hc14 : Cur w14 g s (wrapB ⟨tc, tn, tm⟩ F ++ mm) n3 := hc14
          have hcI : Cur w14 g2 s2 F 0 := hcI
          have B14 := hO14.below B13 (by omega) B13.size
          have o14 := o13.only hO14 (by omega)
          have s14 := s13.only hO14 hc13.noByte
          have hb14 := hb13.only hO14 hc13.noByte
          have hg2w : w.heap.size ≤ g2 := Nat.le_trans B13.size hg2
          have hne : g ≠ g2 := by have := hc13.lt; omega
          clear o13 s13 B13 hb13 hO14 hc13 hro hI1 hg2
          have hkm := modU4 z (n3 : Int) (by omega) (by omega)
          have e0 : ((n3 : Int) == 0) = false := by simp; omega
          go_wp2
          generalize wrap64 ((IntKind.u64.wrap z).tmod (n3 : Int)) = KK at *
          obtain ⟨kc, rfl⟩ : ∃ kc : Nat, KK = kc := ⟨KK.toNat, by omega⟩
          have hkc : kc < n3 := by omega
          have hkcc : (kc : Int) ≤ c3 := by omega
          have hbT : Bs w14 A3 kc ((wrapB ⟨tc, tn, tm⟩ F).take kc) := hb14.take (by omega)
          have hcutE := rAlone_cut ⟨tc, tn, tm⟩ F kc hright.out (by omega) (by rw [HW3.out]; exact hkc)
          obtain ⟨W0, hW0⟩ : ∃ W0, W0 = w14.drew := ⟨_, rfl⟩
          have HW0 := Lib.hid hW0
          have hbT0 : Hid (Bs W0 A3 kc ((wrapB ⟨tc, tn, tm⟩ F).take kc)) := by unfold Hid; rw [hW0]; exact hbT.drew
          have hB00 : Hid (Below W0.heap.size W0 w14.drew) := by unfold Hid; rw [hW0]; exact Below.refl _ _
          clear hW0 hbT
          obtain ⟨p0, p1, p2, _, _, _⟩ := o14
          have STP : Hid (∀ a b : World, Below a.heap.size a b → (a.cell? ⟨w.heap.size, 0, none⟩ = some (.int .i64 tc) ∧ a.cell? ⟨w.heap.size, 1, none⟩ = some (.int .i64 tn) ∧ a.cell? ⟨w.heap.size, 2, none⟩ = some (.bool tm) ∧ Below W0.heap.size W0 a) → (b.cell? ⟨w.heap.size, 0, none⟩ = some (.int .i64 tc) ∧ b.cell? ⟨w.heap.size, 1, none⟩ = some (.int .i64 tn) ∧ b.cell? ⟨w.heap.size, 2, none⟩ = some (.bool tm) ∧ Below W0.heap.size W0 b)) := by
            rintro a b hb ⟨h1, h2, h3, h4⟩
            have kp : ∀ {q : Addr} {v : Value}, a.cell? q = some v → b.cell? q = some v := fun hq => (hb.cell (World.block_lt_of_cell? a _ hq)).trans hq
            exact ⟨kp h1, kp h2, kp h3, bstep h4 hb⟩
          have SPR : Hid (∀ a : World, (a.cell? ⟨w.heap.size, 0, none⟩ = some (.int .i64 tc) ∧ a.cell? ⟨w.heap.size, 1, none⟩ = some (.int .i64 tn) ∧ a.cell? ⟨w.heap.size, 2, none⟩ = some (.bool tm) ∧ Below W0.heap.size W0 a) → Below W0.heap.size W0 a) := fun a h => h.2.2.2
          have hAl := Lib.hid (fun W (hW : Below W0.heap.size W0 W) => hdAloneCut A3 kc c3 _ ⟨tc, tn, tm⟩ W (hbT0.out.below hW) (by omega) hcutE)
          unfold Tg.v at hAl
          go_region_held3 (fun w' => w'.cell? ⟨w.heap.size, 0, none⟩ = some (.int .i64 tc) ∧ w'.cell? ⟨w.heap.size, 1, none⟩ = some (.int .i64 tn) ∧ w'.cell? ⟨w.heap.size, 2, none⟩ = some (.bool tm) ∧ Below W0.heap.size W0 w') (first | exact ⟨p0, p1, p2, hB00.out⟩ | assumption)
            (first
             | (go_at_call 11; refine (hTo.out _).mono ?_; rintro e wK ⟨rfl, bK⟩; have hS2 := STP.out _ _ bK (by assumption))
             | (go_at_call 36; refine (hAl.out _ (SPR.out _ (by assumption))).mono ?_; rintro e w15 ⟨pO, rfl, b15⟩; have F15 := bstep (SPR.out _ (by assumption)) b15; have hS2 := STP.out _ _ b15 (by assumption)))
          all_goals
            have b16 : Below w14.heap.size w14 w15 := by have := F15; rw [HW0.out] at this; exact (Below.drew (Below.refl _ _)).trans this
            have B16 := bstep B14 b16
            have s16 := s14.below b16
            have hc16 := hc14.below b16
            have hcI16 := hcI.below b16
            go_wp2_with fail
            refine (curRest g2 0 F _ hcI16).mono ?_
            rintro e w17 ⟨A17, n17, c17, rfl, hob17, _, hO17⟩
            have B17 := hO17.below B16 hg2w B16.size
            have s17 := s16.only hO17 hcI16.noByte
            have hc17 := hc16.only hO17 hne hcI16.noByte
            have hb17 := hob17.bs.1
            rw [List.drop_zero] at hb17
            have hn17 : n17 ≤ 1099511627776 := by have := hb17.len; have := HL1.out; omega
            go_wp2_with fail
            refine (refSame A17 A1 n17 n1 c17 c1 _ _ _ hb17 s17 hn17 (by omega)).mono ?_
            rintro e w18 ⟨rfl, q18⟩
            rw [decide_eq_true rfl]
            have B18 := B17.trans q18.below
            go_wp2_with fail
            refine (curAt g n3 _ _ (hc17.qt q18)).mono ?_
            rintro e w19 ⟨rfl, rfl⟩
            go_wp2
            go_ret
            exact ⟨rfl, B18⟩


end Go.Proofs.Ytolcfoaffjnibaa
