/-
  The contracts of the project's oid: the oid of a text.
-/
import Derived.Test.YtfighoplbmmijaaDoorOf
namespace Go.Proofs.YtfighoplbmmijaaDoor
open Go.RowKit Go.Joins
set_option linter.unusedVariables false
set_option linter.unusedSimpArgs false
set_option maxRecDepth 4000

/-- The library's variable holds some number. -/
def Mx (w : World) : Prop := ∃ m, w.cell? ⟨0, 0, none⟩ = some (.int .i64 m)
theorem Mx.below {w w' : World} (h : Mx w) (hb : Below w.heap.size w w') : Mx w' := by
  obtain ⟨m, hm⟩ := h
  exact ⟨m, (hb.cell (World.block_lt_of_cell? w _ hm)).trans hm⟩

theorem index46 (s : List UInt8) : (Lib.index s [46] = -1 ∧ ∀ c ∈ s, c ≠ 46) ∨ ∃ k : Nat, Lib.index s [46] = (k : Int) ∧ k < s.length ∧ s = s.take k ++ 46 :: s.drop (k + 1) ∧ ∀ c ∈ s.take k, c ≠ 46 := by
  induction s with
  | nil => left; simp [Lib.index]
  | cons b l ih =>
    by_cases hb : b = 46
    · right
      subst hb
      exact ⟨0, by simp [Lib.index, List.isPrefixOf], by simp, by simp, by simp⟩
    · have hp : List.isPrefixOf [46] (b :: l) = false := by simp [List.isPrefixOf]; exact fun e => hb e.symm
      rcases ih with ⟨h1, h2⟩ | ⟨k, h1, h2, h3, h4⟩
      · left
        refine ⟨by simp [Lib.index, hp, h1], ?_⟩
        intro c hc
        rcases List.mem_cons.1 hc with rfl | hc
        · exact hb
        · exact h2 c hc
      · right
        refine ⟨k + 1, ?_, by simp; omega, ?_, ?_⟩
        · unfold Lib.index
          rw [hp, h1]
          have : ((k : Int) == -1) = false := by rw [Bool.eq_false_iff]; intro e; have := eq_of_beq e; omega
          simp [this]
        · rw [List.take_succ_cons, List.drop_succ_cons, List.cons_append, ← h3]
        · intro c hc
          rw [List.take_succ_cons] at hc
          rcases List.mem_cons.1 hc with rfl | hc
          · exact hb
          · exact h4 c hc
theorem cut46 (s : List UInt8) : ((Lib.cut s [46]).2.2 = true ∧ spt s = (Lib.cut s [46]).1 :: spt (Lib.cut s [46]).2.1 ∧ (Lib.cut s [46]).1.length + (Lib.cut s [46]).2.1.length + 1 = s.length) ∨
    ((Lib.cut s [46]).2.2 = false ∧ spt s = [(Lib.cut s [46]).1] ∧ (Lib.cut s [46]).1 = s ∧ (Lib.cut s [46]).2.1 = []) := by
  rcases index46 s with ⟨h1, h2⟩ | ⟨k, h1, h2, h3, h4⟩
  · right
    unfold Lib.cut
    rw [if_neg (by rw [h1]; omega)]
    exact ⟨rfl, spt_plain h2, rfl, rfl⟩
  · left
    unfold Lib.cut
    rw [if_pos (by rw [h1]; omega), h1]
    simp only [Int.toNat_natCast, List.length_cons, List.length_nil, Nat.zero_add]
    refine ⟨trivial, ?_, by simp; omega⟩
    conv => lhs; rw [h3]
    exact spt_app _ h4

/-- The oid of parts; o: the numbers so far. -/
def fromP (o : List Int) (ps : List (List UInt8)) : List Int × Int :=
  if ps.all decOk = true then (if rightO (o ++ ps.map fun p => (dvN p : Int)) = true then (o ++ ps.map fun p => (dvN p : Int), 0) else ([], 1)) else ([], 6)
theorem fromO_P (s : List UInt8) : fromO s = fromP [] (spt s) := by unfold fromO fromP; simp
theorem fromP_bad {o : List Int} {p : List UInt8} {ps : List (List UInt8)} (h : decOk p = false) : fromP o (p :: ps) = ([], 6) := by
  unfold fromP; rw [if_neg (by simp [h])]
theorem fromP_good {o : List Int} {p : List UInt8} {ps : List (List UInt8)} (h : decOk p = true) : fromP o (p :: ps) = fromP (o ++ [(dvN p : Int)]) ps := by
  unfold fromP; simp [h]
theorem fromP_nil (o : List Int) : fromP o [] = if rightO o = true then (o, 0) else ([], 1) := by
  unfold fromP; simp

/-- How much is left to cut. -/
def leftV : Value → Value → Nat
  | .string s, .bool true => s.size + 1
  | _, _ => 0

set_option maxHeartbeats 3200000 in
theorem oidFromText (s : ByteArray) (w : World) (hs : s.size ≤ 1000000) (hm : Mx w) :
    Calls Tryd.prog 23 #[.string s] w (PrsOk w (fromO s.data.toList)) := by
  obtain ⟨i0, hi, hz0, hz1, hz2⟩ := info_parts int_info
  go_enter Tryd.func23, Tryd.ntmps23
  go_wp2
  go_loopw [0, 4, 6] (fun sv v mv wr => ∃ (t : ByteArray) (ob : List Int) (more : Bool), sv = .string t ∧ mv = .bool more ∧ Ov wr w.heap.size 3 v (ob.map intV) ∧ ob.length + leftV (.string t) (.bool more) ≤ 1000002 ∧ Below w.heap.size w wr ∧
      Hid (fromO s.data.toList = fromP ob (if more then spt t.data.toList else []))) (fun sv _ mv _ => leftV sv mv)
  case atStart => exact ⟨s, [], true, rfl, rfl, Ov.nil _ _ _, by simp [leftV]; omega, Below.refl _ _, fromO_P _⟩
  case round =>
    obtain ⟨t, ob, more, rfl, rfl, hov, hle, hB, hF⟩ := hrel
    cases more with
    | false =>
      have hle : ob.length ≤ 1000002 := by simpa [leftV] using hle
      obtain ⟨A1, c1, rfl, hc1, hvs⟩ := hov.slice
      have hlo : (ob.map intV).length = ob.length := by simp
      rw [hlo] at hov hc1 hvs
      have hR := oidRight A1 ob.length c1 ob wr hvs (by omega)
      have hF' : Hid (fromO s.data.toList = if rightO ob = true then (ob, 0) else ([], 1)) := by
        unfold Hid; rw [hF.out]; simp only [Bool.false_eq_true, if_false]; rw [fromP_nil]
      rw [hlo]
      clear hF hlo
      generalize ob.length = on at *
      cases hr : rightO ob with
      | true =>
        have hE : Hid (fromO s.data.toList = (ob, 0)) := by unfold Hid; rw [hF'.out, hr]; rfl
        rw [hr] at hR
        go_wp2_with fail
        refine hR.mono ?_
        rintro e w1 ⟨rfl, q⟩
        have hov1 := hov.below q.below
        go_wp2
        go_ret2
        rw [hE.out]
        exact ⟨_, rfl, hov1, hB.trans q.below⟩
      | false =>
        have hE : Hid (fromO s.data.toList = ([], 1)) := by unfold Hid; rw [hF'.out, hr]; rfl
        rw [hr] at hR
        go_wp2_with fail
        refine hR.mono ?_
        rintro e w1 ⟨rfl, q⟩
        go_wp2
        go_ret2
        rw [hE.out]
        exact ⟨_, rfl, Ov.nil _ _ _, hB.trans q.below⟩
    | true =>
      have hle : ob.length + (t.size + 1) ≤ 1000002 := by simpa [leftV] using hle
      obtain ⟨mx, hmx⟩ := hm.below hB
      have hC := Tryd.strings_Cut t ⟨#[46]⟩ mx wr (by omega) hmx
      have hcut := cut46 t.data.toList
      have hF' : Hid (fromO s.data.toList = fromP ob (spt t.data.toList)) := hF
      have htl : t.data.toList.length = t.size := rfl
      rw [htl] at hcut
      change Calls _ _ _ _ (fun e w' => e = .returned (.tuple #[.string ⟨(Lib.cut t.data.toList [46]).1.toArray⟩, .string ⟨(Lib.cut t.data.toList [46]).2.1.toArray⟩, .bool (Lib.cut t.data.toList [46]).2.2]) ∧ ∃ n, w' = wr.drewN n) at hC
      clear hF htl
      generalize Lib.cut t.data.toList [46] = r at *
      obtain ⟨pa, pb, pm⟩ := r
      simp only at hC hcut
      have hD : ∀ W, Calls Tryd.prog 49 #[.string ⟨pa.toArray⟩] W fun e w' => e = .returned (decV pa) ∧ W = w' := fun W => oidDecimal ⟨pa.toArray⟩ pa W (by simp) (by
        have : (ByteArray.mk pa.toArray).size = pa.length := by simp [ByteArray.size]
        rw [this]
        rcases hcut with ⟨_, _, h3⟩ | ⟨_, _, h3, _⟩
        · omega
        · rw [h3]; have : t.data.toList.length = t.size := rfl; omega)
      have HD := Lib.hid hD
      clear hD
      have hnext : Hid (∃ ps, spt t.data.toList = pa :: ps ∧ ps = (if pm then spt pb else [])) := by
        rcases hcut with ⟨h1, h2, _⟩ | ⟨h1, h2, _⟩
        · exact ⟨_, h2, by rw [h1]; rfl⟩
        · exact ⟨_, h2, by rw [h1]; rfl⟩
      have hsz : (pm = true → pb.length + 1 ≤ t.size) ∧ (pm = false → pb = []) := by
        rcases hcut with ⟨h1, _, h3⟩ | ⟨h1, _, _, h4⟩
        · exact ⟨(fun _ => by omega), (fun e => by rw [h1] at e; cases e)⟩
        · exact ⟨(fun e => by rw [h1] at e; cases e), (fun _ => h4)⟩
      have HSZ := Lib.hid hsz
      clear hcut hsz
      cases hd : decOk pa with
      | false =>
        have hE : Hid (fromO s.data.toList = ([], 6)) := by
          obtain ⟨ps, h1, h2⟩ := hnext.out
          unfold Hid; rw [hF'.out, h1, fromP_bad hd]
        have hdv := Lib.hid (decV_no hd)
        clear hnext hF'
        go_wp2_with fail
        refine hC.mono ?_
        rintro e w1 ⟨rfl, k1, rfl⟩
        go_wp2_with fail
        refine (HD.out _).mono ?_
        rintro e w2 ⟨rfl, rfl⟩
        rw [hdv.out]
        go_wp2
        go_ret2
        rw [hE.out]
        exact ⟨_, rfl, Ov.nil _ _ _, below_drewN hB _⟩
      | true =>
        have hE : Hid (fromO s.data.toList = fromP (ob ++ [(dvN pa : Int)]) (if pm then spt pb else [])) := by
          obtain ⟨ps, h1, h2⟩ := hnext.out
          unfold Hid; rw [hF'.out, h1, fromP_good hd, h2]
        have hdv := Lib.hid (decV_yes hd)
        clear hnext hF'
        obtain ⟨A1, c1, rfl, hc1, hvs⟩ := hov.slice
        have hlo : (ob.map intV).length = ob.length := by simp
        rw [hlo] at hov hc1 hvs
        go_wp2_with fail
        refine hC.mono ?_
        rintro e w1 ⟨rfl, k1, rfl⟩
        go_wp2_with fail
        refine (HD.out _).mono ?_
        rintro e w2 ⟨rfl, rfl⟩
        rw [hdv.out]
        clear HD hC hdv hvs hlo
        have hov1 := hov.drewN k1
        have hB1 := below_drewN hB k1
        generalize wr.drewN k1 = w1 at *
        generalize (dvN pa : Int) = z at *
        generalize hL : ob.length = L at *
        have HL : Hid ((ob.map intV).length = L) := by unfold Hid; rw [List.length_map]; exact hL
        have HL2 := Lib.hid hL
        clear hL
        go_wp2_with (at_builtin; (refine wpList_appendV rfl _ _ 22 rfl w.heap.size 3 i0 (.int .i64 0) Tryd.underlying22 hi hz0 hz1 (by omega) rfl _ (ob.map intV) rfl (hov1.alloc _) _ _ _ [intV z] rfl (Vs.new1 w1 _ 3) ?ab0 ?ab1 ?ab2 ?_))
        case ab0 => intro u hu; simp at hu; subst hu; rfl
        case ab1 => have := HL.out; omega
        case ab2 => have := hB1.size; simp; omega
        intro v' w9 hov9 hg9 _ _
        have hbel1 := (hov1.alloc _).grew (hB1.alloc hB1.size _) (Nat.le_refl _) hg9
        go_wp2
        have e2 : (ByteArray.mk pb.toArray).size = pb.length := by simp [ByteArray.size]
        refine ⟨⟨⟨pb.toArray⟩, ob ++ [z], pm, rfl, rfl, by simpa using hov9, ?_, hbel1, by simpa using hE⟩, ?_⟩
        · have := HL2.out
          cases pm with
          | true => have := HSZ.out.1 rfl; simp [leftV, e2]; omega
          | false => simp [leftV]; omega
        · cases pm with
          | true =>
            have := HSZ.out.1 rfl
            simp [leftV, e2]; omega
          | false => simp [leftV]
end Go.Proofs.YtfighoplbmmijaaDoor
