/-
  The contracts of layer 3's reference: a number's text.
-/
import Derived.Test.YtfighoplbmmijaaDoorR3b
import Derived.Test.YtfighoplbmmijaaDoorDg
namespace Go.Proofs.YtfighoplbmmijaaDoor
open Go.RowKit Go.Joins
set_option linter.unusedVariables false
set_option linter.unusedSimpArgs false
set_option maxRecDepth 4000

theorem Ov.row {w : World} {B : Nat} {e : TypeId} {v : Value} {l : List Value} (h : Ov w B e v l) (hl : 0 < l.length) : ∃ g c, v = .slice (some ⟨g, 0, none⟩) l.length c ∧ l.length ≤ c ∧ B ≤ g ∧ g < w.heap.size := by
  rcases h.2 with ⟨rfl, h0⟩ | ⟨g, cap, cur, rfl, hg, hh, hle, _, _, _⟩
  · omega
  · exact ⟨g, cap, rfl, hle, hg, lt_of_block hh⟩
theorem Ov.store {w : World} {B g n c : Nat} {e : TypeId} {l : List Value} (h : Ov w B e (.slice (some ⟨g, 0, none⟩) n c) l) (hn : l.length = n) (k : Nat) (u : Value) :
    Ov (w.setCell ⟨g, k, none⟩ u) B e (.slice (some ⟨g, 0, none⟩) n c) (l.set k u) ∧ Only g w (w.setCell ⟨g, k, none⟩ u) := by
  subst hn
  have := World.ownsRow.stored h k u
  refine ⟨?_, this.2⟩
  unfold Ov
  rw [List.length_set]
  exact this.1
theorem Ov.cellK {w : World} {B g n c : Nat} {e : TypeId} {l : List Value} (h : Ov w B e (.slice (some ⟨g, 0, none⟩) n c) l) (hn : l.length = n) {k : Nat} (hk : k < n) : w.cell? ⟨g, k, none⟩ = l[k]? ∧ w.frozen? ⟨g, k, none⟩ = false := by
  subst hn
  exact ⟨World.ownsRow.cellAt h k (by omega), World.ownsRow.frozenAt h k⟩

theorem int_info3 : (Tryd.prog.info? 3).map (fun i => (i.zero, i.size, i.bytes)) = some (some (.int .i64 0), 1, 8) := by kernel_rfl

theorem cat45 (X : List UInt8) : (ByteArray.mk #[45] ++ ByteArray.mk X.toArray) = ByteArray.mk (45 :: X).toArray := by
  apply ByteArray.ext
  simp [ByteArray.data_append]

/-- What the digits say after k bytes. -/
structure DgOk (l : List UInt8) (k : Nat) (D : List Nat) : Prop where
  ne : D ≠ []
  dig : ∀ d ∈ D, d < 10
  val : dvL D = val (l.take k)
  can : D.length = 1 ∨ 10 ^ (D.length - 1) ≤ dvL D
  len : D.length ≤ 3 * k + 1

set_option maxHeartbeats 6400000 in
theorem ref3Text (x : Nm) (u : Value) (w : World) (hx : NumV w x u) (hn : x.size.length ≤ 900000) :
    Calls Tryd.prog 39 #[u] w fun e w' => e = .returned (.string ⟨(Lib.itoa x.z).toArray⟩) ∧ Below w.heap.size w w' := by
  obtain ⟨i0, hi, hz0, hz1, hz2⟩ := info_parts int_info3
  obtain ⟨A, c, rfl, hb, hc⟩ := hx
  obtain ⟨xb, a⟩ := x
  simp only at hb hc hn ⊢
  generalize hma : a.length = na at *
  have HA := Lib.hid hma; clear hma
  have hX : NumV w ⟨xb, a⟩ (.agg #[.bool xb, .slice A na c]) := NumV.mk' xb hb hc
  have hT := One.start w 66 (.bool xb) (.slice A na c)
  go_enter Tryd.func39, Tryd.ntmps39
  go_wp2_with fail
  generalize (w.alloc (Obj.cells #[Value.bool xb, Value.slice A na c] 66)) = W0 at *
  generalize hR : w.heap.size = R at *
  have HR := Lib.hid hR; clear hR
  refine (ref3Made ⟨xb, a⟩ _ W0 (hX.frame hT.2.1) (by have := HA.out; simp; omega)).mono ?_
  rintro e w1 ⟨v1, rfl, ⟨A1, c1, rfl, hs1, hc1⟩, hb1⟩
  obtain ⟨x0, hx0⟩ : ∃ x0, Nm.mk0 ⟨xb, a⟩ = x0 := ⟨_, rfl⟩
  have hok1 : x0.ok := by rw [← hx0]; exact Nm.mk0_ok _
  have hz1' : Hid (x0.z = Nm.z ⟨xb, a⟩) := by rw [← hx0]; exact Nm.mk0_z _
  have hl1 : x0.size.length ≤ na := by rw [← hx0, ← HA.out]; exact Nm.mk0_len _
  rw [hx0] at hs1 hc1 ⊢
  have hT1 := hT.frame hb1
  clear hx0 hb1 hT hX hb hc
  have hs2 := hs1.set2 hT1.1 (.bool x0.below) (.slice A1 x0.size.length c1)
  have hT2 := hT1.put (a0 := .bool x0.below) (a1 := .slice A1 x0.size.length c1) rfl
  have c0 := hT1.1.cell 0
  have c1' := hT1.1.cell 1
  have f0 := hT1.1.free 0
  have f1 := hT1.1.free 1
  simp at c0 c1'
  obtain ⟨p, l⟩ := x0
  simp only at *
  generalize hL : l.length = L at *
  have HL := Lib.hid hL; clear hL
  have FIN : Hid (Lib.itoa (Nm.z ⟨xb, a⟩) = if p then 45 :: Lib.decDigits (val l) else Lib.decDigits (val l)) := by
    unfold Hid
    rw [← hz1'.out]
    cases p with
    | false => simp only [Nm.z, Bool.false_eq_true, if_false]; rw [Lib.itoa_nonneg]
    | true =>
      have hneg := (Nm.neg_iff hok1).1 rfl
      simp only [Nm.z, if_true] at hneg ⊢
      rw [Lib.itoa_neg _ (by omega)]
  go_wp2
  have hsz1 : Hid (((w1.setCell ⟨R, 0, none⟩ (.bool p)).setCell ⟨R, 1, none⟩ (.slice A1 L c1)).heap.size = w1.heap.size) := by simp [Hid, World.setCell]
  generalize ((w1.setCell ⟨R, 0, none⟩ (.bool p)).setCell ⟨R, 1, none⟩ (.slice A1 L c1)) = W1 at *
  clear hs1 hT1 c0 c1' f0 f1
  generalize hBB : w1.heap.size = B at *
  have HB : Hid (W1.heap.size = B) := hsz1
  clear hBB hsz1
  have hRB : R < B := by have := hT2.1.lt; rw [HB.out] at this; exact this
  have KK : Hid (∀ W, Below B W1 W → W.cell? ⟨R, 0, none⟩ = some (.bool p) ∧ W.cell? ⟨R, 1, none⟩ = some (.slice A1 L c1) ∧ Bs W A1 L l ∧ Below w.heap.size w W) := by
    intro W hW
    have hW' : Below W1.heap.size W1 W := by rw [HB.out]; exact hW
    exact ⟨(hT2.1.below hW').cell 0, (hT2.1.below hW').cell 1, hs2.below hW', hT2.2.1.trans (below_le hW' hT2.2.1.size)⟩
  have hov0 : Ov (W1.alloc (.cells #[.int .i64 0] 3)) B 3 (.slice (some ⟨B, 0, none⟩) 1 1) ([0].map natV) := by
    have := Ov.lit W1 B 3 [.int .i64 0] #[.int .i64 0] (by rw [HB.out]; exact Nat.le_refl _) rfl (by simp)
    rw [HB.out] at this
    exact this
  have hB0 : Below B W1 (W1.alloc (.cells #[.int .i64 0] 3)) := by
    have := below_alloc1 W1 (.cells #[.int .i64 0] 3)
    rw [HB.out] at this; exact this
  go_loopw [3, 4] (fun v i wr => ∃ (k : Nat) (D : List Nat), k ≤ L ∧ i = .int .i64 (k : Int) ∧ Ov wr B 3 v (D.map natV) ∧ Below B W1 wr ∧ Hid (DgOk l k D)) (fun _ i _ => L - (intOf i).toNat)
  case atStart => exact ⟨0, [0], by omega, rfl, hov0, hB0, ⟨by simp, by simp, by simp [dvL, val], .inl rfl, by simp⟩⟩
  case round =>
    obtain ⟨k, D, hk, rfl, hov, hB, hD⟩ := hrel
    clear hov0 hB0
    obtain ⟨q0, q1, qb, qw⟩ := KK.out wr hB
    have hDne : 0 < D.length := List.length_pos_iff.2 hD.out.ne
    have hDlen := hD.out.len
    obtain ⟨g, cap, rfl, hcap, hBg, hgs⟩ := hov.row (by simpa using hDne)
    have hlD : (D.map natV).length = D.length := by simp
    rw [hlD] at hov hcap
    by_cases hlt : k < L
    · obtain ⟨b, o, rfl, cx⟩ := qb.at_ hlt
      have e1 : (k : Int) < L := by omega
      have hxb := nth_bound l k
      obtain ⟨T, hT0⟩ : ∃ T, T = 256 * val (l.take k) + (l.getD k 0).toNat := ⟨_, rfl⟩
      have hTv : Hid (T = val (l.take (k + 1))) := by unfold Hid; rw [hT0, val_take (by have := HL.out; omega)]
      have hxn : nth l k = ((l.getD k 0).toNat : Int) := rfl
      obtain ⟨y, hy⟩ : ∃ y : Nat, y = (l.getD k 0).toNat := ⟨_, rfl⟩
      rw [← hy] at hT0 hxn
      rw [hxn] at cx hxb
      have hyb : y < 256 := by omega
      have hTD : Hid (T = 256 * dvL D + y) := by unfold Hid; rw [hT0, hD.out.val]
      clear hy hxn hT0 hxb
      rw [hlD]
      generalize hDn : D.length = n at *
      have HDN := Lib.hid hDn
      clear hDn hlD
      go_wp2
      go_loopw [5, 6] (fun cv jv wr => ∃ (j : Nat) (cc : Nat) (pre post : List Nat), jv = .int .i64 (j : Int) ∧ cv = .int .i64 (cc : Int) ∧ Hid (pre.length = j) ∧ Hid ((pre ++ post).length = n) ∧ j ≤ n ∧ cc ≤ 256 ∧ Ov wr B 3 (.slice (some ⟨g, 0, none⟩) n cap) ((pre ++ post).map natV) ∧ Below B W1 wr ∧ g < wr.heap.size ∧ Hid (∀ d ∈ pre ++ post, d < 10) ∧ Hid (dvL pre + 10 ^ pre.length * (cc + 256 * dvL post) = T)) (fun _ jv _ => n - (intOf jv).toNat)
      case atStart => exact ⟨0, y, [], D, rfl, rfl, rfl, by simpa using HDN, by omega, by omega, by simpa using hov, hB, hgs, by simpa [Hid] using hD.out.dig, by simp [Hid, dvL]; have := hTD.out; omega⟩
      case round =>
        obtain ⟨j, cc, pre, post, rfl, rfl, hpj, hpn, hjn, hcc, hov2, hB2, hg2, hdig, hval⟩ := hrel
        clear hov hB hgs
        by_cases hjt : j < n
        · obtain ⟨d, r, rfl⟩ : ∃ d r, post = d :: r := by
            cases post with
            | nil => have := hpj.out; have := hpn.out; simp at this; omega
            | cons d r => exact ⟨d, r, rfl⟩
          have hd10 := hdig.out d (by simp)
          have hck := hov2.cellK (by have := hpn.out; simpa using this) hjt
          have hgd : ((pre ++ d :: r).map natV)[j]? = some (natV d) := by
            rw [List.getElem?_map, List.getElem?_append_right (by have := hpj.out; omega)]
            have := hpj.out
            simp [this]
          rw [hgd] at hck
          obtain ⟨cj, fj⟩ := hck
          unfold natV at cj
          have e2 : (j : Int) < n := by omega
          have hst := Lib.hid (dvL_step hval.out)
          have hset : Hid (((pre ++ d :: r).map natV).set j (natV ((256 * d + cc) % 10)) = ((pre ++ [(256 * d + cc) % 10]) ++ r).map natV) := by
            unfold Hid
            have := hpj.out
            subst this
            simp [List.set_append]
          have hnv : Hid (Value.int .i64 ((256 * (d : Int) + (cc : Int)) % 10) = natV ((256 * d + cc) % 10)) := by
            unfold Hid natV; congr 1
          have hcq : Hid ((256 * (d : Int) + (cc : Int)) / 10 = (((256 * d + cc) / 10 : Nat) : Int)) := by
            unfold Hid; omega
          have hsto := hov2.store (by have := hpn.out; simpa using this) j (natV ((256 * d + cc) % 10))
          clear hval hgd
          go_wp2
          rw [hnv.out, hcq.out]
          refine ⟨⟨j + 1, (256 * d + cc) / 10, pre ++ [(256 * d + cc) % 10], r, by go_num, rfl, ?_, ?_, by omega, by omega, ?_, ?_, ?_, ?_, ?_⟩, by simp [intOf]; omega⟩
          · have := hpj.out; simp [Hid]; omega
          · have := hpn.out; simp [Hid] at this ⊢; omega
          · have := hsto.1; rw [hset.out] at this; exact this
          · exact Only.below hsto.2 hB2 hBg (by have := hB2.size; rw [HB.out] at this; exact this)
          · simpa [World.setCell] using hg2
          · intro d' hd'
            have hdg := hdig.out
            simp only [List.append_assoc, List.mem_append, List.mem_cons, List.not_mem_nil, or_false] at hd'
            rcases hd' with h | h | h
            · exact hdg d' (by simp [h])
            · subst h; omega
            · exact hdg d' (by simp [h])
          · have := hst.out; unfold Hid; rw [List.length_append]; exact this
        · have hpost : post = [] := by
            have h1 := hpj.out
            have h2 := hpn.out
            simp at h2
            exact List.eq_nil_of_length_eq_zero (by omega)
          subst hpost
          simp only [List.append_nil] at hov2 hpn hdig
          have e2 : ¬ (j : Int) < n := by omega
          have hval3 : Hid (dvL pre + 10 ^ pre.length * cc = T) := by have := hval.out; simpa [Hid, dvL] using this
          have hcan3 : Hid (pre.length = 1 ∨ 10 ^ (pre.length - 1) ≤ T) := by
            have h1 := hD.out.can
            have h2 := hTD.out
            rw [HDN.out] at h1
            unfold Hid
            rw [hpn.out]
            rcases h1 with h1 | h1
            · exact .inl h1
            · exact .inr (by omega)
          clear hval
          go_wp2
          go_loopw [3, 5] (fun v cv wr => ∃ (E : List Nat) (c3 : Nat), cv = .int .i64 (c3 : Int) ∧ Ov wr B 3 v (E.map natV) ∧ Below B W1 wr ∧ c3 ≤ 256 ∧ E.length + cdN c3 ≤ 3 * (k + 1) + 1 ∧ Hid (E ≠ [] ∧ (∀ d ∈ E, d < 10) ∧ dvL E + 10 ^ E.length * c3 = T ∧ (E.length = 1 ∨ 10 ^ (E.length - 1) ≤ T))) (fun _ cv _ => (intOf cv).toNat)
          case atStart =>
            refine ⟨pre, cc, rfl, hov2, hB2, hcc, ?_, ?_, hdig.out, hval3.out, hcan3.out⟩
            · have h1 := hpn.out; have h2 := @cdN_le cc; omega
            · intro e; have h1 := hpn.out; rw [e] at h1; simp at h1; omega
          case round =>
            obtain ⟨E, c3, rfl, hovE, hBE, hc3, hlE, hE⟩ := hrel
            clear hov2 hB2 hg2
            by_cases hc0 : c3 = 0
            · subst hc0
              have hE' := hE.out
              have hDk : Hid (DgOk l (k + 1) E) := by
                obtain ⟨h1, h2, h3, h4⟩ := hE'
                have h5 : dvL E = T := by simpa using h3
                exact ⟨h1, h2, by rw [h5]; exact hTv.out, by rw [h5]; exact h4, by unfold cdN at hlE; simp at hlE; omega⟩
              clear hE' hE
              go_wp2
              go_roundw
              case rel => exact ⟨k + 1, E, by omega, by go_num, hovE, hBE, hDk⟩
              case measure => simp [intOf]; omega
            · have e3 : (0 : Int) < c3 := by omega
              have hcd := cdN_step hc0 hc3
              have hmv : Hid (Value.int .i64 ((c3 : Int) % 10) = natV (c3 % 10)) := by unfold Hid natV; congr 1
              have hcq : Hid ((c3 : Int) / 10 = ((c3 / 10 : Nat) : Int)) := by unfold Hid; omega
              have hE2 : Hid ((E ++ [c3 % 10]) ≠ [] ∧ (∀ d ∈ E ++ [c3 % 10], d < 10) ∧ dvL (E ++ [c3 % 10]) + 10 ^ (E ++ [c3 % 10]).length * (c3 / 10) = T ∧ ((E ++ [c3 % 10]).length = 1 ∨ 10 ^ ((E ++ [c3 % 10]).length - 1) ≤ T)) := by
                obtain ⟨h1, h2, h3, h4⟩ := hE.out
                refine ⟨by simp, ?_, ?_, ?_⟩
                · intro d hd
                  rw [List.mem_append, List.mem_singleton] at hd
                  rcases hd with h | rfl
                  · exact h2 d h
                  · omega
                · have := dvL_push h3; rw [List.length_append]; exact this
                · right
                  rw [List.length_append, List.length_cons, List.length_nil, Nat.zero_add, Nat.add_sub_cancel]
                  have : 10 ^ E.length * 1 ≤ 10 ^ E.length * c3 := Nat.mul_le_mul_left _ (by omega)
                  omega
              obtain ⟨AE, cE, rfl, hcE, _⟩ := hovE.slice
              have hlE2 : (E.map natV).length = E.length := by simp
              rw [hlE2] at hovE hcE
              rw [hlE2]
              have hszE := hBE.size
              rw [HB.out] at hszE
              generalize hEn : E.length = en at *
              have HEN := Lib.hid hEn
              have HE2 := Lib.hid hlE2
              clear hEn hlE2 hE
              have hov9' := hovE.alloc (.cells #[.int .i64 ((c3 : Int) % 10)] 3)
              go_wp2_with (at_builtin; (refine wpList_appendV rfl _ _ 22 rfl B 3 i0 (.int .i64 0) Tryd.underlying22 hi hz0 hz1 (by omega) rfl _ (E.map natV) rfl hov9' _ _ _ [.int .i64 ((c3 : Int) % 10)] rfl (Vs.new1 wr _ 3) (by intro u hu; simp at hu; subst hu; rfl) (by have := HE2.out; omega) (by simp; omega) ?_))
              intro v' w9 hov9 hg9 _ _
              have hbel1 := hov9'.grew (hBE.alloc hszE _) (by rw [HB.out]; exact Nat.le_refl _) hg9
              rw [hmv.out] at hov9
              go_wp2
              rw [hcq.out]
              refine ⟨⟨E ++ [c3 % 10], c3 / 10, rfl, by simpa using hov9, hbel1, by omega, ?_, hE2⟩, by simp [intOf]; omega⟩
              have := HEN.out
              simp; omega
    · have hkL : k = L := by omega
      have hstr : Hid (strD D = Lib.decDigits (val l)) := by
        have h1 := hD.out
        unfold Hid
        rw [strD_dec h1.ne h1.dig h1.can, h1.val, List.take_of_length_le (by have := HL.out; omega)]
      have hdig := Lib.hid hD.out.dig
      have e1 : ¬ (k : Int) < L := by omega
      rw [hlD]
      generalize hDn : D.length = n at *
      have HDN := Lib.hid hDn
      clear hDn hlD hkL
      go_wp2
      go_loopw [8, 9] (fun sv jv wr => ∃ (j : Nat) (t : ByteArray), j ≤ n ∧ jv = .int .i64 (j : Int) ∧ sv = .string t ∧ Hid (t.data.toList = strD (D.take j)) ∧ Ov wr B 3 (.slice (some ⟨g, 0, none⟩) n cap) (D.map natV) ∧ Below B W1 wr) (fun _ jv _ => n - (intOf jv).toNat)
      case atStart => exact ⟨0, ⟨#[]⟩, by omega, rfl, rfl, by simp [Hid, strD], hov, hB⟩
      case round =>
        obtain ⟨j, t, hj, rfl, rfl, ht, hov2, hB2⟩ := hrel
        clear hov hB q0 q1 qb qw
        obtain ⟨q0, q1, qb, qw⟩ := KK.out wr hB2
        have hts : t.size ≤ 3000000 := by
          have h1 := congrArg List.length ht.out
          have h2 : t.data.toList.length = t.size := rfl
          rw [h2] at h1
          simp [strD] at h1
          omega
        by_cases hjt : j < n
        · have hjD : j < D.length := by have := HDN.out; omega
          obtain ⟨d, hd⟩ : ∃ d, D[j]? = some d := ⟨D[j], List.getElem?_eq_getElem hjD⟩
          have hd10 : d < 10 := hdig.out d (List.mem_of_getElem? hd)
          have hck := hov2.cellK (by have := HDN.out; simpa using this) hjt
          rw [List.getElem?_map, hd] at hck
          obtain ⟨cj, fj⟩ := hck
          simp only [Option.map_some, natV] at cj
          have e2 : (j : Int) < n := by omega
          have hx : (48 : Int) + (d : Int) = ((byteD d).toNat : Int) := by rw [byteD_val hd10]; omega
          have hbs := Bs.new1 wr (byteD d) ((48 : Int) + (d : Int)) 5 hx
          have hcv := hbs.convert (P := Tryd.prog) 1 24 9 5 Tryd.underlying24 Tryd.underlying5 Tryd.underlying9
          have hnew : Hid ((ByteArray.mk [byteD d].toArray ++ t).data.toList = strD (D.take (j + 1))) := by
            unfold Hid
            have h1 := ht.out
            have h2 : D[j] = d := by rw [List.getElem?_eq_getElem hjD] at hd; exact Option.some.inj hd
            rw [List.take_succ_eq_append_getElem hjD, strD_snoc, ← h1, h2]
            simp [ByteArray.data_append]
          have hbel : Below B W1 (wr.alloc (.cells #[.int .u8 ((48 : Int) + (d : Int))] 5)) := hB2.alloc (by have := hB2.size; rw [HB.out] at this; exact this) _
          have hov3 := hov2.alloc (.cells #[.int .u8 ((48 : Int) + (d : Int))] 5)
          clear hx hd
          go_wp2
          refine ⟨⟨j + 1, _, by omega, by go_num, rfl, hnew, hov3, hbel⟩, by simp [intOf]; omega⟩
        · have e2 : ¬ (j : Int) < n := by omega
          have htt : Hid (t = ⟨(Lib.decDigits (val l)).toArray⟩) := by
            have h1 := ht.out
            rw [List.take_of_length_le (by have := HDN.out; omega), hstr.out] at h1
            unfold Hid
            rw [← h1]
          cases p with
          | false =>
            go_wp2
            go_ret
            rw [FIN.out, htt.out]
            exact ⟨rfl, qw⟩
          | true =>
            go_wp2
            go_ret
            refine ⟨?_, qw⟩
            rw [FIN.out]
            show Ending.returned (.string (⟨#[45]⟩ ++ t)) = _
            rw [htt.out, cat45]
            rfl
end Go.Proofs.YtfighoplbmmijaaDoor
