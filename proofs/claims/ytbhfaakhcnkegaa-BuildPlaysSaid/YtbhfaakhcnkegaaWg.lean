/-
  A sheet's calls: New, Depth, Put, Open, OpenSet, Bytes.
-/
import Derived.Test.YtbhfaakhcnkegaaWf
namespace Go.Proofs.Ytbhfaakhcnkegaa
open Go.RowKit
set_option linter.unusedVariables false
set_option linter.unusedSimpArgs false
set_option maxRecDepth 4000

theorem step_appendF {P : Program} {w : World} {ops : Array Oper} {o : Oper} {a : Act} {K : Act → World → Prop} {Q : Exit → Act → World → Prop} {E : Prop} (hgd : o.guard = none) (s x : Operand) (t : TypeId)
    (ho : o.op = .call { callee := .builtin .append, args := #[s, x], argTypes := #[t, t] })
    (base : Nat) (e : TypeId) (i : TypeInfo) (z : Value) (size bytes : Nat) (ht : P.underlying t = some (.slice e)) (hi : P.info? e = some i) (hz : i.zero = some z)
    (hsize : i.size = size) (hby : i.bytes = bytes) (hzs : z.cells.size = size) (hsz : 0 < size) (v : Value) (n : Nat) (xs : List Value) (hs : a.eval s = v) (hown : w.ownsRow base e size v n xs)
    (ad : Addr) (m c : Nat) (news : List Value) (hx : a.eval x = .slice (some ad) m c) (hl : news.length = m * size) (hnews : ∀ j u, news[j]? = some u → w.cell? (ad.add j) = some u) (h1 : ∀ u ∈ news, u.oneCell' = true)
    (h63 : n + m ≤ maxLen) (hbytes : (n + m) * bytes ≤ 140737488355328) (hbase : base ≤ w.heap.size)
    (h : ∀ v' w', w'.ownsRow base e size v' (n + m) (xs ++ news) → w.grownBy w' v.ownBlock → (v'.ownBlock = v.ownBlock ∨ v'.ownBlock = some w.heap.size) → K (a.put o.dst v') w') :
    if Region.wanted o (yielded ops a.tmps) = true then Oper.wp P o a w K Q else E := by
  have hw : Region.wanted o (yielded ops a.tmps) = true := by simp [Region.wanted, hgd]
  rw [if_pos hw]
  obtain ⟨v', w', hrun, h2, h3, _, h5⟩ := run_append_own_at (P := P) w base t o.type e i z size bytes ht hi hz hsize hby hzs hsz v n xs hown ad m c news hl hnews h1 h63 hbytes hbase
  unfold Oper.wp execOp
  simp only [ho, resolve, invoke, builtin, Sem.run_bind, Sem.run_pure, Result.andThen_ok, List.map_toArray, List.map_cons, List.map_nil, hs, hx, hrun]
  exact h v' w' h2 h3 h5

theorem fr_info : (Try.prog.info? 83).map (fun i => (i.zero, i.size, i.bytes)) = some (some (.agg #[.int .i64 0, .int .i64 0, .bool false, .bool false, .slice none 0 0]), 5, 56) := by kernel_rfl

theorem sht_new (w : World) : Sht (w.alloc (.cells #[.int .i64 0, .int .i64 0, .bool false, .bool false, .slice none 0 0, .slice none 0 0, .int .i64 0] 86)) w.heap.size [w.heap.size] fr0 [] 0 (.slice none 0 0) (.slice none 0 0) [] := by
  refine ⟨heap_alloc_new _ _, World.ownsRow_nil _ _ _ _, ⟨rfl, fun i f hf => ?_⟩, (show ([] : List Nat).Nodup from List.nodup_nil), by simp, (fun k hk => by cases hk), (fun u hu k hk => by simp at hu; subst hu; cases hk), by simp⟩
  match i, hf with
  | 0, hf => cases hf; exact ⟨_, rfl, Ob.nil _ _ _⟩

set_option maxHeartbeats 800000 in
theorem bdNew (w : World) : Calls Try.prog 8 #[] w fun e w' => e = .returned (.pointer (some ⟨w.heap.size, 0, none⟩)) ∧ Sh w' w.heap.size [w.heap.size] fr0 [] 0 ∧ Below w.heap.size w w' := by
  have hn := Lib.hid (sht_new w)
  have hb := Lib.hid (below_alloc1 w (.cells #[.int .i64 0, .int .i64 0, .bool false, .bool false, .slice none 0 0, .slice none 0 0, .int .i64 0] 86))
  go_enter Try.func8, Try.ntmps8
  go_wp2
  go_ret
  exact ⟨rfl, ⟨_, _, _, hn.out⟩, hb.out⟩

set_option maxHeartbeats 800000 in
theorem bdDead (S : Nat) (fp : List Nat) (F : Fr) (Fs : List Fr) (er : Int) (w : World) (h : Sh w S fp F Fs er) :
    Calls Try.prog 45 #[.pointer (some ⟨S, 0, none⟩)] w fun e w' => e = .returned (.bool (er != 0)) ∧ Qt w w' := by
  obtain ⟨v, va, vs, hT⟩ := h
  obtain ⟨⟨_, _, _, _, _, _, c6⟩, _⟩ := hT.cells
  clear hT
  go_enter Try.func45, Try.ntmps45
  go_wp2_with fail
  go_ret
  exact ⟨rfl, Qt.refl _⟩
theorem bdDead0 (w : World) :
    Calls Try.prog 45 #[.pointer none] w fun e w' => e = .returned (.bool true) ∧ Qt w w' := by
  go_enter Try.func45, Try.ntmps45
  go_wp2_with fail
  go_ret
  exact ⟨rfl, Qt.refl _⟩

theorem Sht.vaForm {w : World} {S : Nat} {fp : List Nat} {F : Fr} {Fs : List Fr} {e : Int} {v va : Value} {vs : List Value} (h : Sht w S fp F Fs e v va vs) : ∃ A c, va = .slice A Fs.length c ∧ Fs.length ≤ c := by
  rcases h.row.2 with ⟨rfl, h0⟩ | ⟨g, cap, cur, rfl, _, _, hle, _⟩
  · exact ⟨none, 0, by rw [h0], by omega⟩
  · exact ⟨_, cap, rfl, hle⟩

set_option maxHeartbeats 800000 in
theorem bdDepth (S : Nat) (fp : List Nat) (F : Fr) (Fs : List Fr) (er : Int) (w : World) (h : Sh w S fp F Fs er) :
    Calls Try.prog 21 #[.pointer (some ⟨S, 0, none⟩)] w fun e w' => e = .returned (.int .i64 (Fs.length : Int)) ∧ Qt w w' := by
  obtain ⟨v, va, vs, hT⟩ := h
  obtain ⟨⟨_, _, _, _, _, c5, _⟩, _⟩ := hT.cells
  obtain ⟨A, c, rfl, _⟩ := hT.vaForm
  clear hT
  generalize Fs.length = N at *
  go_enter Try.func21, Try.ntmps21
  go_wp2
  go_ret
  exact ⟨rfl, Qt.refl _⟩
theorem bdDepth0 (w : World) :
    Calls Try.prog 21 #[.pointer none] w fun e w' => e = .returned (.int .i64 0) ∧ Qt w w' := by
  go_enter Try.func21, Try.ntmps21
  go_wp2
  go_ret
  exact ⟨rfl, Qt.refl _⟩

theorem Sh.qt {w w' : World} {S : Nat} {fp : List Nat} {F : Fr} {Fs : List Fr} {e : Int} (h : Sh w S fp F Fs e) (hq : Qt w w') : Sh w' S fp F Fs e := by
  obtain ⟨v, va, vs, hT⟩ := h
  exact ⟨v, va, vs, hT.below hq.below⟩
theorem Sh.below {w w' : World} {S : Nat} {fp : List Nat} {F : Fr} {Fs : List Fr} {e : Int} (h : Sh w S fp F Fs e) (hb : Below w.heap.size w w') : Sh w' S fp F Fs e := by
  obtain ⟨v, va, vs, hT⟩ := h
  exact ⟨v, va, vs, hT.below hb⟩
theorem ShOk.same {w w' : World} {S : Nat} {fp : List Nat} {F : Fr} {Fs : List Fr} {e : Int} (h : Sh w S fp F Fs e) (hb : Below w.heap.size w w') : ShOk w S fp F Fs e w' := ⟨fp, h.below hb, .of_below hb, Grew.refl _ _⟩

/-- What Put makes of the innermost frame. -/
def putF (F : Fr) (er : Int) (ls : List (List UInt8)) : Fr := if er = 0 then ⟨F.t, F.set, F.b ++ ls.flatten⟩ else F

set_option maxHeartbeats 800000 in
theorem bdPut (S : Nat) (fp : List Nat) (F : Fr) (Fs : List Fr) (er : Int) (A : Option Addr) (n c : Nat) (ls : List (List UInt8)) (w : World) (h : Sh w S fp F Fs er) (hr : ∀ W, OnlyF fp w W → Bss W A n ls) (hn : n ≤ 1099511627776) (hlen : F.b.length + ls.flatten.length ≤ 1099511627776) :
    Calls Try.prog 11 #[.pointer (some ⟨S, 0, none⟩), .slice A n c] w fun e w' => e = .returned (.tuple #[]) ∧ ShOk w S fp (putF F er ls) Fs er w' := by
  have HD := Lib.hid (bdDead S fp F Fs er w h)
  have HH := Lib.hid (fun (W : World) (hq : Qt w W) => bdHold S fp F Fs er A n c ls W (h.qt hq) (fun W2 hW2 => hr W2 ((OnlyF.of_qt hq).trans hW2 (Grew.refl _ _))) hn hlen)
  have H := Lib.hid h
  clear h hr hn hlen
  go_enter Try.func11, Try.ntmps11
  go_wp2_with fail
  refine HD.out.mono ?_
  rintro e w1 ⟨rfl, hq⟩
  clear HD
  by_cases q : er = 0
  · subst q
    have e1 : ((0 : Int) != 0) = false := rfl
    go_wp2_with fail
    refine (HH.out _ hq).mono ?_
    rintro e w2 ⟨rfl, fp', h1, h2, h3⟩
    have HR : Hid (ShOk w S fp (putF F 0 ls) Fs 0 w2) := ⟨fp', by unfold putF; rw [if_pos rfl]; exact h1, (OnlyF.of_qt hq).trans h2 (Grew.refl _ _), fun k hk => (h3 k hk).imp id (fun h => Nat.le_trans (hq.below (B := 0)).size h)⟩
    clear HH h1 h2 h3 hq
    go_wp2
    go_end0
    exact ⟨rfl, HR.out⟩
  · have e1 : (er != 0) = true := by simp; exact q
    have HR : Hid (ShOk w S fp (putF F er ls) Fs er w1) := by unfold putF; rw [if_neg q]; exact ShOk.same H.out hq.below
    clear HH hq q
    go_wp2
    go_end0
    exact ⟨rfl, HR.out⟩

end Go.Proofs.Ytbhfaakhcnkegaa
