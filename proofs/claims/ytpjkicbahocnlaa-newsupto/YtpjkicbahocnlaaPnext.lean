import Derived.Test.YtpjkicbahocnlaaPver
import Derived.Test.YtpjkicbahocnlaaPtr
import Derived.Deep.RegionHeld3
set_option linter.unusedVariables false
set_option linter.unusedSimpArgs false
set_option linter.unnecessarySimpa false
namespace Go.Proofs.Ytpjkicbahocnlaa
open Go.RowKit

set_option maxHeartbeats 1000000 in
@[go_sem] theorem eqEr (a1 a2 a3 a4 b1 b2 b3 b4 : Int) (w : World) : (Op.equalIn 10000 104 (.agg #[.int .i64 a1, .int .i64 a2, .int .i64 a3, .int .i64 a4]) (.agg #[.int .i64 b1, .int .i64 b2, .int .i64 b3, .int .i64 b4])).run Try.prog w
    = .ok (a1 == b1 && (a2 == b2 && a3 == b3) && a4 == b4) w := by
  have u3 := Try.underlying3
  have a3' := Try.isAgg3
  have z3 := Try.sizeOf3
  have a5' := Try.isAgg100
  have z5 := Try.sizeOf100
  have hS : Try.prog.underlying 104 = some (.struct (Try.prog.fieldsOf 104)) := by kernel_rfl
  have hp : Try.prog.stoodInHeld 104 = false := by kernel_rfl
  rw [show (10000 : Nat) = 9999 + 1 from rfl, run_equalIn_agg w 9999 104 _ _ hS hp]
  simp only [Program.fieldsOf, Try.underlying104]
  rw [show (9999 : Nat) = 9997 + 2 from rfl]
  go_simp
  by_cases h1 : a1 = b1 <;> by_cases h2 : a2 = b2 <;> by_cases h3 : a3 = b3 <;> by_cases h4 : a4 = b4 <;> simp [h1, h2, h3, h4]

theorem hasM_any (q : Nat) (m : Int) (g : Pg) (w : World) (h : PgAt w q g) :
    Calls Try.prog 67 #[.pointer (some ⟨q, 0, none⟩), .int .i64 m] w fun e w' => e = .returned (.bool (hasM g.s m)) ∧ w' = w := by
  have c0 : w.cell? ⟨q, 0, none⟩ = some (.int .i64 g.s.mir) := h.cSet 0 (by omega)
  unfold hasM
  clear h
  go_enter Try.func67, Try.ntmps67
  go_wp2_with fail
  all_goals
    go_ret
    refine ⟨ret_bool ?_, rfl⟩
    simp <;> omega

theorem hasT_any (q : Nat) (id : Int) (g : Pg) (w : World) (h : PgAt w q g) :
    Calls Try.prog 50 #[.pointer (some ⟨q, 0, none⟩), .int .i64 id] w fun e w' => e = .returned (.bool (hasT g.s id)) ∧ w' = w := by
  have hvT : w.cell? ⟨q, 13, none⟩ = some g.v := h.cV
  obtain ⟨aT, capT, hT, -⟩ := own_form h.ts
  rw [hT] at hvT
  have hn := h.ok.nt
  unfold hasT
  clear h hT
  go_enter Try.func50, Try.ntmps50
  go_wp2_with fail
  all_goals
    go_ret
    refine ⟨ret_bool ?_, rfl⟩
    simp <;> omega

def erHit (x : Bool × Er) (e : Er) : Bool := x.1 && x.2 == e
theorem er_beq (x e : Er) : (x == e) = (x.path == e.path && (x.tag == e.tag && x.tot == e.tot) && x.blk == e.blk) := by
  obtain ⟨a, b, c, d⟩ := x
  obtain ⟨a', b', c', d'⟩ := e
  rw [Bool.eq_iff_iff]
  simp [and_assoc]

set_option maxHeartbeats 2000000 in
theorem isSent_any (q : Nat) (e : Er) (g : Pg) (w : World) (h : PgAt w q g) :
    Calls Try.prog 125 #[.pointer (some ⟨q, 0, none⟩), erAgg e] w fun r w' => r = .returned (.bool (isSentL g.s e)) ∧ Ext w w' := by
  have hql := h.blk.lt
  have nb := h.ok.nb
  have ne := h.ok.ne
  have hE := Ext.new w (.cells #[.int .i64 e.path, .int .i64 e.tag, .int .i64 e.tot, .int .i64 e.blk] 104)
  have hB := Blk.new w 104 #[.int .i64 e.path, .int .i64 e.tag, .int .i64 e.tot, .int .i64 e.blk]
  have HL : Hid ((g.s.busy.zip g.s.ers).length = 3) := by show _ = _; simp [nb, ne]
  rw [erAgg_eq]
  go_enter Try.func125, Try.ntmps125
  go_wp2_with fail
  have h1 := h.ext hE
  generalize w.alloc (.cells #[.int .i64 e.path, .int .i64 e.tag, .int .i64 e.tot, .int .i64 e.blk] 104) = w0 at *
  have k0 : w0.cell? ⟨w.heap.size, 0, none⟩ = some (.int .i64 e.path) := hB.cell 0
  have k1 : w0.cell? ⟨w.heap.size, 1, none⟩ = some (.int .i64 e.tag) := hB.cell 1
  have k2 : w0.cell? ⟨w.heap.size, 2, none⟩ = some (.int .i64 e.tot) := hB.cell 2
  have k3 : w0.cell? ⟨w.heap.size, 3, none⟩ = some (.int .i64 e.blk) := hB.cell 3
  go_loopg [5] 3 (fun m v wr => ∃ k : Nat, m = 3 - k ∧ k ≤ 3 ∧ v = .int .i64 k ∧ (∃ n, wr = w0.drewN n) ∧ Hid (∀ (j : Nat) x, j < k → (g.s.busy.zip g.s.ers)[j]? = some x → (x.1 && x.2 == e) = false))
  case atStart => exact ⟨0, rfl, by omega, rfl, ⟨0, rfl⟩, fun j x hj => absurd hj (by omega)⟩
  case round =>
    obtain ⟨k, rfl, hk, rfl, ⟨n, rfl⟩, HA⟩ := hrel
    by_cases hlt : k < 3
    · obtain ⟨b, hb⟩ : ∃ b, g.s.busy[k]? = some b := ⟨_, List.getElem?_eq_getElem (by omega)⟩
      obtain ⟨x, hx⟩ : ∃ x, g.s.ers[k]? = some x := ⟨_, List.getElem?_eq_getElem (by omega)⟩
      have HZ : Hid ((g.s.busy.zip g.s.ers)[k]? = some (b, x)) := by show _ = _; rw [List.getElem?_zip_eq_some]; exact ⟨hb, hx⟩
      have HQ := hide (er_beq x e)
      have cb : w0.cell? ⟨q, 14 + k, none⟩ = some (.bool b) := h1.cBusy k b hb
      have e0 : w0.cell? ⟨q, 17 + k * 4, none⟩ = some (.int .i64 x.path) := h1.cEr k 0 x hx (by omega)
      have e1 : w0.cell? ⟨q, 17 + k * 4 + 1, none⟩ = some (.int .i64 x.tag) := by rw [Nat.add_assoc]; exact h1.cEr k 1 x hx (by omega)
      have e2 : w0.cell? ⟨q, 17 + k * 4 + 2, none⟩ = some (.int .i64 x.tot) := by rw [Nat.add_assoc]; exact h1.cEr k 2 x hx (by omega)
      have e3 : w0.cell? ⟨q, 17 + k * 4 + 3, none⟩ = some (.int .i64 x.blk) := by rw [Nat.add_assoc]; exact h1.cEr k 3 x hx (by omega)
      clear hb hx
      have HN : Hid ((b && x == e) = false → ∀ (j : Nat) y, j < k + 1 → (g.s.busy.zip g.s.ers)[j]? = some y → (y.1 && y.2 == e) = false) := by
        intro hbx j y hj hy
        by_cases hjk : j = k
        · subst hjk; rw [HZ.out] at hy; simp at hy; subst hy; exact hbx
        · exact HA.out j y (by omega) hy
      have HY : Hid ((b && x == e) = true → isSentL g.s e = true) := by
        intro hbx
        unfold isSentL
        rw [List.any_eq_true]
        exact ⟨(b, x), List.mem_of_getElem? HZ.out, hbx⟩
      cases b
      · have HN1 := hide (HN.out rfl)
        clear HN HY HA HZ
        go_wp2_with fail
        go_quiet (fail)
        go_wp2_with fail
        go_roundg (3 - (k + 1))
        case measure => omega
        case rel => exact ⟨k + 1, rfl, by omega, by go_num, ⟨_, rfl⟩, HN1⟩
      · go_wp2_with fail
        by_cases h1 : x.path = e.path
        · by_cases h2 : x.tag = e.tag
          · by_cases h3 : x.tot = e.tot
            · by_cases h4 : x.blk = e.blk
              · have HY1 := hide (HY.out (by rw [HQ.out]; simp [h1, h2, h3, h4]))
                clear HN HY HA HZ HQ
                go_quiet (fail)
                go_wp2_with fail
                go_ret
                exact ⟨ret_bool HY1.out.symm, Ext.trans' hE (Ext.drewN (Ext.drewN (Below.refl _ _) _) _)⟩
              · have HN1 := hide (HN.out (by rw [HQ.out]; simp [h4]))
                clear HN HY HA HZ HQ
                go_quiet (fail)
                go_wp2_with fail
                go_roundg (3 - (k + 1))
                case measure => omega
                case rel => exact ⟨k + 1, rfl, by omega, by go_num, ⟨_, rfl⟩, HN1⟩
            · have HN1 := hide (HN.out (by rw [HQ.out]; simp [h3]))
              clear HN HY HA HZ HQ
              go_quiet (fail)
              go_wp2_with fail
              go_roundg (3 - (k + 1))
              case measure => omega
              case rel => exact ⟨k + 1, rfl, by omega, by go_num, ⟨_, rfl⟩, HN1⟩
          · have HN1 := hide (HN.out (by rw [HQ.out]; simp [h2]))
            clear HN HY HA HZ HQ
            go_quiet (fail)
            go_wp2_with fail
            go_roundg (3 - (k + 1))
            case measure => omega
            case rel => exact ⟨k + 1, rfl, by omega, by go_num, ⟨_, rfl⟩, HN1⟩
        · have HN1 := hide (HN.out (by rw [HQ.out]; simp [h1]))
          clear HN HY HA HZ HQ
          go_quiet (fail)
          go_wp2_with fail
          go_roundg (3 - (k + 1))
          case measure => omega
          case rel => exact ⟨k + 1, rfl, by omega, by go_num, ⟨_, rfl⟩, HN1⟩
    · have HF : Hid (isSentL g.s e = false) := by
        show _ = _
        unfold isSentL
        rw [List.any_eq_false]
        intro y hy
        obtain ⟨j, hj⟩ := List.mem_iff_getElem?.1 hy
        have hjl := (List.getElem?_eq_some_iff.1 hj).1
        rw [HL.out] at hjl
        simpa using HA.out j y (by omega) hj
      have hk3 : k = 3 := by omega
      subst hk3
      go_wp2_with fail
      go_ret
      exact ⟨ret_bool HF.out.symm, Ext.trans' hE (Ext.drewN (Below.refl _ _) _)⟩
end Go.Proofs.Ytpjkicbahocnlaa

namespace Go.Proofs.Ytpjkicbahocnlaa
open Go.RowKit

def optEr (x : Option Er) : Er := x.getD noEr
theorem errFrom_hit {s : Px} {t : Tr} {k : Int} {n : Nat} (h : (wantsT s.blk s.win t (ofT t k) && !isSentL s (ofT t k)) = true) : errFrom s t k (n + 1) = some (ofT t k) := by
  rw [errFrom, if_pos h]
theorem errFrom_miss {s : Px} {t : Tr} {k : Int} {n : Nat} (h : (wantsT s.blk s.win t (ofT t k) && !isSentL s (ofT t k)) = false) : errFrom s t k (n + 1) = errFrom s t (k + 1) n := by
  rw [errFrom, if_neg (by simp [h])]

theorem PgAt.setC {w : World} {q : Nat} {g : Pg} (h : PgAt w q g) : w.cell? ⟨q, 0, none⟩ = some (.int .i64 g.s.mir) ∧ w.cell? ⟨q, 1, none⟩ = some (.int .i64 g.s.blk) ∧ w.cell? ⟨q, 2, none⟩ = some (.int .i64 g.s.win) ∧ w.cell? ⟨q, 3, none⟩ = some (.int .i64 g.s.cap) ∧ w.cell? ⟨q, 4, none⟩ = some (.int .i64 g.s.tri) :=
  ⟨h.cSet 0 (by omega), h.cSet 1 (by omega), h.cSet 2 (by omega), h.cSet 3 (by omega), h.cSet 4 (by omega)⟩

def ErCut (w : World) (tp tg tt : Int) (v : Value) (wx : World) : Prop :=
  ∃ n8 : Nat, v = .pointer (some ⟨n8, 0, none⟩) ∧ n8 ≠ w.heap.size ∧ w.heap.size ≤ n8 ∧ Ext w wx ∧ Blk wx w.heap.size 104 #[.int .i64 0, .int .i64 0, .int .i64 0, .int .i64 0] ∧ Blk wx n8 104 #[.int .i64 tp, .int .i64 tg, .int .i64 tt, .int .i64 0]
theorem erA {w w2 : World} {tp tg tt : Int} (hX : Ext w w2) (hB : Blk w2 w.heap.size 104 #[.int .i64 0, .int .i64 0, .int .i64 0, .int .i64 0]) (hlt : w.heap.size < w2.heap.size) :
    ErCut w tp tg tt (.pointer (some ⟨w2.heap.size, 0, none⟩)) (w2.alloc (.cells #[.int .i64 tp, .int .i64 tg, .int .i64 tt, .int .i64 0] 104)) :=
  ⟨w2.heap.size, rfl, by omega, by omega, Ext.trans' hX (Ext.new _ _), hB.ext (Ext.new _ _), Blk.new _ _ _⟩
theorem erB {w w1 w2 : World} {tp tg tt : Int} (hX : Ext w w2) (hB : Blk w2 w.heap.size 104 #[.int .i64 0, .int .i64 0, .int .i64 0, .int .i64 0]) (hz : Blk w2 w1.heap.size 104 #[.int .i64 0, .int .i64 0, .int .i64 0, .int .i64 0]) (hlt : w.heap.size < w1.heap.size) :
    ErCut w tp tg tt (.pointer (some ⟨w1.heap.size, 0, none⟩)) ((((w2.setCell ⟨w1.heap.size, 0, none⟩ (.int .i64 tp)).setCell ⟨w1.heap.size, 1, none⟩ (.int .i64 tg)).setCell ⟨w1.heap.size, 2, none⟩ (.int .i64 tt)).setCell ⟨w1.heap.size, 3, none⟩ (.int .i64 0)) := by
  refine ⟨w1.heap.size, rfl, by omega, by omega, ?_, (((hB.setOther (p := ⟨w1.heap.size, 0, none⟩) (by simp; omega) _).setOther (p := ⟨w1.heap.size, 1, none⟩) (by simp; omega) _).setOther (p := ⟨w1.heap.size, 2, none⟩) (by simp; omega) _).setOther (p := ⟨w1.heap.size, 3, none⟩) (by simp; omega) _, ?_⟩
  · exact (((hX.setCell (p := ⟨w1.heap.size, 0, none⟩) (by simp; omega) _).setCell (p := ⟨w1.heap.size, 1, none⟩) (by simp; omega) _).setCell (p := ⟨w1.heap.size, 2, none⟩) (by simp; omega) _).setCell (p := ⟨w1.heap.size, 3, none⟩) (by simp; omega) _
  · have := (((hz.set 0 (.int .i64 tp)).set 1 (.int .i64 tg)).set 2 (.int .i64 tt)).set 3 (.int .i64 0)
    simpa using this

set_option maxRecDepth 100000 in
set_option maxHeartbeats 4000000 in
theorem errandOf_any (q b o : Nat) (t : Tr) (g : Pg) (w : World) (h : PgAt w q g) (ht : TrAt w b o t) (ok : TrOk t) :
    Calls Try.prog 96 #[.pointer (some ⟨q, 0, none⟩), .pointer (some ⟨b, o, none⟩)] w fun r w' =>
      r = .returned (.tuple #[erAgg (optEr (errOf g.s t)), .bool (errOf g.s t).isSome]) ∧ Ext w w' := by
  have hf := h.ok.fair
  have hbd := winT_bd ok hf
  have hE0 := Ext.new w (.cells #[.int .i64 0, .int .i64 0, .int .i64 0, .int .i64 0] 104)
  have hB0 := Blk.new w 104 #[.int .i64 0, .int .i64 0, .int .i64 0, .int .i64 0]
  have hWA := pwindow_any b o t g.s
  rw [setAgg_eq] at hWA
  have HEO : Hid (errOf g.s t = errFrom g.s t (winT g.s.blk g.s.win t).1 ((winT g.s.blk g.s.win t).2 - (winT g.s.blk g.s.win t).1).toNat) := rfl
  generalize (winT g.s.blk g.s.win t).1 = x at *
  generalize (winT g.s.blk g.s.win t).2 = y at *
  generalize errOf g.s t = res at *
  obtain ⟨m0, m1, m2, m3, m4⟩ := h.setC
  have hql := h.blk.lt
  have htl := ht.lt
  go_enter Try.func96, Try.ntmps96
  go_wp2_with fail
  refine (hWA _ (ht.ext hE0) ok hf).mono ?_
  rintro r w1 ⟨rfl, hE1⟩
  have hX1 := Ext.trans' hE0 hE1
  have hB1 := hB0.ext hE1
  have ht1 := ht.ext hX1
  have c0 : w1.cell? ⟨b, o, none⟩ = some (.int .i64 t.path) := ht1.c 0
  have htl1 := ht1.lt
  have hlt1 := hB1.lt
  have hB1l := hlt1
  clear hE0 hE1 hB0 hWA m0 m1 m2 m3 m4
  go_wp2_with fail
  have HV := hide (version_any b o t)
  go_cut [8] (fun v wx => ErCut w t.path t.hd.tag t.hd.tot v wx)
  case first =>
    go_region_with (go_at_call 124; first | (refine (HV.out _ (ht1.ext (Below.drew (Below.refl _ _)))).mono ?_; rintro r w2 ⟨rfl, hE2⟩; have c0' := ext_cell hE2.undrew c0; have hX2 := Ext.trans' hX1 hE2.undrew; have hB2 := hB1.ext hE2.undrew; have hs2 := hE2.undrew.size; have htl2 : b < w2.heap.size := Nat.lt_of_lt_of_le htl1 hs2; have isA : True := trivial) | (refine (HV.out _ (ht1.ext (Below.drew (Ext.new _ _)))).mono ?_; rintro r w2 ⟨rfl, hE2⟩; have hE2' := Ext.trans' (Ext.new w1 _) hE2.undrew; have c0' := ext_cell hE2' c0; have hX2 := Ext.trans' hX1 hE2'; have hB2 := hB1.ext hE2'; have hs2 := hE2'.size; have htl2 : b < w2.heap.size := Nat.lt_of_lt_of_le htl1 hs2; have hBz := (Blk.new w1 104 #[.int .i64 0, .int .i64 0, .int .i64 0, .int .i64 0]).ext hE2.undrew; have z0 : w2.cell? ⟨w1.heap.size, 0, none⟩ = some (.int .i64 0) := hBz.cell 0; have z1 : w2.cell? ⟨w1.heap.size, 1, none⟩ = some (.int .i64 0) := hBz.cell 1; have z2 : w2.cell? ⟨w1.heap.size, 2, none⟩ = some (.int .i64 0) := hBz.cell 2; have z3 : w2.cell? ⟨w1.heap.size, 3, none⟩ = some (.int .i64 0) := hBz.cell 3; have zf := hBz.frozen; have isB : True := trivial))
    all_goals go_wp2_with fail
    all_goals go_meet
    all_goals first
      | (have := isA; clear c0' htl2; exact erA hX2 hB2 (by omega))
      | (have := isB; clear c0' htl2 z0 z1 z2 z3 zf; exact erB hX2 hB2 hBz hlt1)
  case rest =>
    obtain ⟨n8, rfl, hn1, hn2, hX2, hB2, hE2⟩ := hcut
    clear hX1 hB1 ht1 c0 htl1 HV hlt1 hB1l
    go_wp2_with fail
    go_loopg [9] (y - x).toNat (fun m v wr => ∃ n : Nat, m = (y - x).toNat - n ∧ n ≤ (y - x).toNat ∧ v = .int .i64 (x + n) ∧ Ext w wr ∧ Blk wr w.heap.size 104 #[.int .i64 0, .int .i64 0, .int .i64 0, .int .i64 0] ∧ (∃ bk, Blk wr n8 104 #[.int .i64 t.path, .int .i64 t.hd.tag, .int .i64 t.hd.tot, bk]) ∧ Hid (res = errFrom g.s t (x + n) ((y - x).toNat - n)))
    case atStart => exact ⟨0, rfl, by omega, by simp, hX2, hB2, ⟨_, hE2⟩, by show _ = _; simpa using HEO.out⟩
    case round =>
      obtain ⟨n, rfl, hn, rfl, hXr, hBr, ⟨bk, hEr⟩, HR⟩ := hrel
      clear hX2 hB2 hE2 HEO
      by_cases hlt : x + n < y
      · have hX3 : Ext w (wr.setCell ⟨n8, 3, none⟩ (.int .i64 (x + n))) := hXr.setCell (p := ⟨n8, 3, none⟩) hn2 _
        have hB3 := hBr.setOther (p := ⟨n8, 3, none⟩) hn1 (.int .i64 (x + n))
        have hE3 : Blk (wr.setCell ⟨n8, 3, none⟩ (.int .i64 (x + n))) n8 104 #[.int .i64 t.path, .int .i64 t.hd.tag, .int .i64 t.hd.tot, .int .i64 (x + n)] := by
          have := hEr.set 3 (.int .i64 (x + n)); simpa using this
        have c3 : wr.cell? ⟨n8, 3, none⟩ = some bk := hEr.cell 3
        have cf := hEr.frozen
        have hnl := hEr.lt
        have HM : Hid ((wantsT g.s.blk g.s.win t (ofT t (x + n)) && !isSentL g.s (ofT t (x + n))) = true → res = some (ofT t (x + n))) := fun hh => by
          rw [HR.out, show (y - x).toNat - n = ((y - x).toNat - (n + 1)) + 1 from by omega, errFrom_hit hh]
        have HMi : Hid ((wantsT g.s.blk g.s.win t (ofT t (x + n)) && !isSentL g.s (ofT t (x + n))) = false → res = errFrom g.s t (x + ((n + 1 : Nat) : Int)) ((y - x).toNat - (n + 1))) := fun hh => by
          rw [HR.out, show (y - x).toNat - n = ((y - x).toNat - (n + 1)) + 1 from by omega, errFrom_miss hh]; congr 1; push_cast; omega
        go_wp2_with fail
        generalize wr.setCell ⟨n8, 3, none⟩ (.int .i64 (x + n)) = w3 at *
        have h3 := h.ext hX3
        have ht3 := ht.ext hX3
        obtain ⟨m0, m1, m2, m3, m4⟩ := h3.setC
        have e0 : w3.cell? ⟨n8, 0, none⟩ = some (.int .i64 t.path) := hE3.cell 0
        have e1 : w3.cell? ⟨n8, 1, none⟩ = some (.int .i64 t.hd.tag) := hE3.cell 1
        have e2 : w3.cell? ⟨n8, 2, none⟩ = some (.int .i64 t.hd.tot) := hE3.cell 2
        have e3 : w3.cell? ⟨n8, 3, none⟩ = some (.int .i64 (x + n)) := hE3.cell 3
        have HW := hide (pwants_any b o t (ofT t (x + n)) g.s)
        have HI := hide (isSent_any q (ofT t (x + n)) g)
        have HOF : Hid (erAgg (ofT t (x + n)) = .agg #[.int .i64 t.path, .int .i64 t.hd.tag, .int .i64 t.hd.tot, .int .i64 (x + n)]) := rfl
        generalize wantsT g.s.blk g.s.win t (ofT t (x + n)) = wv at *
        generalize isSentL g.s (ofT t (x + n)) = sv at *
        clear hEr hBr hXr HR cf c3
        go_cut [41] (fun v wx => v = .bool (!wv) ∧ Ext w3 wx)
        case first =>
          clear HM HMi HI
          go_region_held3 (fun w' => w'.cell? ⟨n8, 0, none⟩ = some (.int .i64 t.path) ∧ w'.cell? ⟨n8, 1, none⟩ = some (.int .i64 t.hd.tag) ∧ w'.cell? ⟨n8, 2, none⟩ = some (.int .i64 t.hd.tot) ∧ w'.cell? ⟨n8, 3, none⟩ = some (.int .i64 (x + n)) ∧ w'.cell? ⟨q, 0, none⟩ = some (.int .i64 g.s.mir) ∧ w'.cell? ⟨q, 1, none⟩ = some (.int .i64 g.s.blk) ∧ w'.cell? ⟨q, 2, none⟩ = some (.int .i64 g.s.win) ∧ w'.cell? ⟨q, 3, none⟩ = some (.int .i64 g.s.cap) ∧ w'.cell? ⟨q, 4, none⟩ = some (.int .i64 g.s.tri)) (go_keep)
            ((go_at_call 104
              refine (HW.out _ (ht3.ext (Below.drew (Below.refl _ _))) ok hf).mono ?_
              rintro r w4 ⟨rfl, hE4⟩
              have e0' := ext_cell hE4.undrew e0
              have e1' := ext_cell hE4.undrew e1
              have e2' := ext_cell hE4.undrew e2
              have e3' := ext_cell hE4.undrew e3
              have m0' := ext_cell hE4.undrew m0
              have m1' := ext_cell hE4.undrew m1
              have m2' := ext_cell hE4.undrew m2
              have m3' := ext_cell hE4.undrew m3
              have m4' := ext_cell hE4.undrew m4))
          all_goals go_wp2_with fail
          all_goals go_meet
          all_goals exact ⟨rfl, hE4.undrew⟩
        case rest =>
          obtain ⟨rfl, hE4⟩ := hcut
          have hX4 := Ext.trans' hX3 hE4
          have hB4 := hB3.ext hE4
          have hEE4 := hE3.ext hE4
          have e0 := ext_cell hE4 e0
          have e1 := ext_cell hE4 e1
          have e2 := ext_cell hE4 e2
          have e3 := ext_cell hE4 e3
          clear hX3 hB3 hE3 h3 ht3 HW m0 m1 m2 m3 m4
          cases wv
          · have HMi1 := hide (HMi.out rfl)
            clear HM HMi HI
            simp only [Bool.not_false]
            go_wp2_with fail
            go_roundg ((y - x).toNat - (n + 1))
            case measure => omega
            case rel => exact ⟨n + 1, rfl, by omega, by congr 1; push_cast; omega, hX4, hB4, ⟨_, hEE4⟩, HMi1⟩
          · simp only [Bool.not_true]
            go_wp2_with fail
            refine (HI.out _ (h.ext hX4)).mono ?_
            rintro r w5 ⟨rfl, hE5⟩
            have hX5 := Ext.trans' hX4 hE5
            have hB5 := hB4.ext hE5
            have hEE5 := hEE4.ext hE5
            have f0 : w5.cell? ⟨n8, 0, none⟩ = some (.int .i64 t.path) := hEE5.cell 0
            have f1 : w5.cell? ⟨n8, 1, none⟩ = some (.int .i64 t.hd.tag) := hEE5.cell 1
            have f2 : w5.cell? ⟨n8, 2, none⟩ = some (.int .i64 t.hd.tot) := hEE5.cell 2
            have f3 : w5.cell? ⟨n8, 3, none⟩ = some (.int .i64 (x + n)) := hEE5.cell 3
            clear hX4 hB4 hEE4 hE5 hE4 HI e0 e1 e2 e3
            cases sv
            · have HM1 := hide (HM.out rfl)
              have z0 : w5.cell? ⟨w.heap.size, 0, none⟩ = some (.int .i64 0) := hB5.cell 0
              have z1 : w5.cell? ⟨w.heap.size, 1, none⟩ = some (.int .i64 0) := hB5.cell 1
              have z2 : w5.cell? ⟨w.heap.size, 2, none⟩ = some (.int .i64 0) := hB5.cell 2
              have z3 : w5.cell? ⟨w.heap.size, 3, none⟩ = some (.int .i64 0) := hB5.cell 3
              have zf := hB5.frozen
              clear HM HMi
              go_wp2_with fail
              refine bodyPost_ret (v := .tuple #[erAgg (ofT t (x + n)), .bool true]) (by simp [results, Try.results96, go_sem, HOF.out, z0, z1, z2, z3]) rfl ⟨by rw [HM1.out]; rfl, ?_⟩
              (with_reducible repeat (first | refine Below.drew ?_ | refine Below.alloc ?_ ?_ _ | refine Below.setCell ?_ ?_ _ | exact hX5)) <;> simp
            · have HMi1 := hide (HMi.out rfl)
              clear HM HMi
              go_wp2_with fail
              go_roundg ((y - x).toNat - (n + 1))
              case measure => omega
              case rel => exact ⟨n + 1, rfl, by omega, by congr 1; push_cast; omega, hX5, hB5, ⟨_, hEE5⟩, HMi1⟩
      · have HN : Hid (res = none) := by show _ = _; rw [HR.out, show (y - x).toNat - n = 0 from by omega]; rfl
        have z0 : wr.cell? ⟨w.heap.size, 0, none⟩ = some (.int .i64 0) := hBr.cell 0
        have z1 : wr.cell? ⟨w.heap.size, 1, none⟩ = some (.int .i64 0) := hBr.cell 1
        have z2 : wr.cell? ⟨w.heap.size, 2, none⟩ = some (.int .i64 0) := hBr.cell 2
        have z3 : wr.cell? ⟨w.heap.size, 3, none⟩ = some (.int .i64 0) := hBr.cell 3
        have zf := hBr.frozen
        go_wp2_with fail
        refine bodyPost_ret (v := .tuple #[erAgg noEr, .bool false]) (by simp [results, Try.results96, go_sem, erAgg, noEr, z0, z1, z2, z3]) rfl ⟨by rw [HN.out]; rfl, ?_⟩
        (with_reducible repeat (first | refine Below.drew ?_ | refine Below.alloc ?_ ?_ _ | refine Below.setCell ?_ ?_ _ | exact hXr)) <;> simp
end Go.Proofs.Ytpjkicbahocnlaa

namespace Go.Proofs.Ytpjkicbahocnlaa
open Go.RowKit

theorem findSome_hit {s : Px} {l : List Tr} {k : Nat} {t : Tr} {e : Er} (hk : l[k]? = some t) (hall : ∀ (j : Nat) u, j < k → l[j]? = some u → errOf s u = none) (h : errOf s t = some e) : l.findSome? (errOf s) = some e := by
  induction l generalizing k with
  | nil => simp at hk
  | cons a l ih =>
    cases k with
    | zero => simp at hk; subst hk; rw [List.findSome?_cons, h]
    | succ k =>
      rw [List.findSome?_cons, hall 0 a (by omega) rfl]
      exact ih (k := k) (by simpa using hk) (fun j u hj hu => hall (j + 1) u (by omega) (by simpa using hu))
theorem findSome_none {s : Px} {l : List Tr} (hall : ∀ (j : Nat) u, j < l.length → l[j]? = some u → errOf s u = none) : l.findSome? (errOf s) = none := by
  rw [List.findSome?_eq_none_iff]
  intro u hu
  obtain ⟨j, hj⟩ := List.mem_iff_getElem?.1 hu
  exact hall j u (List.getElem?_eq_some_iff.1 hj).1 hj

set_option maxRecDepth 100000 in
set_option maxHeartbeats 4000000 in
theorem nextErrand_any (q : Nat) (g : Pg) (w : World) (h : PgAt w q g) :
    Calls Try.prog 68 #[.pointer (some ⟨q, 0, none⟩)] w fun r w' =>
      r = .returned (.tuple #[erAgg (optEr (nextE g.s)), .bool (nextE g.s).isSome]) ∧ Ext w w' := by
  have hE0 := Ext.new w (.cells #[.int .i64 0, .int .i64 0, .int .i64 0, .int .i64 0] 104)
  have hB0 := Blk.new w 104 #[.int .i64 0, .int .i64 0, .int .i64 0, .int .i64 0]
  have HNE : Hid (nextE g.s = g.s.trs.findSome? (errOf g.s)) := rfl
  generalize nextE g.s = res at *
  have hn8 := h.ok.nt
  obtain ⟨aT, capT, hT, hT0⟩ := own_form h.ts
  go_enter Try.func68, Try.ntmps68
  go_wp2_with fail
  generalize w.alloc (.cells #[.int .i64 0, .int .i64 0, .int .i64 0, .int .i64 0] 104) = w0 at *
  go_loopg [4] g.s.trs.length (fun m v wr => ∃ n : Nat, m = g.s.trs.length - n ∧ n ≤ g.s.trs.length ∧ v = .int .i64 n ∧ Ext w wr ∧ Blk wr w.heap.size 104 #[.int .i64 0, .int .i64 0, .int .i64 0, .int .i64 0] ∧ Hid (∀ (j : Nat) u, j < n → g.s.trs[j]? = some u → errOf g.s u = none))
  case atStart => exact ⟨0, rfl, by omega, rfl, hE0, hB0, fun j u hj => absurd hj (by omega)⟩
  case round =>
    obtain ⟨n, rfl, hn, rfl, hXr, hBr, HA⟩ := hrel
    have hr := h.ext hXr
    have c13 : wr.cell? ⟨q, 13, none⟩ = some (.slice aT g.s.trs.length capT) := by rw [← hT]; exact hr.cV
    have z0 : wr.cell? ⟨w.heap.size, 0, none⟩ = some (.int .i64 0) := hBr.cell 0
    have z1 : wr.cell? ⟨w.heap.size, 1, none⟩ = some (.int .i64 0) := hBr.cell 1
    have z2 : wr.cell? ⟨w.heap.size, 2, none⟩ = some (.int .i64 0) := hBr.cell 2
    have z3 : wr.cell? ⟨w.heap.size, 3, none⟩ = some (.int .i64 0) := hBr.cell 3
    have zf := hBr.frozen
    have hBl := hBr.lt
    by_cases hlt : n < g.s.trs.length
    · obtain ⟨b, rfl⟩ := hT0 (by omega)
      obtain ⟨t, ht⟩ : ∃ t, g.s.trs[n]? = some t := ⟨_, List.getElem?_eq_getElem hlt⟩
      have HTn := hide ht
      obtain ⟨b', cap', hT', hTr, -⟩ := hr.row ht
      have hbb : b' = b := by
        have := hT.symm.trans hT'
        simp at this; exact this.1.symm
      subst hbb
      have ok := h.ok.ts t (List.mem_of_getElem? ht)
      have HEO := hide (errandOf_any q b' (n * 18) t g)
      have HS : Hid (errOf g.s t = none → ∀ (j : Nat) u, j < n + 1 → g.s.trs[j]? = some u → errOf g.s u = none) := by
        intro h0 j u hj hu
        by_cases hjn : j = n
        · subst hjn; rw [HTn.out] at hu; simp at hu; subst hu; exact h0
        · exact HA.out j u (by omega) hu
      have HF : Hid (∀ e, errOf g.s t = some e → res = some e) := fun e he => by rw [HNE.out]; exact findSome_hit HTn.out HA.out he
      clear ht hT' hT hT0
      have hlt' : (n : Int) < g.s.trs.length := by omega
      go_wp2_with fail
      refine (HEO.out _ hr hTr ok).mono ?_
      rintro r w1 ⟨rfl, hE1⟩
      have hX1 := Ext.trans' hXr hE1
      have hB1 := hBr.ext hE1
      cases hres : errOf g.s t with
      | none =>
        have HS1 := hide (HS.out hres)
        clear HS HF z0 z1 z2 z3 zf
        simp only [optEr, noEr, Option.getD_none, Option.isSome_none, erAgg]
        go_wp2_with fail
        go_roundg (g.s.trs.length - (n + 1))
        case measure => omega
        case rel => exact ⟨n + 1, rfl, by omega, by go_num, Ext.trans' hX1 (Ext.new _ _), hB1.ext (Ext.new _ _), HS1⟩
      | some e =>
        have HF1 := hide (HF.out e hres)
        replace z0 := ext_cell hE1 z0
        replace z1 := ext_cell hE1 z1
        replace z2 := ext_cell hE1 z2
        replace z3 := ext_cell hE1 z3
        replace zf := hB1.frozen
        have hBl1 := hB1.lt
        clear HS HF
        simp only [optEr, Option.getD_some, Option.isSome_some, erAgg]
        go_wp2_with fail
        refine bodyPost_ret (v := .tuple #[erAgg e, .bool true]) (by simp [results, Try.results68, go_sem, erAgg, z0, z1, z2, z3, hBl1]) rfl ⟨by rw [HF1.out]; rfl, ?_⟩
        (with_reducible repeat (first | refine Below.drew ?_ | refine Below.setCell ?_ ?_ _ | refine Below.alloc ?_ ?_ _ | exact hX1)) <;> first | (simp; done) | (simp [World.setCell]; exact hX1.size)
    · have HN : Hid (res = none) := by
        show _ = _
        rw [HNE.out]
        exact findSome_none (fun j u hj hu => HA.out j u (by omega) hu)
      go_wp2_with fail
      refine bodyPost_ret (v := .tuple #[erAgg noEr, .bool false]) (by simp [results, Try.results68, go_sem, erAgg, noEr, z0, z1, z2, z3]) rfl ⟨by rw [HN.out]; rfl, ?_⟩
      (with_reducible repeat (first | refine Below.drew ?_ | refine Below.alloc ?_ ?_ _ | refine Below.setCell ?_ ?_ _ | exact hXr)) <;> simp
end Go.Proofs.Ytpjkicbahocnlaa
