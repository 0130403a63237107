import Derived.Test.YtjhihliciadipabGreatPnext
import Derived.Test.YtjhihliciadipabGreatPbind
import Derived.Test.YtjhihliciadipabGreatPtake
import Derived.Test.YtjhihliciadipabGreatPlook
set_option linter.unusedVariables false
set_option linter.unusedSimpArgs false
set_option linter.unnecessarySimpa false
namespace Go.Proofs.YtjhihliciadipabGreat
open Go.RowKit

theorem PgAt.cTr' {w : World} {q : Nat} {g : Pg} (h : PgAt w q g) {k cap : Nat} (hT : g.v.t = .slice (some ⟨k, 0, none⟩) g.s.trs.length cap) : w.cell? ⟨q, 13, none⟩ = some (.slice (some ⟨k, 0, none⟩) g.s.trs.length cap) := by rw [← hT]; exact h.cV
theorem hasT_yes {s : Px} {id : Int} (h : hasT s id = true) : ∃ i : Nat, id = i ∧ i < s.trs.length := by
  unfold hasT at h; simp at h; exact ⟨id.toNat, by omega, by omega⟩
def ansT (s : Px) (id : Int) (f : Tr → Int) : Int × Int := if hasT s id then (f (s.trs.getD id.toNat ⟨0, 0, 0, 0, false, false, false, ⟨0, 0, 0, 0, 0⟩, 0, 0, []⟩), 0) else (0, 7)
theorem ansT_no {s : Px} {id : Int} {f : Tr → Int} (h : hasT s id = false) : ansT s id f = (0, 7) := by unfold ansT; rw [h]; rfl
theorem ansT_yes {s : Px} {i : Nat} {f : Tr → Int} {t : Tr} (h : hasT s i = true) (ht : s.trs[i]? = some t) : ansT s i f = (f t, 0) := by
  unfold ansT; rw [h]; simp [ht]

theorem StateP_any (q : Nat) (id : Int) (g : Pg) (w : World) (h : PgAt w q g) :
    Calls Tryz.prog 26 #[.pointer (some ⟨q, 0, none⟩), .int .i64 id] w fun e w' => e = .returned (.tuple #[.int .i64 (ansT g.s id stT).1, .int .i64 (ansT g.s id stT).2]) ∧ Ext w w' := by
  have HM := hasT_any q id g w h
  cases hI : hasT g.s id
  · rw [ansT_no hI]
    rw [hI] at HM
    go_enter Tryz.func26, Tryz.ntmps26
    go_wp2_with fail
    refine HM.mono ?_
    rintro e w1 ⟨rfl, rfl⟩
    go_wp2_with fail
    go_ret2
    exact ⟨rfl, Below.refl _ _⟩
  · obtain ⟨i, rfl, hi⟩ := hasT_yes hI
    obtain ⟨t, ht⟩ : ∃ t, g.s.trs[i]? = some t := ⟨_, List.getElem?_eq_getElem hi⟩
    rw [ansT_yes hI ht]
    rw [hI] at HM
    obtain ⟨b, cap, hT, hTr, hbq⟩ := h.row ht
    have c13 := h.cTr' hT
    have hn8 := h.ok.nt
    have hii : (i : Int) < g.s.trs.length := by omega
    have HS := state_any b (i * 18) t w hTr
    clear ht hT
    go_enter Tryz.func26, Tryz.ntmps26
    go_wp2_with fail
    refine HM.mono ?_
    rintro e w1 ⟨rfl, rfl⟩
    go_wp2_with fail
    refine HS.mono ?_
    rintro e w1 ⟨rfl, hE1⟩
    go_wp2_with fail
    go_ret2
    exact ⟨rfl, hE1⟩

/-! Head and Take: they show the transfer. -/
def pshowT (t : Tr) : Tr := { t with shown := true }
theorem pshowT_ok {t : Tr} (ok : TrOk t) (ho : openT t = false) : TrOk (pshowT t) :=
  ⟨ok.p0, ok.p1, ok.f0, ok.f1, ok.l0, ok.l1, ok.hl, ok.hb, ok.r0, ok.n0, ok.n1, ok.k0, ok.k1, ok.a0, ok.a1, ok.a2, fun h => by simp [pshowT] at h, fun h1 h2 => by
    unfold openT at ho
    have h1' : t.bound = false := h1
    have h2' : t.lost = false := h2
    rw [h1', h2'] at ho; simp at ho, ok.o0, ok.o1⟩
def headA (s : Px) (id : Int) : Hd × Int :=
  match s.trs[id.toNat]? with
  | some t => if hasT s id = false then (⟨0, 0, 0, 0, 0⟩, 7) else if openT t then (⟨0, 0, 0, 0, 0⟩, 8) else (t.hd, 0)
  | none => (⟨0, 0, 0, 0, 0⟩, 7)
def headS (s : Px) (id : Int) : Px :=
  match s.trs[id.toNat]? with
  | some t => if hasT s id = false then s else if openT t then s else setT s id.toNat (pshowT t)
  | none => s
def takeA (s : Px) (id n : Int) : ByteArray × Int :=
  match s.trs[id.toNat]? with
  | some t => if hasT s id = false then (ByteArray.empty, 7) else if n < 0 then (ByteArray.empty, 9) else if openT t then (ByteArray.empty, 8) else ((takeT s.blk s.win n (pshowT t)).1, 0)
  | none => (ByteArray.empty, 7)
def ptakeS (s : Px) (id n : Int) : Px :=
  match s.trs[id.toNat]? with
  | some t => if hasT s id = false then s else if n < 0 then s else if openT t then s else plookS (setT s id.toNat (takeT s.blk s.win n (pshowT t)).2)
  | none => s
end Go.Proofs.YtjhihliciadipabGreat

namespace Go.Proofs.YtjhihliciadipabGreat
open Go.RowKit

theorem PgAt.setC' {w : World} {q : Nat} {g : Pg} (h : PgAt w q g) : w.cell? ⟨q, 0, none⟩ = some (.int .i64 g.s.mir) ∧ w.cell? ⟨q, 1, none⟩ = some (.int .i64 g.s.blk) ∧ w.cell? ⟨q, 2, none⟩ = some (.int .i64 g.s.win) ∧ w.cell? ⟨q, 3, none⟩ = some (.int .i64 g.s.cap) ∧ w.cell? ⟨q, 4, none⟩ = some (.int .i64 g.s.tri) :=
  ⟨h.cSet 0 (by omega), h.cSet 1 (by omega), h.cSet 2 (by omega), h.cSet 3 (by omega), h.cSet 4 (by omega)⟩
theorem holdT_ok {t : Tr} (ok : TrOk t) (k : Int) : TrOk (holdT t k ByteArray.empty) :=
  ⟨ok.p0, ok.p1, ok.f0, ok.f1, ok.l0, ok.l1, by simp [holdT, ok.hl], fun b hb => by
    rcases List.mem_or_eq_of_mem_set hb with h1 | rfl
    · exact ok.hb b h1
    · simp, ok.r0, ok.n0, ok.n1, ok.k0, ok.k1, ok.a0, ok.a1, ok.a2, ok.sh, ok.op, ok.o0, ok.o1⟩
theorem goT_ok {t : Tr} (ok : TrOk t) (a b k : Int) (n : Nat) : TrOk (goT a b t k n) := by
  induction n with
  | zero => exact ok
  | succ n ih => rw [goT_succ]; split; exact ih; exact holdT_ok ih _
theorem taken_ok {t : Tr} (ok : TrOk t) (hs : t.shown = true) (k : Int) (h0 : 0 ≤ k) (h1 : k ≤ t.hd.len - t.taken) : TrOk { t with taken := t.taken + k } :=
  ⟨ok.p0, ok.p1, ok.f0, ok.f1, ok.l0, ok.l1, ok.hl, ok.hb, ok.r0, ok.n0, ok.n1, by have := ok.k0; show 0 ≤ t.taken + k; omega, by show t.taken + k ≤ t.hd.len; omega, ok.a0, ok.a1, ok.a2, fun h => by have h' : t.shown = false := h; rw [hs] at h'; simp at h', ok.op, ok.o0, ok.o1⟩
theorem takeT_ok {t : Tr} {s : Px} (ok : TrOk t) (hf : Fair s) (hs : t.shown = true) (n : Int) (hn : 0 ≤ n) : TrOk (takeT s.blk s.win n t).2 := by
  by_cases h : ((runT t (winT s.blk s.win t).1 ((winT s.blk s.win t).2 - (winT s.blk s.win t).1).toNat).size : Int) ≤ t.hd.frm + t.taken - (winT s.blk s.win t).1 * s.blk
  · rw [takeT_none rfl rfl h]; exact ok
  · rw [takeT_some rfl rfl h]
    have hb := takeN_bd ok ((runT t (winT s.blk s.win t).1 ((winT s.blk s.win t).2 - (winT s.blk s.win t).1).toNat).size : Int) (t.hd.frm + t.taken - (winT s.blk s.win t).1 * s.blk) n (by omega) hn
    exact goT_ok (taken_ok ok hs _ hb.1 hb.2.2.1) _ _ _ _

set_option maxHeartbeats 1000000 in
theorem HeadP_any (q : Nat) (id : Int) (g : Pg) (w : World) (h : PgAt w q g) :
    Calls Tryz.prog 30 #[.pointer (some ⟨q, 0, none⟩), .int .i64 id] w fun e w' =>
      e = .returned (.tuple #[headAgg (headA g.s id).1.st (headA g.s id).1.tag (headA g.s id).1.tot (headA g.s id).1.frm (headA g.s id).1.len, .int .i64 (headA g.s id).2]) ∧ PTo w w' q g (headS g.s id) := by
  have hE0 := Ext.new w (.cells #[.int .i64 0, .int .i64 0, .int .i64 0, .int .i64 0, .int .i64 0] 71)
  have HM := hasT_any q id g _ (h.ext hE0)
  unfold headAgg
  cases hI : hasT g.s id
  · have HA : Hid (headA g.s id = (⟨0, 0, 0, 0, 0⟩, 7)) := by show _ = _; unfold headA; split <;> simp [hI]
    have HS : Hid (headS g.s id = g.s) := by show _ = _; unfold headS; split <;> simp [hI]
    rw [hI] at HM
    go_enter Tryz.func30, Tryz.ntmps30
    go_wp2_with fail
    refine HM.mono ?_
    rintro e w1 ⟨rfl, rfl⟩
    go_wp2_with fail
    refine bodyPost_ret (v := .tuple #[headAgg 0 0 0 0 0, .int .i64 7]) (by simp [results, Tryz.results30, go_sem, headAgg]) rfl ⟨by rw [HA.out]; rfl, ?_⟩
    rw [HS.out]
    refine PTo.ext h ?_
    (with_reducible repeat (first | refine Below.drew ?_ | refine Below.alloc ?_ ?_ _ | refine Below.setCell ?_ ?_ _ | exact Below.refl _ _)) <;> simp
  · obtain ⟨i, rfl, hi⟩ := hasT_yes hI
    obtain ⟨t, ht⟩ : ∃ t, g.s.trs[i]? = some t := ⟨_, List.getElem?_eq_getElem hi⟩
    have ok := h.ok.ts t (List.mem_of_getElem? ht)
    obtain ⟨b, cap, hT, hTr, hbq⟩ := h.row ht
    have c13 := h.cTr' hT
    have hn8 := h.ok.nt
    have hii : (i : Int) < g.s.trs.length := by omega
    have hql := h.blk.lt
    have hbl := hTr.lt
    have HO := isOpen_any b (i * 18) t _ (hTr.ext hE0)
    rw [hI] at HM
    have HTt := hide ht
    have HTT := hide hT
    cases ho : openT t <;> rw [ho] at HO
    · have HA : Hid (headA g.s i = (t.hd, 0)) := by show _ = _; unfold headA; simp [HTt.out, hI, ho]
      have HS : Hid (headS g.s i = setT g.s i (pshowT t)) := by show _ = _; unfold headS; simp [HTt.out, hI, ho]
      have c5 : w.cell? ⟨b, i * 18 + 5, none⟩ = some (.bool t.shown) := hTr.c 5
      have c7 : w.cell? ⟨b, i * 18 + 7, none⟩ = some (.int .i64 t.hd.st) := hTr.c 7
      have c8 : w.cell? ⟨b, i * 18 + 7 + 1, none⟩ = some (.int .i64 t.hd.tag) := hTr.c 8
      have c9 : w.cell? ⟨b, i * 18 + 7 + 2, none⟩ = some (.int .i64 t.hd.tot) := hTr.c 9
      have c10 : w.cell? ⟨b, i * 18 + 7 + 3, none⟩ = some (.int .i64 t.hd.frm) := hTr.c 10
      have c11 : w.cell? ⟨b, i * 18 + 7 + 4, none⟩ = some (.int .i64 t.hd.len) := hTr.c 11
      have hfz := hTr.fz
      have HU := hide (h.upd HTt.out HTT.out ((TrTo.refl hTr).set 5 (by omega) (.bool true) (t' := pshowT t) (by simp [trV, pshowT]) ok.hl) (pshowT_ok ok ho))
      clear ht hT
      go_enter Tryz.func30, Tryz.ntmps30
      go_wp2_with fail
      refine HM.mono ?_
      rintro e w1 ⟨rfl, rfl⟩
      go_wp2_with fail
      refine HO.mono ?_
      rintro e w1 ⟨rfl, rfl⟩
      go_wp2_with fail
      refine bodyPost_ret (v := .tuple #[headAgg t.hd.st t.hd.tag t.hd.tot t.hd.frm t.hd.len, .int .i64 0]) (by simp [results, Tryz.results30, go_sem, headAgg]) rfl ⟨by rw [HA.out]; rfl, ?_⟩
      rw [HS.out]
      refine ⟨g.v, HU.out.1.ext ?_, HU.out.2.trans (PMvs.of_ext ?_)⟩
      all_goals
        (with_reducible repeat (first | refine Below.drew ?_ | refine Below.alloc ?_ ?_ _ | exact Below.refl _ _)) <;> simp
    · have HA : Hid (headA g.s i = (⟨0, 0, 0, 0, 0⟩, 8)) := by show _ = _; unfold headA; simp [HTt.out, hI, ho]
      have HS : Hid (headS g.s i = g.s) := by show _ = _; unfold headS; simp [HTt.out, hI, ho]
      clear ht hT
      go_enter Tryz.func30, Tryz.ntmps30
      go_wp2_with fail
      refine HM.mono ?_
      rintro e w1 ⟨rfl, rfl⟩
      go_wp2_with fail
      refine HO.mono ?_
      rintro e w1 ⟨rfl, rfl⟩
      go_wp2_with fail
      refine bodyPost_ret (v := .tuple #[headAgg 0 0 0 0 0, .int .i64 8]) (by simp [results, Tryz.results30, go_sem, headAgg]) rfl ⟨by rw [HA.out]; rfl, ?_⟩
      rw [HS.out]
      refine PTo.ext h ?_
      (with_reducible repeat (first | refine Below.drew ?_ | refine Below.alloc ?_ ?_ _ | refine Below.setCell ?_ ?_ _ | exact Below.refl _ _)) <;> simp

set_option maxHeartbeats 1000000 in
theorem TakeP_any (q : Nat) (id n : Int) (g : Pg) (w : World) (h : PgAt w q g) :
    Calls Tryz.prog 32 #[.pointer (some ⟨q, 0, none⟩), .int .i64 id, .int .i64 n] w fun e w' =>
      e = .returned (.tuple #[.string (takeA g.s id n).1, .int .i64 (takeA g.s id n).2]) ∧ PTo w w' q g (ptakeS g.s id n) := by
  have HM := hasT_any q id g w h
  cases hI : hasT g.s id
  · have HA : Hid (takeA g.s id n = (ByteArray.empty, 7)) := by show _ = _; unfold takeA; split <;> simp [hI]
    have HS : Hid (ptakeS g.s id n = g.s) := by show _ = _; unfold ptakeS; split <;> simp [hI]
    rw [hI] at HM
    go_enter Tryz.func32, Tryz.ntmps32
    go_wp2_with fail
    refine HM.mono ?_
    rintro e w1 ⟨rfl, rfl⟩
    go_wp2_with fail
    go_ret2
    exact ⟨by rw [HA.out]; rfl, by rw [HS.out]; exact PTo.refl h⟩
  · obtain ⟨i, rfl, hi⟩ := hasT_yes hI
    obtain ⟨t, ht⟩ : ∃ t, g.s.trs[i]? = some t := ⟨_, List.getElem?_eq_getElem hi⟩
    have ok := h.ok.ts t (List.mem_of_getElem? ht)
    have hf := h.ok.fair
    obtain ⟨b, cap, hT, hTr, hbq⟩ := h.row ht
    have c13 := h.cTr' hT
    have hn8 := h.ok.nt
    have hii : (i : Int) < g.s.trs.length := by omega
    rw [hI] at HM
    have HTt := hide ht
    have HTT := hide hT
    by_cases hn : n < 0
    · have HA : Hid (takeA g.s i n = (ByteArray.empty, 9)) := by show _ = _; unfold takeA; simp [HTt.out, hI, hn]
      have HS : Hid (ptakeS g.s i n = g.s) := by show _ = _; unfold ptakeS; simp [HTt.out, hI, hn]
      clear ht hT
      go_enter Tryz.func32, Tryz.ntmps32
      go_wp2_with fail
      refine HM.mono ?_
      rintro e w1 ⟨rfl, rfl⟩
      go_wp2_with fail
      go_ret2
      exact ⟨by rw [HA.out]; rfl, by rw [HS.out]; exact PTo.refl h⟩
    · have HO := isOpen_any b (i * 18) t _ hTr
      cases ho : openT t <;> rw [ho] at HO
      · have HA : Hid (takeA g.s i n = ((takeT g.s.blk g.s.win n (pshowT t)).1, 0)) := by show _ = _; unfold takeA; simp [HTt.out, hI, ho, hn]
        have HS : Hid (ptakeS g.s i n = plookS (setT g.s i (takeT g.s.blk g.s.win n (pshowT t)).2)) := by show _ = _; unfold ptakeS; simp [HTt.out, hI, ho, hn]
        have c5 : w.cell? ⟨b, i * 18 + 5, none⟩ = some (.bool t.shown) := hTr.c 5
        have hfz := hTr.fz
        have hT1 := (TrTo.refl hTr).set 5 (by omega) (.bool true) (t' := pshowT t) (by simp [trV, pshowT]) ok.hl
        have ok1 := pshowT_ok ok ho
        have HT1 := hide hT1
        obtain ⟨m0, m1, m2, m3, m4⟩ := h.setC'
        have HC := hide (take_any b (i * 18) (pshowT t) n g.s)
        have HU := hide (fun (w' : World) (hh : TrTo w w' b (i * 18) (takeT g.s.blk g.s.win n (pshowT t)).2) => h.upd HTt.out HTT.out hh (takeT_ok ok1 hf rfl n (by omega)))
        have hqb : q ≠ b := fun e => hbq e.symm
        clear ht hT hT1
        go_enter Tryz.func32, Tryz.ntmps32
        go_wp2_with fail
        refine HM.mono ?_
        rintro e w1 ⟨rfl, rfl⟩
        go_wp2_with fail
        refine HO.mono ?_
        rintro e w1 ⟨rfl, rfl⟩
        go_wp2_with fail
        refine (HC.out _ HT1.out.at ok1 hf (by omega) (fun k h0 h1 => taken_ok ok1 rfl k h0 h1)).mono ?_
        rintro e w1 ⟨rfl, hT2⟩
        have hU := HU.out _ (HT1.out.trans hT2)
        go_wp2_with fail
        refine (plook_any q _ _ hU.1).mono ?_
        rintro e w2 ⟨rfl, hP2⟩
        go_wp2_with fail
        go_ret2
        exact ⟨by rw [HA.out]; rfl, by rw [HS.out]; exact PTo.trans (v1 := g.v) hU.2 hP2⟩
      · have HA : Hid (takeA g.s i n = (ByteArray.empty, 8)) := by show _ = _; unfold takeA; simp [HTt.out, hI, ho, hn]
        have HS : Hid (ptakeS g.s i n = g.s) := by show _ = _; unfold ptakeS; simp [HTt.out, hI, ho, hn]
        clear ht hT
        go_enter Tryz.func32, Tryz.ntmps32
        go_wp2_with fail
        refine HM.mono ?_
        rintro e w1 ⟨rfl, rfl⟩
        go_wp2_with fail
        refine HO.mono ?_
        rintro e w1 ⟨rfl, rfl⟩
        go_wp2_with fail
        go_ret2
        exact ⟨by rw [HA.out]; rfl, by rw [HS.out]; exact PTo.refl h⟩
end Go.Proofs.YtjhihliciadipabGreat
