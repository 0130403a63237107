import Derived.Test.YtjhihliciadipabGreatPbind
import Derived.Test.YtjhihliciadipabGreatPver
import Derived.Test.YtjhihliciadipabGreatPcac
import Derived.Deep.RegionHeld3
import Derived.Laws.IdiomStrings
set_option linter.unusedVariables false
set_option linter.unusedSimpArgs false
set_option linter.unnecessarySimpa false
namespace Go.Proofs.YtjhihliciadipabGreat
open Go.RowKit

def upTo (f : Tr → Tr) (l : List Tr) (k : Nat) : List Tr := (l.take k).map f ++ l.drop k
theorem upTo_zero (f : Tr → Tr) (l : List Tr) : upTo f l 0 = l := by simp [upTo]
theorem upTo_len (f : Tr → Tr) (l : List Tr) (k : Nat) : (upTo f l k).length = l.length := by simp [upTo]; omega
theorem upTo_all (f : Tr → Tr) (l : List Tr) (k : Nat) (h : l.length ≤ k) : upTo f l k = l.map f := by simp [upTo, List.take_of_length_le h, List.drop_of_length_le h]
theorem upTo_get (f : Tr → Tr) (l : List Tr) (k : Nat) (h : k < l.length) : (upTo f l k)[k]? = l[k]? := by
  unfold upTo
  rw [List.getElem?_append_right (by simp; omega)]
  simp [Nat.min_eq_left (Nat.le_of_lt h)]
theorem upTo_set (f : Tr → Tr) (l : List Tr) (k : Nat) (t : Tr) (h : l[k]? = some t) : (upTo f l k).set k (f t) = upTo f l (k + 1) := by
  have hk := (List.getElem?_eq_some_iff.1 h).1
  have ht := (List.getElem?_eq_some_iff.1 h).2
  unfold upTo
  rw [List.set_append_right _ _ (by simp; omega), List.take_succ_eq_append_getElem hk, List.map_append, List.drop_eq_getElem_cons hk, ht]
  simp [Nat.min_eq_left (Nat.le_of_lt hk)]
theorem upTo_skip (f : Tr → Tr) (l : List Tr) (k : Nat) (t : Tr) (h : l[k]? = some t) (hf : f t = t) : upTo f l k = upTo f l (k + 1) := by
  rw [← upTo_set f l k t h, hf]
  apply List.ext_getElem?
  intro j
  rw [List.getElem?_set]
  by_cases hj : k = j
  · subst hj
    have hk := (List.getElem?_eq_some_iff.1 h).1
    rw [if_pos rfl, if_pos (by rw [upTo_len]; exact hk), upTo_get f l k hk, h]
  · rw [if_neg hj]

def withT (g : Pg) (l : List Tr) : Pg := { g with s := { g.s with trs := l } }
theorem withT_s (g : Pg) (l : List Tr) : (withT g l).s = { g.s with trs := l } := rfl
theorem withT_self (g : Pg) : withT g g.s.trs = g := rfl

theorem wants_not_lost {B W : Int} {t : Tr} {e : Er} (hk : 0 ≤ e.blk) (h : wantsT B W t e = true) : t.lost = false := by
  cases hl : t.lost
  · rfl
  · rw [wantsT_eq, (win_lost hl).1] at h
    simp at h; omega
theorem loseT_ok {t : Tr} (ok : TrOk t) (f : Int) (h0 : 0 ≤ f) (h4 : f ≤ 4) : TrOk (loseT { t with fails := f }) := by
  refine ⟨ok.p0, ok.p1, ok.f0, ok.f1, ok.l0, ok.l1, rfl, ?_, ?_, ?_, ?_, ok.k0, ?_, h0, h4, fun h => by simp [loseT] at h, ok.sh, fun _ h => by simp [loseT] at h, ?_, ?_⟩
  · intro b hb; simp [loseT, noBytes] at hb; subst hb; simp
  · unfold loseT; dsimp only; split; exact ok.r0; simp
  · unfold loseT; dsimp only; split; exact ok.n0; simp
  · unfold loseT; dsimp only; split; exact ok.n1; simp
  · unfold loseT; dsimp only; split
    · exact ok.k1
    · rename_i hs
      have := ok.sh (by simpa using hs)
      simp [this]
  · unfold loseT; dsimp only; split; exact ok.o0; simp
  · unfold loseT; dsimp only; split; exact ok.o1; simp
theorem pfailT_ok {t : Tr} {tri : Int} (ok : TrOk t) (hl : t.lost = false) (h4 : tri ≤ 4) : TrOk (pfailT tri t) := by
  have h0 := ok.a0
  have h1 := ok.a2 hl
  unfold pfailT
  split
  · exact loseT_ok ok _ (by omega) (by omega)
  · rename_i hle
    exact ⟨ok.p0, ok.p1, ok.f0, ok.f1, ok.l0, ok.l1, ok.hl, ok.hb, ok.r0, ok.n0, ok.n1, ok.k0, ok.k1, by show 0 ≤ t.fails + 1; omega, by show t.fails + 1 ≤ 4; omega, fun _ => by show t.fails + 1 < 4; omega, ok.sh, ok.op, ok.o0, ok.o1⟩

theorem Blk.pm {w1 w2 : World} {q n : Nat} {g g1 : Pg} {T : TypeId} {arr : Array Value} (hB : Blk w1 n T arr) (hP : PgAt w1 q g) (hM : PMvs w1 w2 q g g1) (hn : ¬ PFoot q g n) : Blk w2 n T arr :=
  hB.chg hM.chg hn
theorem PgAt.cTr {w : World} {q : Nat} {g : Pg} (h : PgAt w q g) {k cap : Nat} (hT : g.v.t = .slice (some ⟨k, 0, none⟩) g.s.trs.length cap) : w.cell? ⟨q, 13, none⟩ = some (.slice (some ⟨k, 0, none⟩) g.s.trs.length cap) := by rw [← hT]; exact h.cV

set_option maxRecDepth 100000 in
set_option maxHeartbeats 4000000 in
theorem failed_any (q : Nat) (e : Er) (g : Pg) (w : World) (h : PgAt w q g) (hk : 0 ≤ e.blk) :
    Calls Tryz.prog 59 #[.pointer (some ⟨q, 0, none⟩), erAgg e] w fun r w' => r = .returned (.tuple #[]) ∧ PTo w w' q g (failedS g.s e) := by
  have hE0 := Ext.new w (.cells #[.int .i64 e.path, .int .i64 e.tag, .int .i64 e.tot, .int .i64 e.blk] 94)
  have hB0 := Blk.new w 94 #[.int .i64 e.path, .int .i64 e.tag, .int .i64 e.tot, .int .i64 e.blk]
  have hn8 := h.ok.nt
  have hf := h.ok.fair
  have hql := h.blk.lt
  have hvl : ∀ b, g.v.t.ownBlock = some b → b < w.heap.size := fun b hb => h.lt b (Or.inr (Or.inl hb))
  obtain ⟨aT, capT, hT, hT0⟩ := own_form h.ts
  obtain ⟨f, hfd⟩ : ∃ f : Tr → Tr, f = fun t => if wantsT g.s.blk g.s.win t e then pfailT g.s.tri t else t := ⟨_, rfl⟩
  have HFS : Hid (failedS g.s e = { g.s with trs := g.s.trs.map f }) := by show _ = _; rw [hfd]; rfl
  have HF := hide hfd
  clear hfd
  rw [erAgg_eq]
  go_enter Tryz.func59, Tryz.ntmps59
  go_wp2_with fail
  generalize w.alloc (.cells #[.int .i64 e.path, .int .i64 e.tag, .int .i64 e.tot, .int .i64 e.blk] 94) = w0 at *
  go_loopg [4] g.s.trs.length (fun m v wr => ∃ n : Nat, m = g.s.trs.length - n ∧ n ≤ g.s.trs.length ∧ v = .int .i64 n ∧ PgAt wr q (withT g (upTo f g.s.trs n)) ∧ PMvs w wr q g (withT g (upTo f g.s.trs n)) ∧ Blk wr w.heap.size 94 #[.int .i64 e.path, .int .i64 e.tag, .int .i64 e.tot, .int .i64 e.blk])
  case atStart => exact ⟨0, rfl, by omega, rfl, by rw [upTo_zero]; exact h.ext hE0, by rw [upTo_zero]; exact PMvs.of_ext hE0, hB0⟩
  case round =>
    obtain ⟨n, rfl, hn, rfl, hP, hM, hB⟩ := hrel
    by_cases hlt : n < g.s.trs.length
    · obtain ⟨b, rfl⟩ := hT0 (by omega)
      obtain ⟨t, ht⟩ : ∃ t, g.s.trs[n]? = some t := ⟨_, List.getElem?_eq_getElem hlt⟩
      have HTn := hide ht
      have ht' : (withT g (upTo f g.s.trs n)).s.trs[n]? = some t := by show (upTo f g.s.trs n)[n]? = _; rw [upTo_get f _ n hlt]; exact ht
      have hT2 : (withT g (upTo f g.s.trs n)).v.t = .slice (some ⟨b, 0, none⟩) (withT g (upTo f g.s.trs n)).s.trs.length capT := by
        show g.v.t = .slice _ (upTo f g.s.trs n).length _; rw [upTo_len]; exact hT
      obtain ⟨b', cap', hT', hTr, hbq⟩ := hP.row ht'
      have hbb : b' = b := by have := hT2.symm.trans hT'; simp at this; exact this.1.symm
      subst hbb
      have ok := h.ok.ts t (List.mem_of_getElem? ht)
      have hbl := hvl b' (by rw [hT]; rfl)
      have c13 : wr.cell? ⟨q, 13, none⟩ = some (.slice (some ⟨b', 0, none⟩) g.s.trs.length capT) := by have := hP.cTr hT2; rwa [show (withT g (upTo f g.s.trs n)).s.trs.length = g.s.trs.length from upTo_len _ _ _] at this
      obtain ⟨m0, m1, m2, m3, m4⟩ : wr.cell? ⟨q, 0, none⟩ = some (.int .i64 g.s.mir) ∧ wr.cell? ⟨q, 1, none⟩ = some (.int .i64 g.s.blk) ∧ wr.cell? ⟨q, 2, none⟩ = some (.int .i64 g.s.win) ∧ wr.cell? ⟨q, 3, none⟩ = some (.int .i64 g.s.cap) ∧ wr.cell? ⟨q, 4, none⟩ = some (.int .i64 g.s.tri) :=
        ⟨hP.cSet 0 (by omega), hP.cSet 1 (by omega), hP.cSet 2 (by omega), hP.cSet 3 (by omega), hP.cSet 4 (by omega)⟩
      have e0 : wr.cell? ⟨w.heap.size, 0, none⟩ = some (.int .i64 e.path) := hB.cell 0
      have e1 : wr.cell? ⟨w.heap.size, 1, none⟩ = some (.int .i64 e.tag) := hB.cell 1
      have e2 : wr.cell? ⟨w.heap.size, 2, none⟩ = some (.int .i64 e.tot) := hB.cell 2
      have e3 : wr.cell? ⟨w.heap.size, 3, none⟩ = some (.int .i64 e.blk) := hB.cell 3
      have HW := hide (pwants_any b' (n * 18) t e g.s)
      have HFt : Hid (f t = if wantsT g.s.blk g.s.win t e then pfailT g.s.tri t else t) := by show _ = _; rw [HF.out]
      have HNL : Hid (wantsT g.s.blk g.s.win t e = true → t.lost = false) := wants_not_lost hk
      generalize wantsT g.s.blk g.s.win t e = wv at *
      have hlt' : (n : Int) < g.s.trs.length := by omega
      have HT2 := hide hT2
      have HTp := hide ht'
      clear hT' hT0 ht' hT2
      go_wp2_with fail
      go_cut [25] (fun v wx => v = .bool wv ∧ Ext wr wx)
      case first =>
        go_region_held3 (fun w' => w'.cell? ⟨q, 13, none⟩ = some (.slice (some ⟨b', 0, none⟩) g.s.trs.length capT) ∧ w'.cell? ⟨w.heap.size, 0, none⟩ = some (.int .i64 e.path) ∧ w'.cell? ⟨w.heap.size, 1, none⟩ = some (.int .i64 e.tag) ∧ w'.cell? ⟨w.heap.size, 2, none⟩ = some (.int .i64 e.tot) ∧ w'.cell? ⟨w.heap.size, 3, none⟩ = some (.int .i64 e.blk) ∧ w'.cell? ⟨q, 0, none⟩ = some (.int .i64 g.s.mir) ∧ w'.cell? ⟨q, 1, none⟩ = some (.int .i64 g.s.blk) ∧ w'.cell? ⟨q, 2, none⟩ = some (.int .i64 g.s.win) ∧ w'.cell? ⟨q, 3, none⟩ = some (.int .i64 g.s.cap) ∧ w'.cell? ⟨q, 4, none⟩ = some (.int .i64 g.s.tri)) (go_keep)
          ((go_at_call 92
            refine (HW.out _ (hTr.ext (Below.drew (Below.refl _ _))) ok hf).mono ?_
            rintro r w4 ⟨rfl, hE4⟩
            have e0' := ext_cell hE4.undrew e0
            have e1' := ext_cell hE4.undrew e1
            have e2' := ext_cell hE4.undrew e2
            have e3' := ext_cell hE4.undrew e3
            have m0' := ext_cell hE4.undrew m0
            have m1' := ext_cell hE4.undrew m1
            have m2' := ext_cell hE4.undrew m2
            have m3' := ext_cell hE4.undrew m3
            have m4' := ext_cell hE4.undrew m4
            have c13' := ext_cell hE4.undrew c13))
        all_goals go_wp2_with fail
        all_goals go_meet
        all_goals exact ⟨rfl, hE4.undrew⟩
      case rest =>
        obtain ⟨rfl, hE4⟩ := hcut
        have hP4 := hP.ext hE4
        have hM4 := hM.ext hE4
        have hB4 := hB.ext hE4
        have hTr4 := hTr.ext hE4
        replace c13 := ext_cell hE4 c13
        replace m4 := ext_cell hE4 m4
        clear m0 m1 m2 m3 e0 e1 e2 e3 hP hM hB hTr HW
        cases wv
        · have HU : Hid (upTo f g.s.trs n = upTo f g.s.trs (n + 1)) := upTo_skip f _ n t HTn.out (by rw [HFt.out]; rfl)
          go_wp2_with fail
          go_roundg (g.s.trs.length - (n + 1))
          case measure => omega
          case rel => exact ⟨n + 1, rfl, by omega, by go_num, by rw [← HU.out]; exact hP4, by rw [← HU.out]; exact hM4, hB4⟩
        · have HU : Hid ((upTo f g.s.trs n).set n (pfailT g.s.tri t) = upTo f g.s.trs (n + 1)) := by
            have := upTo_set f _ n t HTn.out
            rw [HFt.out] at this; exact this
          have HC := hide (fail_any b' (n * 18) t g.s.tri)
          have HOk : Hid (TrOk (pfailT g.s.tri t)) := pfailT_ok ok (HNL.out rfl) hf.t2
          go_wp2_with fail
          go_region_held3 (fun w' => w'.cell? ⟨q, 13, none⟩ = some (.slice (some ⟨b', 0, none⟩) g.s.trs.length capT) ∧ w'.cell? ⟨q, 4, none⟩ = some (.int .i64 g.s.tri)) (go_keep)
            ((go_at_call 93
              refine (HC.out _ (hTr4.ext (Below.drew (Below.refl _ _))) ok).mono ?_
              rintro r w5 ⟨rfl, hT5⟩
              have m4' := chg_cell hT5.chg (show wc.drew.cell? ⟨q, 4, none⟩ = _ from m4) (fun e => hbq e.symm)
              have c13' := chg_cell hT5.chg (show wc.drew.cell? ⟨q, 13, none⟩ = _ from c13) (fun e => hbq e.symm)))
          all_goals go_wp2_with fail
          all_goals go_roundg (g.s.trs.length - (n + 1))
          all_goals first
            | omega
            | (have hnew := hP4.upd HTp.out HT2.out ((TrTo.ext0 hTr4 (Below.drew (Below.refl _ _))).trans hT5) HOk.out
               refine ⟨n + 1, rfl, by omega, by go_num, ?_, ?_, ?_⟩
               · rw [← HU.out]; exact hnew.1
               · rw [← HU.out]; exact hM4.trans hnew.2
               · exact hB4.pm hP4 hnew.2 (fun hx => Nat.lt_irrefl _ (h.lt _ hx)))
    · have hnn : n = g.s.trs.length := by omega
      have HU : Hid (upTo f g.s.trs n = g.s.trs.map f) := upTo_all f _ n (by omega)
      have c13 : wr.cell? ⟨q, 13, none⟩ = some (.slice aT g.s.trs.length capT) := by rw [← hT]; exact hP.cV
      clear hnn hT hT0
      go_wp2_with fail
      go_end0
      exact ⟨rfl, by rw [HFS.out, ← HU.out]; exact ⟨g.v, hP, hM⟩⟩
end Go.Proofs.YtjhihliciadipabGreat

namespace Go.Proofs.YtjhihliciadipabGreat
open Go.RowKit

def gotT (e : Er) (body : ByteArray) (t : Tr) : Tr := { holdT t e.blk body with fails := 0 }
theorem gotT_ok {t : Tr} {e : Er} {body : ByteArray} (ok : TrOk t) (hb : body.size ≤ 16) : TrOk (gotT e body t) := by
  refine ⟨ok.p0, ok.p1, ok.f0, ok.f1, ok.l0, ok.l1, by simp [gotT, holdT, ok.hl], ?_, ok.r0, ok.n0, ok.n1, ok.k0, ok.k1, by simp [gotT], by simp [gotT], fun _ => by simp [gotT], ok.sh, ok.op, ok.o0, ok.o1⟩
  intro x hx
  rcases List.mem_or_eq_of_mem_set hx with h1 | rfl
  · exact ok.hb x h1
  · exact hb

def rowObj (body : ByteArray) (c : Nat) : Obj := .cells (bytesRow body c) 5 ((bytesRow body c).size, (bytesRow body c).size + 1)
theorem World.cell_mark (w : World) (C : Array Value) (T : TypeId) (a b j : Nat) : (w.alloc (.cells C T (a, b))).cell? ⟨w.heap.size, j, none⟩ = C[j]? := by
  have : (w.alloc (.cells C T (a, b))).heap[w.heap.size]? = some (.cells C T (a, b)) := heap_alloc_new w _
  unfold World.cell?
  rw [this]
  rfl
theorem str_bytes (w : World) (body : ByteArray) : ∃ c, (convert 9 174 (.string body)).run Tryz.prog w = .ok (.slice (some ⟨w.heap.size, 0, none⟩) body.size c) ((w.alloc (rowObj body c)).drew) :=
  ⟨_, run_bytes_of_string (P := Tryz.prog) w 9 174 5 body Tryz.underlying9 Tryz.underlying174 Tryz.underlying5⟩
theorem copy_str (w : World) (body : ByteArray) (c : Nat) :
    (convert 174 9 (.slice (some ⟨w.heap.size, 0, none⟩) body.size c)).run Tryz.prog ((w.alloc (rowObj body c)).drew) = .ok (.string body) ((w.alloc (rowObj body c)).drew) := by
  have hl : body.data.toList.length = body.size := by simp
  have := run_convert_bytes_back (P := Tryz.prog) ((w.alloc (rowObj body c)).drew) 174 9 5 ⟨w.heap.size, 0, none⟩ c body.data.toList Tryz.underlying174 Tryz.underlying5 Tryz.underlying9 (fun j hj => by
      have hadd : (⟨w.heap.size, 0, none⟩ : Addr).add j = ⟨w.heap.size, j, none⟩ := by unfold Addr.add; split <;> simp_all
      rw [hadd]
      have hm : ((w.alloc (rowObj body c)).drew).cell? ⟨w.heap.size, j, none⟩ = (bytesRow body c)[j]? := World.cell_mark w _ _ _ _ j
      rw [hm, bytesRow_at body _ j (by simpa using hj)]
      simp)
  rw [hl] at this
  rw [this]

set_option maxRecDepth 100000 in
set_option maxHeartbeats 4000000 in
theorem deliver_some (q : Nat) (e : Er) (body : ByteArray) (g : Pg) (w : World) (h : PgAt w q g) (hk : 0 ≤ e.blk) (hk1 : e.blk ≤ 1000) (hb16 : body.size ≤ 16) (hne : body.toList.isEmpty = false) :
    Calls Tryz.prog 88 #[.pointer (some ⟨q, 0, none⟩), erAgg e, .string body] w fun r w' => r = .returned (.tuple #[]) ∧ PTo w w' q g (delivS g.s e body) := by
  have hE0 := Ext.new w (.cells #[.int .i64 e.path, .int .i64 e.tag, .int .i64 e.tot, .int .i64 e.blk] 94)
  have hB0 := Blk.new w 94 #[.int .i64 e.path, .int .i64 e.tag, .int .i64 e.tot, .int .i64 e.blk]
  have hn8 := h.ok.nt
  have hf := h.ok.fair
  have hql := h.blk.lt
  have hvl : ∀ b, g.v.t.ownBlock = some b → b < w.heap.size := fun b hb => h.lt b (Or.inr (Or.inl hb))
  obtain ⟨aT, capT, hT, hT0⟩ := own_form h.ts
  obtain ⟨f, hfd⟩ : ∃ f : Tr → Tr, f = fun t => if wantsT g.s.blk g.s.win t e then gotT e body t else t := ⟨_, rfl⟩
  have HFS : Hid (delivS g.s e body = { g.s with trs := g.s.trs.map f, cac := putC g.s.cap g.s.cac e body }) := by show _ = _; rw [hfd]; unfold delivS; rw [hne]; rfl
  have hb1 : 1 ≤ body.size := by
    rcases Nat.eq_zero_or_pos body.size with h0 | h0
    · have : body.toList = [] := by rw [ByteArray.toList_eq]; apply List.eq_nil_of_length_eq_zero; simpa using h0
      rw [this] at hne; simp at hne
    · exact h0
  have HF := hide hfd
  clear hfd
  rw [erAgg_eq]
  obtain ⟨c, kc1⟩ := str_bytes (w.alloc (.cells #[.int .i64 e.path, .int .i64 e.tag, .int .i64 e.tot, .int .i64 e.blk] 94)) body
  have kc2 := copy_str (w.alloc (.cells #[.int .i64 e.path, .int .i64 e.tag, .int .i64 e.tot, .int .i64 e.blk] 94)) body c
  have hsz : (w.alloc (.cells #[.int .i64 e.path, .int .i64 e.tag, .int .i64 e.tot, .int .i64 e.blk] 94)).heap.size = w.heap.size + 1 := by simp
  rw [hsz] at kc1 kc2
  have hEc : Ext w (((w.alloc (.cells #[.int .i64 e.path, .int .i64 e.tag, .int .i64 e.tot, .int .i64 e.blk] 94)).alloc (rowObj body c)).drew) := Below.drew (Ext.trans' hE0 (Ext.new _ _))
  have hBc : Blk (((w.alloc (.cells #[.int .i64 e.path, .int .i64 e.tag, .int .i64 e.tot, .int .i64 e.blk] 94)).alloc (rowObj body c)).drew) w.heap.size 94 #[.int .i64 e.path, .int .i64 e.tag, .int .i64 e.tot, .int .i64 e.blk] := hB0.ext (Below.drew (Ext.new _ _))
  clear hE0 hB0 hsz
  go_enter Tryz.func88, Tryz.ntmps88
  go_wp2_with fail
  generalize ((w.alloc (.cells #[.int .i64 e.path, .int .i64 e.tag, .int .i64 e.tot, .int .i64 e.blk] 94)).alloc (rowObj body c)).drew = w0 at *
  clear kc1 kc2
  have hE0 := hEc
  have hB0 := hBc
  clear hEc hBc
  go_loopg [7] g.s.trs.length (fun m v wr => ∃ n : Nat, m = g.s.trs.length - n ∧ n ≤ g.s.trs.length ∧ v = .int .i64 n ∧ PgAt wr q (withT g (upTo f g.s.trs n)) ∧ PMvs w wr q g (withT g (upTo f g.s.trs n)) ∧ Blk wr w.heap.size 94 #[.int .i64 e.path, .int .i64 e.tag, .int .i64 e.tot, .int .i64 e.blk])
  case atStart => exact ⟨0, rfl, by omega, rfl, by rw [upTo_zero]; exact h.ext hE0, by rw [upTo_zero]; exact PMvs.of_ext hE0, hB0⟩
  case round =>
    obtain ⟨n, rfl, hn, rfl, hP, hM, hB⟩ := hrel
    by_cases hlt : n < g.s.trs.length
    · obtain ⟨b, rfl⟩ := hT0 (by omega)
      obtain ⟨t, ht⟩ : ∃ t, g.s.trs[n]? = some t := ⟨_, List.getElem?_eq_getElem hlt⟩
      have HTn := hide ht
      have ht' : (withT g (upTo f g.s.trs n)).s.trs[n]? = some t := by show (upTo f g.s.trs n)[n]? = _; rw [upTo_get f _ n hlt]; exact ht
      have hT2 : (withT g (upTo f g.s.trs n)).v.t = .slice (some ⟨b, 0, none⟩) (withT g (upTo f g.s.trs n)).s.trs.length capT := by
        show g.v.t = .slice _ (upTo f g.s.trs n).length _; rw [upTo_len]; exact hT
      obtain ⟨b', cap', hT', hTr, hbq⟩ := hP.row ht'
      have hbb : b' = b := by have := hT2.symm.trans hT'; simp at this; exact this.1.symm
      subst hbb
      have ok := h.ok.ts t (List.mem_of_getElem? ht)
      have hbl := hvl b' (by rw [hT]; rfl)
      have c13 : wr.cell? ⟨q, 13, none⟩ = some (.slice (some ⟨b', 0, none⟩) g.s.trs.length capT) := by have := hP.cTr hT2; rwa [show (withT g (upTo f g.s.trs n)).s.trs.length = g.s.trs.length from upTo_len _ _ _] at this
      obtain ⟨m0, m1, m2, m3, m4⟩ : wr.cell? ⟨q, 0, none⟩ = some (.int .i64 g.s.mir) ∧ wr.cell? ⟨q, 1, none⟩ = some (.int .i64 g.s.blk) ∧ wr.cell? ⟨q, 2, none⟩ = some (.int .i64 g.s.win) ∧ wr.cell? ⟨q, 3, none⟩ = some (.int .i64 g.s.cap) ∧ wr.cell? ⟨q, 4, none⟩ = some (.int .i64 g.s.tri) :=
        ⟨hP.cSet 0 (by omega), hP.cSet 1 (by omega), hP.cSet 2 (by omega), hP.cSet 3 (by omega), hP.cSet 4 (by omega)⟩
      have e0 : wr.cell? ⟨w.heap.size, 0, none⟩ = some (.int .i64 e.path) := hB.cell 0
      have e1 : wr.cell? ⟨w.heap.size, 1, none⟩ = some (.int .i64 e.tag) := hB.cell 1
      have e2 : wr.cell? ⟨w.heap.size, 2, none⟩ = some (.int .i64 e.tot) := hB.cell 2
      have e3 : wr.cell? ⟨w.heap.size, 3, none⟩ = some (.int .i64 e.blk) := hB.cell 3
      have HW := hide (pwants_any b' (n * 18) t e g.s)
      have HFt : Hid (f t = if wantsT g.s.blk g.s.win t e then gotT e body t else t) := by show _ = _; rw [HF.out]
      have HNL : Hid (wantsT g.s.blk g.s.win t e = true → t.lost = false) := wants_not_lost hk
      generalize wantsT g.s.blk g.s.win t e = wv at *
      have hlt' : (n : Int) < g.s.trs.length := by omega
      have HT2 := hide hT2
      have HTp := hide ht'
      clear hT' hT0 ht' hT2
      go_wp2_with fail
      go_cut [33] (fun v wx => v = .bool wv ∧ Ext wr wx)
      case first =>
        go_region_held3 (fun w' => w'.cell? ⟨q, 13, none⟩ = some (.slice (some ⟨b', 0, none⟩) g.s.trs.length capT) ∧ w'.cell? ⟨w.heap.size, 0, none⟩ = some (.int .i64 e.path) ∧ w'.cell? ⟨w.heap.size, 1, none⟩ = some (.int .i64 e.tag) ∧ w'.cell? ⟨w.heap.size, 2, none⟩ = some (.int .i64 e.tot) ∧ w'.cell? ⟨w.heap.size, 3, none⟩ = some (.int .i64 e.blk) ∧ w'.cell? ⟨q, 0, none⟩ = some (.int .i64 g.s.mir) ∧ w'.cell? ⟨q, 1, none⟩ = some (.int .i64 g.s.blk) ∧ w'.cell? ⟨q, 2, none⟩ = some (.int .i64 g.s.win) ∧ w'.cell? ⟨q, 3, none⟩ = some (.int .i64 g.s.cap) ∧ w'.cell? ⟨q, 4, none⟩ = some (.int .i64 g.s.tri)) (go_keep)
          ((go_at_call 92
            refine (HW.out _ (hTr.ext (Below.drew (Below.refl _ _))) ok hf).mono ?_
            rintro r w4 ⟨rfl, hE4⟩
            have e0' := ext_cell hE4.undrew e0
            have e1' := ext_cell hE4.undrew e1
            have e2' := ext_cell hE4.undrew e2
            have e3' := ext_cell hE4.undrew e3
            have m0' := ext_cell hE4.undrew m0
            have m1' := ext_cell hE4.undrew m1
            have m2' := ext_cell hE4.undrew m2
            have m3' := ext_cell hE4.undrew m3
            have m4' := ext_cell hE4.undrew m4
            have c13' := ext_cell hE4.undrew c13))
        all_goals go_wp2_with fail
        all_goals go_meet
        all_goals exact ⟨rfl, hE4.undrew⟩
      case rest =>
        obtain ⟨rfl, hE4⟩ := hcut
        generalize wc = w4 at *
        have hP4 := hP.ext hE4
        have hM4 := hM.ext hE4
        have hB4 := hB.ext hE4
        have hTr4 := hTr.ext hE4
        replace c13 := ext_cell hE4 c13
        replace m4 := ext_cell hE4 m4
        clear m0 m1 m2 m3 e0 e1 e2 e3 hP hM hB hTr HW
        cases wv
        · have HU : Hid (upTo f g.s.trs n = upTo f g.s.trs (n + 1)) := upTo_skip f _ n t HTn.out (by rw [HFt.out]; rfl)
          go_wp2_with fail
          go_roundg (g.s.trs.length - (n + 1))
          case measure => omega
          case rel => exact ⟨n + 1, rfl, by omega, by go_num, by rw [← HU.out]; exact hP4, by rw [← HU.out]; exact hM4, hB4⟩
        · have HU : Hid ((upTo f g.s.trs n).set n (gotT e body t) = upTo f g.s.trs (n + 1)) := by
            have := upTo_set f _ n t HTn.out
            rw [HFt.out] at this; exact this
          have HC := hide (hold_any b' (n * 18) t e.blk body)
          have HOk : Hid (TrOk (gotT e body t)) := gotT_ok ok hb16
          have e3 : w4.cell? ⟨w.heap.size, 3, none⟩ = some (.int .i64 e.blk) := hB4.cell 3
          go_wp2_with fail
          go_cut [7] (fun v wx => v = .int .i64 n ∧ TrTo w4 wx b' (n * 18) (holdT t e.blk body))
          case first =>
            go_region_held3 (fun w' => w'.cell? ⟨q, 13, none⟩ = some (.slice (some ⟨b', 0, none⟩) g.s.trs.length capT) ∧ w'.cell? ⟨w.heap.size, 3, none⟩ = some (.int .i64 e.blk)) (go_keep)
              ((go_at_call 78
                refine (HC.out _ (hTr4.ext (Below.drew (Below.refl _ _))) hk hk1).mono ?_
                rintro r w5 ⟨rfl, hT5⟩
                have e3' := chg_cell hT5.chg (show w4.drew.cell? ⟨w.heap.size, 3, none⟩ = _ from e3) (fun e => by simp at e; omega)
                have c13' := chg_cell hT5.chg (show w4.drew.cell? ⟨q, 13, none⟩ = _ from c13) (fun e => hbq e.symm)))
            all_goals go_wp2_with fail
            all_goals go_meet
            all_goals exact ⟨rfl, (TrTo.ext0 hTr4 (Below.drew (Below.refl _ _))).trans hT5⟩
          case rest =>
            obtain ⟨rfl, hT5⟩ := hcut
            have c13' : wc.cell? ⟨q, 13, none⟩ = some (.slice (some ⟨b', 0, none⟩) g.s.trs.length capT) := chg_cell hT5.chg c13 (fun e => hbq e.symm)
            have c5 : wc.cell? ⟨b', n * 18 + 13, none⟩ = some (.int .i64 t.fails) := hT5.at.c 13
            have hf5 := hT5.at.fz
            have HT6 : Hid (TrTo w4 (wc.setCell ⟨b', n * 18 + 13, none⟩ (.int .i64 0)) b' (n * 18) (gotT e body t)) :=
              hT5.set 13 (by omega) _ (by simp [trV, gotT]) HOk.out.hl
            clear c13 e3
            go_wp2_with fail
            go_roundg (g.s.trs.length - (n + 1))
            case measure => omega
            case rel =>
              have hnew := hP4.upd HTp.out HT2.out HT6.out HOk.out
              refine ⟨n + 1, rfl, by omega, by go_num, ?_, ?_, ?_⟩
              · rw [← HU.out]; exact hnew.1
              · rw [← HU.out]; exact hM4.trans hnew.2
              · exact hB4.pm hP4 hnew.2 (fun hx => Nat.lt_irrefl _ (h.lt _ hx))
    · have hnn : n = g.s.trs.length := by omega
      have HU : Hid (upTo f g.s.trs n = g.s.trs.map f) := upTo_all f _ n (by omega)
      have c13 : wr.cell? ⟨q, 13, none⟩ = some (.slice aT g.s.trs.length capT) := by rw [← hT]; exact hP.cV
      clear hnn hT hT0
      have e0 : wr.cell? ⟨w.heap.size, 0, none⟩ = some (.int .i64 e.path) := hB.cell 0
      have e1 : wr.cell? ⟨w.heap.size, 1, none⟩ = some (.int .i64 e.tag) := hB.cell 1
      have e2 : wr.cell? ⟨w.heap.size, 2, none⟩ = some (.int .i64 e.tot) := hB.cell 2
      have e3 : wr.cell? ⟨w.heap.size, 3, none⟩ = some (.int .i64 e.blk) := hB.cell 3
      have HEn := hide (entry_any e)
      have HPt := hide (put_any q e body (withT g (upTo f g.s.trs n)))
      have hnf : ¬ PFoot q (withT g (upTo f g.s.trs n)) w.heap.size := fun hx => Nat.lt_irrefl _ (h.lt _ hx)
      rw [erAgg_eq] at HEn
      rw [entAgg_eq] at HEn HPt
      go_wp2_with fail
      go_region_held3 (fun w' => w'.cell? ⟨w.heap.size, 0, none⟩ = some (.int .i64 e.path) ∧ w'.cell? ⟨w.heap.size, 1, none⟩ = some (.int .i64 e.tag) ∧ w'.cell? ⟨w.heap.size, 2, none⟩ = some (.int .i64 e.tot) ∧ w'.cell? ⟨w.heap.size, 3, none⟩ = some (.int .i64 e.blk)) (go_keep)
        ((first
          | (go_at_call 77
             refine (HEn.out _).mono ?_
             rintro r w4 ⟨rfl, hE4⟩
             have e0' := ext_cell hE4.undrew e0
             have e1' := ext_cell hE4.undrew e1
             have e2' := ext_cell hE4.undrew e2
             have e3' := ext_cell hE4.undrew e3)
          | (go_at_call 107
             refine (HPt.out _ (hP.ext hE4.undrew) hb1 hb16).mono ?_
             rintro r w5 ⟨rfl, c5, hP5, hM5⟩
             have hB5 := (hB.ext hE4.undrew).chg hM5.chg hnf
             have f0 : w5.cell? ⟨w.heap.size, 0, none⟩ = some (.int .i64 e.path) := hB5.cell 0
             have f1 : w5.cell? ⟨w.heap.size, 1, none⟩ = some (.int .i64 e.tag) := hB5.cell 1
             have f2 : w5.cell? ⟨w.heap.size, 2, none⟩ = some (.int .i64 e.tot) := hB5.cell 2
             have f3 : w5.cell? ⟨w.heap.size, 3, none⟩ = some (.int .i64 e.blk) := hB5.cell 3)))
      all_goals go_wp2_with fail
      all_goals go_end0
      all_goals exact ⟨rfl, by rw [HFS.out, ← HU.out]; exact ⟨_, hP5, (hM.ext hE4.undrew).trans hM5⟩⟩

theorem deliver_any (q : Nat) (e : Er) (body : ByteArray) (g : Pg) (w : World) (h : PgAt w q g) (hk : 0 ≤ e.blk) (hk1 : e.blk ≤ 1000) (hb16 : body.size ≤ 16) :
    Calls Tryz.prog 88 #[.pointer (some ⟨q, 0, none⟩), erAgg e, .string body] w fun r w' => r = .returned (.tuple #[]) ∧ PTo w w' q g (delivS g.s e body) := by
  cases hne : body.toList.isEmpty
  · exact deliver_some q e body g w h hk hk1 hb16 hne
  · have HD : Hid (delivS g.s e body = g.s) := by show _ = _; unfold delivS; rw [hne]; rfl
    have hE0 := Ext.new w (.cells #[.int .i64 e.path, .int .i64 e.tag, .int .i64 e.tot, .int .i64 e.blk] 94)
    rw [erAgg_eq]
    go_enter Tryz.func88, Tryz.ntmps88
    go_wp2_with fail
    refine bodyPost_ret (v := .tuple #[]) (by simp [results, Tryz.results88, go_sem]) rfl ⟨rfl, by rw [HD.out]; exact PTo.ext h hE0⟩
end Go.Proofs.YtjhihliciadipabGreat

namespace Go.Proofs.YtjhihliciadipabGreat
open Go.RowKit

def latS (s : Px) (p : Nat) (v : Int × Int) : Px := { s with lat := s.lat.set p v }
def latG (g : Pg) (p : Nat) (v : Int × Int) : Pg := { g with s := latS g.s p v }
theorem latS_ok {s : Px} (h : POk s) (p : Nat) (v : Int × Int) (hv : 0 ≤ v.1 ∧ v.1 ≤ 99 ∧ 0 ≤ v.2 ∧ v.2 ≤ 1000) : POk (latS s p v) :=
  ⟨⟨h.fair.m1, h.fair.m2, h.fair.B1, h.fair.B2, h.fair.W1, h.fair.W2, h.fair.c1, h.fair.c2, h.fair.t1, h.fair.t2⟩, by simp [latS, h.nl], fun x hx => by
    rcases List.mem_or_eq_of_mem_set hx with h1 | rfl
    · exact h.lat x h1
    · exact hv, h.nt, h.ts, h.nb, h.ne, h.ers, h.cl, h.cb⟩
theorem renew_lat {w : World} {q : Nat} {g : Pg} (h : PgAt w q g) (p : Nat) (v0 : Int × Int) (hv0 : g.s.lat[p]? = some v0) (tag tot : Int) (t0 : 0 ≤ tag) (t1 : tag ≤ 99) (h0 : 0 ≤ tot) (h1 : tot ≤ 1000) :
    PgAt ((w.setCell ⟨q, 5 + p * 2, none⟩ (.int .i64 tag)).setCell ⟨q, 5 + p * 2 + 1, none⟩ (.int .i64 tot)) q (latG g p (tag, tot)) ∧ PMvs w ((w.setCell ⟨q, 5 + p * 2, none⟩ (.int .i64 tag)).setCell ⟨q, 5 + p * 2 + 1, none⟩ (.int .i64 tot)) q g (latG g p (tag, tot)) := by
  have hv := h.ok.lat v0 (List.mem_of_getElem? hv0)
  have a := h.own (5 + p * 2) (.int .i64 tag) (latG g p (tag, v0.2)) rfl rfl rfl rfl (pgV_lat g h.ok.nl p 0 v0 (tag, v0.2) _ hv0 (by omega) rfl) (latS_ok h.ok p _ ⟨t0, t1, hv.2.2.1, hv.2.2.2⟩)
  have hp : p < g.s.lat.length := (List.getElem?_eq_some_iff.1 hv0).1
  have h2 : (latG g p (tag, v0.2)).s.lat[p]? = some (tag, v0.2) := by show (g.s.lat.set p _)[p]? = _; simp [hp]
  have b := a.1.own (5 + p * 2 + 1) (.int .i64 tot) (latG g p (tag, tot)) rfl rfl rfl rfl (by
    have := pgV_lat (latG g p (tag, v0.2)) (by show (g.s.lat.set p _).length = 4; simp [h.ok.nl]) p 1 (tag, v0.2) (tag, tot) (.int .i64 tot) h2 (by omega) rfl
    rw [Nat.add_assoc, this]
    unfold latG latS
    simp) (latS_ok h.ok p _ ⟨t0, t1, h0, h1⟩)
  exact ⟨b.1, a.2.trans b.2⟩

theorem partH_bd (tag tot frm en : Int) (h0 : 0 ≤ tot) (h1 : tot ≤ 1000) (h2 : 0 ≤ frm) : 0 ≤ (partH tag tot frm en).frm ∧ 0 ≤ (partH tag tot frm en).len ∧ (partH tag tot frm en).frm + (partH tag tot frm en).len ≤ tot := by
  have ha : 0 ≤ tot ∧ atM en tot ≤ tot := by unfold atM; split <;> omega
  unfold partH
  split
  · exact ⟨by simp, by simp, by simp; omega⟩
  · exact ⟨h2, by simp only; omega, by simp only; omega⟩
theorem headR_bd (kind fst lst tag tot : Int) (h0 : 0 ≤ tot) (h1 : tot ≤ 1000) (h2 : 0 ≤ fst) (h3 : 0 ≤ lst) : 0 ≤ (headR kind fst lst tag tot).frm ∧ 0 ≤ (headR kind fst lst tag tot).len ∧ (headR kind fst lst tag tot).frm + (headR kind fst lst tag tot).len ≤ tot := by
  unfold headR
  split
  · exact partH_bd _ _ _ _ h0 h1 h2
  · split
    · exact partH_bd _ _ _ _ h0 h1 h2
    · split
      · refine partH_bd _ _ _ _ h0 h1 ?_
        unfold atM; split <;> omega
      · simp; omega
theorem headR_tot (kind fst lst tag tot : Int) : (headR kind fst lst tag tot).tot = tot ∧ (headR kind fst lst tag tot).tag = tag := by
  unfold headR partH
  split
  · split <;> exact ⟨rfl, rfl⟩
  · split
    · split <;> exact ⟨rfl, rfl⟩
    · split
      · split <;> exact ⟨rfl, rfl⟩
      · exact ⟨rfl, rfl⟩
theorem follows_new {t : Tr} {v : Int × Int} (ok : TrOk t) (h : followsT t v = true) : t.lost = false ∧ t.shown = false ∧ t.taken = 0 := by
  unfold followsT at h
  split at h
  · simp at h
  · rename_i hl
    split at h
    · rename_i hb
      have hs := ok.op (by simpa using hb) (by simpa using hl)
      exact ⟨by simpa using hl, hs, ok.sh hs⟩
    · simp at h
      exact ⟨by simpa using hl, h.1, ok.sh h.1⟩
theorem bindT_ok {t : Tr} {v : Int × Int} (ok : TrOk t) (hs : t.taken = 0) (h0 : 0 ≤ v.2) (h1 : v.2 ≤ 1000) : TrOk (bindT t v) := by
  have hb := headR_bd t.kind t.fst t.lst v.1 v.2 h0 h1 ok.f0 ok.l0
  refine ⟨ok.p0, ok.p1, ok.f0, ok.f1, ok.l0, ok.l1, rfl, ?_, hb.1, hb.2.1, by show (headR t.kind t.fst t.lst v.1 v.2).frm + (headR t.kind t.fst t.lst v.1 v.2).len ≤ 1000; omega, ok.k0, by show t.taken ≤ (headR t.kind t.fst t.lst v.1 v.2).len; omega, by simp [bindT], by simp [bindT], fun _ => by simp [bindT], ok.sh, fun h => by simp [bindT] at h, by show 0 ≤ (headR t.kind t.fst t.lst v.1 v.2).tot; rw [(headR_tot _ _ _ _ _).1]; exact h0, by show (headR t.kind t.fst t.lst v.1 v.2).tot ≤ 1000; rw [(headR_tot _ _ _ _ _).1]; exact h1⟩
  intro b hb; simp [bindT, noBytes] at hb; subst hb; simp

set_option maxRecDepth 100000 in
set_option maxHeartbeats 4000000 in
theorem renew_any (q : Nat) (p : Nat) (tag tot : Int) (g : Pg) (w : World) (h : PgAt w q g) (hp : p < 4) (ht1 : 1 ≤ tag) (ht2 : tag ≤ 99) (h0 : 0 ≤ tot) (h1 : tot ≤ 1000) :
    Calls Tryz.prog 87 #[.pointer (some ⟨q, 0, none⟩), .int .i64 p, .agg #[.int .i64 tag, .int .i64 tot]] w fun r w' => r = .returned (.tuple #[]) ∧ PTo w w' q g (renewS g.s p (tag, tot)) := by
  have hE0 := Ext.new w (.cells #[.int .i64 tag, .int .i64 tot] 89)
  have hB0 := Blk.new w 89 #[.int .i64 tag, .int .i64 tot]
  have hn8 := h.ok.nt
  have hf := h.ok.fair
  have hql := h.blk.lt
  have hvl : ∀ b, g.v.t.ownBlock = some b → b < w.heap.size := fun b hb => h.lt b (Or.inr (Or.inl hb))
  obtain ⟨aT, capT, hT, hT0⟩ := own_form h.ts
  obtain ⟨v0, hv0⟩ : ∃ v, g.s.lat[p]? = some v := ⟨_, List.getElem?_eq_getElem (by rw [h.ok.nl]; exact hp)⟩
  obtain ⟨hPl, hMl⟩ := renew_lat (w := w) h p v0 hv0 tag tot (by omega) ht2 h0 h1
  have k0 : w.cell? ⟨q, 5 + p * 2, none⟩ = some (.int .i64 v0.1) := h.cLat p 0 v0 hv0 (by omega)
  have k1 : w.cell? ⟨q, 5 + p * 2 + 1, none⟩ = some (.int .i64 v0.2) := by rw [Nat.add_assoc]; exact h.cLat p 1 v0 hv0 (by omega)
  have kf := h.blk.frozen
  obtain ⟨f, hfd⟩ : ∃ f : Tr → Tr, f = fun t => if t.path == (p : Int) && followsT t (tag, tot) then bindT t (tag, tot) else t := ⟨_, rfl⟩
  have HFS : Hid (renewS g.s p (tag, tot) = { latS g.s p (tag, tot) with trs := g.s.trs.map f }) := by show _ = _; rw [hfd]; rfl
  have HF := hide hfd
  clear hfd
  have hp' : (p : Int) < 4 := by omega
  go_enter Tryz.func87, Tryz.ntmps87
  go_wp2_with fail
  go_region
  go_wp2_with fail
  have hW : ((w.setCell ⟨q, 5 + p * 2, none⟩ (.int .i64 tag)).setCell ⟨q, 5 + p * 2 + 1, none⟩ (.int .i64 tot)).heap.size = w.heap.size := by simp [World.setCell]
  have hB1 := Blk.new ((w.setCell ⟨q, 5 + p * 2, none⟩ (.int .i64 tag)).setCell ⟨q, 5 + p * 2 + 1, none⟩ (.int .i64 tot)) 89 #[.int .i64 tag, .int .i64 tot]
  rw [hW] at hB1
  have hE1 := Ext.new ((w.setCell ⟨q, 5 + p * 2, none⟩ (.int .i64 tag)).setCell ⟨q, 5 + p * 2 + 1, none⟩ (.int .i64 tot)) (.cells #[.int .i64 tag, .int .i64 tot] 89)
  have hPl1 := (hPl.ext hE1).ext (Below.drew (Below.refl _ _))
  have hMl1 := (hMl.ext hE1).ext (Below.drew (Below.refl _ _))
  have hB2 := hB1.ext (Below.drew (Below.refl _ _))
  clear hPl hMl hB1 hE1 hE0 hB0 k0 k1 kf
  generalize (((w.setCell ⟨q, 5 + p * 2, none⟩ (.int .i64 tag)).setCell ⟨q, 5 + p * 2 + 1, none⟩ (.int .i64 tot)).alloc (.cells #[.int .i64 tag, .int .i64 tot] 89)).drew = w0 at *
  clear hW
  obtain ⟨gl, hgl⟩ : ∃ gl, gl = latG g p (tag, tot) := ⟨_, rfl⟩
  rw [← hgl] at hPl1 hMl1
  have htr : gl.s.trs = g.s.trs := by rw [hgl]; rfl
  have hglv : gl.v = g.v := by rw [hgl]; rfl
  have hfl := hPl1.ok.fair
  have HFS2 : Hid (∀ l, withT gl l = ⟨{ latS g.s p (tag, tot) with trs := l }, g.v⟩) := by intro l; rw [hgl]; rfl
  clear hgl
  go_loopg [6] g.s.trs.length (fun m v wr => ∃ n : Nat, m = g.s.trs.length - n ∧ n ≤ g.s.trs.length ∧ v = .int .i64 n ∧ PgAt wr q (withT gl (upTo f g.s.trs n)) ∧ PMvs w wr q g (withT gl (upTo f g.s.trs n)) ∧ Blk wr w.heap.size 89 #[.int .i64 tag, .int .i64 tot])
  case atStart => exact ⟨0, rfl, by omega, rfl, by rw [upTo_zero, ← htr]; exact hPl1, by rw [upTo_zero, ← htr]; exact hMl1, hB2⟩
  case round =>
    obtain ⟨n, rfl, hn, rfl, hP, hM, hB⟩ := hrel
    clear hPl1 hMl1 hB2
    by_cases hlt : n < g.s.trs.length
    · obtain ⟨b, rfl⟩ := hT0 (by omega)
      obtain ⟨t, ht⟩ : ∃ t, g.s.trs[n]? = some t := ⟨_, List.getElem?_eq_getElem hlt⟩
      have HTn := hide ht
      have ht' : (withT gl (upTo f g.s.trs n)).s.trs[n]? = some t := by show (upTo f g.s.trs n)[n]? = _; rw [upTo_get f _ n hlt]; exact ht
      have hT2 : (withT gl (upTo f g.s.trs n)).v.t = .slice (some ⟨b, 0, none⟩) (withT gl (upTo f g.s.trs n)).s.trs.length capT := by
        show gl.v.t = .slice _ (upTo f g.s.trs n).length _; rw [upTo_len, hglv]; exact hT
      obtain ⟨b', cap', hT', hTr, hbq⟩ := hP.row ht'
      have hbb : b' = b := by have := hT2.symm.trans hT'; simp at this; exact this.1.symm
      subst hbb
      have ok := h.ok.ts t (List.mem_of_getElem? ht)
      have hbl := hvl b' (by rw [hT]; rfl)
      have c13 : wr.cell? ⟨q, 13, none⟩ = some (.slice (some ⟨b', 0, none⟩) g.s.trs.length capT) := by have := hP.cTr hT2; rwa [show (withT gl (upTo f g.s.trs n)).s.trs.length = g.s.trs.length from upTo_len _ _ _] at this
      have v0 : wr.cell? ⟨w.heap.size, 0, none⟩ = some (.int .i64 tag) := hB.cell 0
      have v1 : wr.cell? ⟨w.heap.size, 1, none⟩ = some (.int .i64 tot) := hB.cell 1
      have cp : wr.cell? ⟨b', n * 18, none⟩ = some (.int .i64 t.path) := hTr.c 0
      have HW := hide (follows_any b' (n * 18) t tag tot)
      have HFt : Hid (f t = if t.path == (p : Int) && followsT t (tag, tot) then bindT t (tag, tot) else t) := by show _ = _; rw [HF.out]
      have HNL : Hid (followsT t (tag, tot) = true → t.lost = false ∧ t.shown = false ∧ t.taken = 0) := follows_new ok
      generalize followsT t (tag, tot) = wv at *
      have hlt' : (n : Int) < g.s.trs.length := by omega
      have HT2 := hide hT2
      have HTp := hide ht'
      clear hT' hT0 ht' hT2 hv0
      go_wp2_with fail
      go_cut [41] (fun v wx => v = .bool (t.path == (p : Int) && wv) ∧ Ext wr wx)
      case first =>
        by_cases hpp : t.path = (p : Int)
        · rw [hpp] at cp
          have hb : (t.path == (p : Int)) = true := by simpa using hpp
          go_region_held3 (fun w' => w'.cell? ⟨q, 13, none⟩ = some (.slice (some ⟨b', 0, none⟩) g.s.trs.length capT) ∧ w'.cell? ⟨w.heap.size, 0, none⟩ = some (.int .i64 tag) ∧ w'.cell? ⟨w.heap.size, 1, none⟩ = some (.int .i64 tot) ∧ w'.cell? ⟨b', n * 18, none⟩ = some (.int .i64 p)) (go_keep)
            ((go_at_call 106
              refine (HW.out _ (hTr.ext (Below.drew (Below.refl _ _)))).mono ?_
              rintro r w4 ⟨rfl, hE4⟩
              have e0' := ext_cell hE4.undrew v0
              have e1' := ext_cell hE4.undrew v1
              have e2' := ext_cell hE4.undrew cp
              have c13' := ext_cell hE4.undrew c13))
          all_goals go_wp2_with fail
          all_goals go_meet
          all_goals exact ⟨by rw [hb]; rfl, hE4.undrew⟩
        · have hb : (t.path == (p : Int)) = false := by simpa using hpp
          go_quiet (fail)
          go_wp2_with fail
          go_meet
          exact ⟨by rw [hb]; rfl, Ext.drewN (Below.refl _ _) _⟩
      case rest =>
        obtain ⟨rfl, hE4⟩ := hcut
        have hP4 := hP.ext hE4
        have hM4 := hM.ext hE4
        have hB4 := hB.ext hE4
        have hTr4 := hTr.ext hE4
        replace c13 := ext_cell hE4 c13
        replace v0 := ext_cell hE4 v0
        replace v1 := ext_cell hE4 v1
        clear cp hP hM hB hTr HW
        cases hc : (t.path == (p : Int) && wv)
        · have HU : Hid (upTo f g.s.trs n = upTo f g.s.trs (n + 1)) := upTo_skip f _ n t HTn.out (by rw [HFt.out, hc]; rfl)
          go_wp2_with fail
          go_roundg (g.s.trs.length - (n + 1))
          case measure => omega
          case rel => exact ⟨n + 1, rfl, by omega, by go_num, by rw [← HU.out]; exact hP4, by rw [← HU.out]; exact hM4, hB4⟩
        · have hwv : wv = true := by simp at hc; exact hc.2
          have HU : Hid ((upTo f g.s.trs n).set n (bindT t (tag, tot)) = upTo f g.s.trs (n + 1)) := by
            have := upTo_set f _ n t HTn.out
            rw [HFt.out, hc] at this; exact this
          have HC := hide (bind_known b' (n * 18) t tag tot)
          have HOk : Hid (TrOk (bindT t (tag, tot))) := bindT_ok ok (HNL.out hwv).2.2 h0 h1
          clear hc hwv
          go_wp2_with fail
          go_region_held3 (fun w' => w'.cell? ⟨q, 13, none⟩ = some (.slice (some ⟨b', 0, none⟩) g.s.trs.length capT) ∧ w'.cell? ⟨w.heap.size, 0, none⟩ = some (.int .i64 tag) ∧ w'.cell? ⟨w.heap.size, 1, none⟩ = some (.int .i64 tot)) (go_keep)
            ((go_at_call 43
              refine (HC.out _ (hTr4.ext (Below.drew (Below.refl _ _))) ok h0 h1).mono ?_
              rintro r w5 ⟨rfl, hT5⟩
              have v0' := chg_cell hT5.chg (show wc.drew.cell? ⟨w.heap.size, 0, none⟩ = _ from v0) (fun e => by simp at e; omega)
              have v1' := chg_cell hT5.chg (show wc.drew.cell? ⟨w.heap.size, 1, none⟩ = _ from v1) (fun e => by simp at e; omega)
              have c13' := chg_cell hT5.chg (show wc.drew.cell? ⟨q, 13, none⟩ = _ from c13) (fun e => hbq e.symm)))
          all_goals go_wp2_with fail
          all_goals go_roundg (g.s.trs.length - (n + 1))
          all_goals first
            | omega
            | (have hnew := hP4.upd HTp.out HT2.out ((TrTo.ext0 hTr4 (Below.drew (Below.refl _ _))).trans hT5) HOk.out
               refine ⟨n + 1, rfl, by omega, by go_num, ?_, ?_, ?_⟩
               · rw [← HU.out]; exact hnew.1
               · rw [← HU.out]; exact hM4.trans hnew.2
               · exact hB4.pm hP4 hnew.2 (fun hx => Nat.lt_irrefl _ (h.lt _ (show PFoot q g w.heap.size by unfold PFoot at *; rw [← hglv]; exact hx))))
    · have hnn : n = g.s.trs.length := by omega
      have HU : Hid (upTo f g.s.trs n = g.s.trs.map f) := upTo_all f _ n (by omega)
      have c13 : wr.cell? ⟨q, 13, none⟩ = some (.slice aT g.s.trs.length capT) := by rw [← hT, ← hglv]; exact hP.cV
      clear hnn hT hT0
      go_wp2_with fail
      go_end0
      refine ⟨rfl, ?_⟩
      rw [HFS.out, ← HU.out]
      rw [HFS2.out] at hP hM
      exact ⟨g.v, hP, hM⟩
end Go.Proofs.YtjhihliciadipabGreat
