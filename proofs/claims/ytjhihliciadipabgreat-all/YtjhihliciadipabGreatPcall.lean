import Derived.Test.YtjhihliciadipabGreatPnext
import Derived.Test.YtjhihliciadipabGreatPver
import Derived.Test.YtjhihliciadipabGreatPfail
import Derived.Test.YtjhihliciadipabGreatPlook
set_option linter.unusedVariables false
set_option linter.unusedSimpArgs false
set_option linter.unnecessarySimpa false
namespace Go.Proofs.YtjhihliciadipabGreat
open Go.RowKit

def busyS (s : Px) (m : Nat) (b : Bool) : Px := { s with busy := s.busy.set m b }
def erS (s : Px) (m : Nat) (e : Er) : Px := { s with ers := s.ers.set m e }
theorem busyS_ok {s : Px} (h : POk s) (m : Nat) (b : Bool) : POk (busyS s m b) :=
  ⟨⟨h.fair.m1, h.fair.m2, h.fair.B1, h.fair.B2, h.fair.W1, h.fair.W2, h.fair.c1, h.fair.c2, h.fair.t1, h.fair.t2⟩, h.nl, h.lat, h.nt, h.ts, by simp [busyS, h.nb], h.ne, h.ers, h.cl, h.cb⟩
theorem erS_ok {s : Px} (h : POk s) (m : Nat) (e : Er) (he : 0 ≤ e.path ∧ e.path < 4 ∧ 0 ≤ e.blk ∧ e.blk ≤ 1000) : POk (erS s m e) :=
  ⟨⟨h.fair.m1, h.fair.m2, h.fair.B1, h.fair.B2, h.fair.W1, h.fair.W2, h.fair.c1, h.fair.c2, h.fair.t1, h.fair.t2⟩, h.nl, h.lat, h.nt, h.ts, h.nb, by simp [erS, h.ne], fun x hx => by
    rcases List.mem_or_eq_of_mem_set hx with h1 | rfl
    · exact h.ers x h1
    · exact he, h.cl, h.cb⟩
theorem PgAt.setBusy {w : World} {q : Nat} {g : Pg} (h : PgAt w q g) (m : Nat) (hm : m < 3) (b : Bool) :
    PgAt (w.setCell ⟨q, 14 + m, none⟩ (.bool b)) q ⟨busyS g.s m b, g.v⟩ ∧ PMvs w (w.setCell ⟨q, 14 + m, none⟩ (.bool b)) q g ⟨busyS g.s m b, g.v⟩ :=
  h.own (14 + m) (.bool b) ⟨busyS g.s m b, g.v⟩ rfl rfl rfl rfl (pgV_busy g h.ok.nl h.ok.nb m hm b) (busyS_ok h.ok m b)
theorem pgV_erR (g : Pg) (hl : g.s.lat.length = 4) (hb : g.s.busy.length = 3) (i : Nat) (e e' : Er) (he : g.s.ers[i]? = some e) :
    ((((pgV g).set (17 + i * 4) (.int .i64 e'.path)).set (17 + i * 4 + 1) (.int .i64 e'.tag)).set (17 + i * 4 + 2) (.int .i64 e'.tot)).set (17 + i * 4 + 3) (.int .i64 e'.blk) = pgV ⟨erS g.s i e', g.v⟩ := by
  have hi := (List.getElem?_eq_some_iff.1 he).1
  have a := pgV_er g hl hb i 0 e ⟨e'.path, e.tag, e.tot, e.blk⟩ (.int .i64 e'.path) he (by omega) rfl
  have b := pgV_er ⟨erS g.s i ⟨e'.path, e.tag, e.tot, e.blk⟩, g.v⟩ hl hb i 1 ⟨e'.path, e.tag, e.tot, e.blk⟩ ⟨e'.path, e'.tag, e.tot, e.blk⟩ (.int .i64 e'.tag) (by show (g.s.ers.set i _)[i]? = _; simp [hi]) (by omega) rfl
  have c := pgV_er ⟨erS g.s i ⟨e'.path, e'.tag, e.tot, e.blk⟩, g.v⟩ hl hb i 2 ⟨e'.path, e'.tag, e.tot, e.blk⟩ ⟨e'.path, e'.tag, e'.tot, e.blk⟩ (.int .i64 e'.tot) (by show (g.s.ers.set i _)[i]? = _; simp [hi]) (by omega) rfl
  have d := pgV_er ⟨erS g.s i ⟨e'.path, e'.tag, e'.tot, e.blk⟩, g.v⟩ hl hb i 3 ⟨e'.path, e'.tag, e'.tot, e.blk⟩ e' (.int .i64 e'.blk) (by show (g.s.ers.set i _)[i]? = _; simp [hi]) (by omega) rfl
  simp only [Nat.add_zero, erS, List.set_set] at a b c d
  unfold erS
  simp only [Nat.add_assoc] at *
  rw [a, b, c, d]
theorem PgAt.setEr {w : World} {q : Nat} {g : Pg} (h : PgAt w q g) (m : Nat) (e e' : Er) (he : g.s.ers[m]? = some e) (hok : 0 ≤ e'.path ∧ e'.path < 4 ∧ 0 ≤ e'.blk ∧ e'.blk ≤ 1000) :
    PgAt ((((w.setCell ⟨q, 17 + m * 4, none⟩ (.int .i64 e'.path)).setCell ⟨q, 17 + m * 4 + 1, none⟩ (.int .i64 e'.tag)).setCell ⟨q, 17 + m * 4 + 2, none⟩ (.int .i64 e'.tot)).setCell ⟨q, 17 + m * 4 + 3, none⟩ (.int .i64 e'.blk)) q ⟨erS g.s m e', g.v⟩ ∧
    PMvs w ((((w.setCell ⟨q, 17 + m * 4, none⟩ (.int .i64 e'.path)).setCell ⟨q, 17 + m * 4 + 1, none⟩ (.int .i64 e'.tag)).setCell ⟨q, 17 + m * 4 + 2, none⟩ (.int .i64 e'.tot)).setCell ⟨q, 17 + m * 4 + 3, none⟩ (.int .i64 e'.blk)) q g ⟨erS g.s m e', g.v⟩ := by
  have hC : Chg (fun b => b = q) w ((((w.setCell ⟨q, 17 + m * 4, none⟩ (.int .i64 e'.path)).setCell ⟨q, 17 + m * 4 + 1, none⟩ (.int .i64 e'.tag)).setCell ⟨q, 17 + m * 4 + 2, none⟩ (.int .i64 e'.tot)).setCell ⟨q, 17 + m * 4 + 3, none⟩ (.int .i64 e'.blk)) :=
    (((Chg.setCell (S := fun b => b = q) (Chg.refl _ _) (p := ⟨q, 17 + m * 4, none⟩) (Or.inl rfl) _).setCell (p := ⟨q, 17 + m * 4 + 1, none⟩) (Or.inl rfl) _).setCell (p := ⟨q, 17 + m * 4 + 2, none⟩) (Or.inl rfl) _).setCell (p := ⟨q, 17 + m * 4 + 3, none⟩) (Or.inl rfl) _
  refine ⟨⟨⟨?_, own_chg h.ts hC (fun k hk e => h.np (e ▸ hk)), own_chg h.cs hC (fun k hk e => h.nc (e ▸ hk)), h.np, h.nc, h.nt, erS_ok h.ok m e' hok⟩, ⟨h.cok.c1, h.cok.cu⟩⟩, hC.mono (fun b _ hb => Or.inl hb), fun b hb => Or.inl hb⟩
  have := (((h.blk.set (17 + m * 4) (.int .i64 e'.path)).set (17 + m * 4 + 1) (.int .i64 e'.tag)).set (17 + m * 4 + 2) (.int .i64 e'.tot)).set (17 + m * 4 + 3) (.int .i64 e'.blk)
  simp only [List.setIfInBounds_toArray] at this
  rw [pgV_erR g h.ok.nl h.ok.nb m e e' he] at this
  exact this

theorem hasM_yes {s : Px} {m : Int} (h : hasM s m = true) : ∃ k : Nat, m = k ∧ (k : Int) < s.mir := by
  unfold hasM at h; simp at h; exact ⟨m.toNat, by omega, by omega⟩

set_option maxHeartbeats 2000000 in
theorem endErrand_no (q : Nat) (m : Int) (g : Pg) (w : World) (h : PgAt w q g) (hm : hasM g.s m = false) :
    Calls Tryz.prog 53 #[.pointer (some ⟨q, 0, none⟩), .int .i64 m] w fun r w' => r = .returned (.tuple #[erAgg noEr, .int .i64 4]) ∧ Ext w w' := by
  have hE0 := Ext.new w (.cells #[.int .i64 0, .int .i64 0, .int .i64 0, .int .i64 0] 94)
  have HM := hasM_any q m g _ (h.ext hE0)
  rw [hm] at HM
  go_enter Tryz.func53, Tryz.ntmps53
  go_wp2_with fail
  refine HM.mono ?_
  rintro r w1 ⟨rfl, rfl⟩
  go_wp2_with fail
  refine bodyPost_ret (v := .tuple #[erAgg noEr, .int .i64 4]) (by simp [results, Tryz.results53, go_sem, erAgg, noEr]) rfl ⟨rfl, ?_⟩
  (with_reducible repeat (first | refine Below.drew ?_ | refine Below.alloc ?_ ?_ _ | refine Below.setCell ?_ ?_ _ | exact Below.refl _ _)) <;> simp

set_option maxHeartbeats 2000000 in
theorem endErrand_idle (q : Nat) (m : Nat) (g : Pg) (w : World) (h : PgAt w q g) (hm : hasM g.s m = true) (hb : g.s.busy[m]? = some false) :
    Calls Tryz.prog 53 #[.pointer (some ⟨q, 0, none⟩), .int .i64 m] w fun r w' => r = .returned (.tuple #[erAgg noEr, .int .i64 6]) ∧ Ext w w' := by
  have hE0 := Ext.new w (.cells #[.int .i64 0, .int .i64 0, .int .i64 0, .int .i64 0] 94)
  have HM := hasM_any q m g _ (h.ext hE0)
  rw [hm] at HM
  have cb : w.cell? ⟨q, 14 + m, none⟩ = some (.bool false) := h.cBusy m false hb
  have hm3 : m < 3 := by have := (List.getElem?_eq_some_iff.1 hb).1; rw [h.ok.nb] at this; exact this
  have hm3' : (m : Int) < 3 := by omega
  have hql := h.blk.lt
  clear hb
  go_enter Tryz.func53, Tryz.ntmps53
  go_wp2_with fail
  refine HM.mono ?_
  rintro r w1 ⟨rfl, rfl⟩
  go_wp2_with fail
  refine bodyPost_ret (v := .tuple #[erAgg noEr, .int .i64 6]) (by simp [results, Tryz.results53, go_sem, erAgg, noEr]) rfl ⟨rfl, ?_⟩
  (with_reducible repeat (first | refine Below.drew ?_ | refine Below.alloc ?_ ?_ _ | refine Below.setCell ?_ ?_ _ | exact Below.refl _ _)) <;> simp

set_option maxRecDepth 100000 in
set_option maxHeartbeats 4000000 in
theorem endErrand_yes (q : Nat) (m : Nat) (e : Er) (g : Pg) (w : World) (h : PgAt w q g) (hm : hasM g.s m = true) (hb : g.s.busy[m]? = some true) (he : g.s.ers[m]? = some e) :
    Calls Tryz.prog 53 #[.pointer (some ⟨q, 0, none⟩), .int .i64 m] w fun r w' => r = .returned (.tuple #[erAgg e, .int .i64 0]) ∧ PTo w w' q g (freeS g.s m) := by
  have hE0 := Ext.new w (.cells #[.int .i64 0, .int .i64 0, .int .i64 0, .int .i64 0] 94)
  have HM := hasM_any q m g _ (h.ext hE0)
  rw [hm] at HM
  have cb : w.cell? ⟨q, 14 + m, none⟩ = some (.bool true) := h.cBusy m true hb
  have e0 : w.cell? ⟨q, 17 + m * 4, none⟩ = some (.int .i64 e.path) := h.cEr m 0 e he (by omega)
  have e1 : w.cell? ⟨q, 17 + m * 4 + 1, none⟩ = some (.int .i64 e.tag) := by rw [Nat.add_assoc]; exact h.cEr m 1 e he (by omega)
  have e2 : w.cell? ⟨q, 17 + m * 4 + 2, none⟩ = some (.int .i64 e.tot) := by rw [Nat.add_assoc]; exact h.cEr m 2 e he (by omega)
  have e3 : w.cell? ⟨q, 17 + m * 4 + 3, none⟩ = some (.int .i64 e.blk) := by rw [Nat.add_assoc]; exact h.cEr m 3 e he (by omega)
  have hm3 : m < 3 := by have := (List.getElem?_eq_some_iff.1 hb).1; rw [h.ok.nb] at this; exact this
  have hm3' : (m : Int) < 3 := by omega
  have hql := h.blk.lt
  have hfz := h.blk.frozen
  have HE := hide he
  clear hb he
  go_enter Tryz.func53, Tryz.ntmps53
  go_wp2_with fail
  refine HM.mono ?_
  rintro r w1 ⟨rfl, rfl⟩
  go_wp2_with fail
  have hb := h.setBusy m hm3 false
  have hs := hb.1.setEr m e noEr HE.out ⟨by simp [noEr], by simp [noEr], by simp [noEr], by simp [noEr]⟩
  refine bodyPost_ret (v := .tuple #[erAgg e, .int .i64 0]) (by simp [results, Tryz.results53, go_sem, erAgg]) rfl ⟨rfl, g.v, ?_, ?_⟩
  · exact (hs.1.ext (Ext.new _ _)).ext (Ext.new _ _)
  · exact ((hb.2.trans hs.2).trans (PMvs.of_ext (Ext.new _ _))).trans (PMvs.of_ext (Ext.new _ _))
end Go.Proofs.YtjhihliciadipabGreat

namespace Go.Proofs.YtjhihliciadipabGreat
open Go.RowKit

theorem Blk.pmk {w1 w2 : World} {q n : Nat} {g g2 : Pg} {T : TypeId} {arr : Array Value} (hB : Blk w1 n T arr) (hn : ¬ PFoot q g n) (hM : PMvs w1 w2 q g g2) : Blk w2 n T arr ∧ ¬ PFoot q g2 n :=
  ⟨hB.chg hM.chg hn, fun h => by
    rcases hM.foot n h with h1 | h1
    · exact hn h1
    · have := hB.lt; omega⟩
theorem blkLen_le (tot k B : Int) (hB : 0 ≤ B) : 0 ≤ blkLen tot k B ∧ blkLen tot k B ≤ B := by
  unfold blkLen atM
  split
  · omega
  · split <;> omega

set_option maxRecDepth 100000 in
set_option maxHeartbeats 4000000 in
theorem answered_any (q : Nat) (e : Er) (p : Nat) (tag tot off : Int) (body : ByteArray) (g : Pg) (w : World) (h : PgAt w q g) (hpe : e.path = p) (hp : p < 4) (hk : 0 ≤ e.blk) (hk1 : e.blk ≤ 1000) (hb : body.size ≤ 9223372036854775807) :
    Calls Tryz.prog 54 #[.pointer (some ⟨q, 0, none⟩), erAgg e, repAgg tag tot off body] w fun r w' => r = .returned (.tuple #[]) ∧ PTo w w' q g (answS g.s e tag tot off body) := by
  obtain ⟨ep, et, eo, eb⟩ := e
  simp only at hpe hk hk1
  subst hpe
  have hf := h.ok.fair
  have hB1 := hf.B1
  have hB2 := hf.B2
  have hE := Ext.new2' w (.cells #[.int .i64 p, .int .i64 et, .int .i64 eo, .int .i64 eb] 94) (.cells #[.int .i64 tag, .int .i64 tot, .int .i64 off, .string body] 63)
  have hBe := (Blk.new w 94 #[.int .i64 p, .int .i64 et, .int .i64 eo, .int .i64 eb]).ext (Ext.new _ (.cells #[.int .i64 tag, .int .i64 tot, .int .i64 off, .string body] 63))
  have hBr := Blk.new2' w (.cells #[.int .i64 p, .int .i64 et, .int .i64 eo, .int .i64 eb] 94) 63 #[.int .i64 tag, .int .i64 tot, .int .i64 off, .string body]
  have HS := sensible_any ⟨p, et, eo, eb⟩ tag tot off body g.s.blk
  have HFd := hide (fun (g' : Pg) (w' : World) (h' : PgAt w' q g') => failed_any q ⟨p, et, eo, eb⟩ g' w' h' hk)
  have HRn := hide (fun (g' : Pg) (w' : World) (h' : PgAt w' q g') => renew_any q p tag tot g' w' h' hp)
  have HDl := hide (fun (g' : Pg) (w' : World) (h' : PgAt w' q g') => deliver_any q ⟨p, tag, tot, eb⟩ body g' w' h' hk hk1)
  have HA : Hid (answS g.s ⟨p, et, eo, eb⟩ tag tot off body = if sensible g.s.blk ⟨p, et, eo, eb⟩ tag tot off body.size then delivS (if tag = et ∧ tot = eo then g.s else failedS (renewS g.s p (tag, tot)) ⟨p, et, eo, eb⟩) ⟨p, tag, tot, eb⟩ body else failedS g.s ⟨p, et, eo, eb⟩) := rfl
  have HX : Hid (sensible g.s.blk ⟨p, et, eo, eb⟩ tag tot off body.size = true → 1 ≤ tag ∧ tag ≤ 99 ∧ 0 ≤ tot ∧ tot ≤ 1000 ∧ body.size ≤ 16) := by
    intro hs
    have hl := blkLen_le tot eb g.s.blk (by omega)
    unfold sensible fairV at hs
    simp at hs
    omega
  generalize answS g.s ⟨p, et, eo, eb⟩ tag tot off body = res at *
  generalize sensible g.s.blk ⟨p, et, eo, eb⟩ tag tot off body.size = sv at *
  have hnf : ∀ n, w.heap.size ≤ n → ¬ PFoot q g n := fun n hn hx => by have := h.lt n hx; omega
  rw [erAgg_eq] at *
  unfold repAgg at *
  simp only at *
  have hql := h.blk.lt
  go_enter Tryz.func54, Tryz.ntmps54
  go_wp2_with fail
  generalize (w.alloc (.cells #[.int .i64 p, .int .i64 et, .int .i64 eo, .int .i64 eb] 94)).alloc (.cells #[.int .i64 tag, .int .i64 tot, .int .i64 off, .string body] 63) = w0 at *
  have h0 := h.ext hE
  have m1 : w0.cell? ⟨q, 1, none⟩ = some (.int .i64 g.s.blk) := h0.cSet 1 (by omega)
  have e0 : w0.cell? ⟨w.heap.size, 0, none⟩ = some (.int .i64 p) := hBe.cell 0
  have e1 : w0.cell? ⟨w.heap.size, 1, none⟩ = some (.int .i64 et) := hBe.cell 1
  have e2 : w0.cell? ⟨w.heap.size, 2, none⟩ = some (.int .i64 eo) := hBe.cell 2
  have e3 : w0.cell? ⟨w.heap.size, 3, none⟩ = some (.int .i64 eb) := hBe.cell 3
  have r0 : w0.cell? ⟨w.heap.size + 1, 0, none⟩ = some (.int .i64 tag) := hBr.cell 0
  have r1 : w0.cell? ⟨w.heap.size + 1, 1, none⟩ = some (.int .i64 tot) := hBr.cell 1
  have r2 : w0.cell? ⟨w.heap.size + 1, 2, none⟩ = some (.int .i64 off) := hBr.cell 2
  have r3 : w0.cell? ⟨w.heap.size + 1, 3, none⟩ = some (.string body) := hBr.cell 3
  go_cut [15] (fun v wx => v = .bool (!sv) ∧ Ext w0 wx)
  case first =>
    clear HA HX HFd HRn HDl
    go_region_held3 (fun w' => w'.cell? ⟨q, 1, none⟩ = some (.int .i64 g.s.blk) ∧ w'.cell? ⟨w.heap.size, 0, none⟩ = some (.int .i64 p) ∧ w'.cell? ⟨w.heap.size, 1, none⟩ = some (.int .i64 et) ∧ w'.cell? ⟨w.heap.size, 2, none⟩ = some (.int .i64 eo) ∧ w'.cell? ⟨w.heap.size, 3, none⟩ = some (.int .i64 eb) ∧ w'.cell? ⟨w.heap.size + 1, 0, none⟩ = some (.int .i64 tag) ∧ w'.cell? ⟨w.heap.size + 1, 1, none⟩ = some (.int .i64 tot) ∧ w'.cell? ⟨w.heap.size + 1, 2, none⟩ = some (.int .i64 off) ∧ w'.cell? ⟨w.heap.size + 1, 3, none⟩ = some (.string body)) (go_keep)
      ((go_at_call 86
        refine (HS _ hk hk1 hB1 hB2 hb).mono ?_
        rintro r w4 ⟨rfl, hE4⟩
        have m1' := ext_cell hE4.undrew m1
        have e0' := ext_cell hE4.undrew e0
        have e1' := ext_cell hE4.undrew e1
        have e2' := ext_cell hE4.undrew e2
        have e3' := ext_cell hE4.undrew e3
        have r0' := ext_cell hE4.undrew r0
        have r1' := ext_cell hE4.undrew r1
        have r2' := ext_cell hE4.undrew r2
        have r3' := ext_cell hE4.undrew r3))
    all_goals go_wp2_with fail
    all_goals go_meet
    all_goals exact ⟨rfl, hE4.undrew⟩
  case rest =>
    obtain ⟨rfl, hE4⟩ := hcut
    generalize wc = w4 at *
    have hX4 := Ext.trans' hE hE4
    have h4 := h.ext hX4
    have hBe4 := hBe.ext hE4
    have hBr4 := hBr.ext hE4
    replace e0 := ext_cell hE4 e0
    replace e1 := ext_cell hE4 e1
    replace e2 := ext_cell hE4 e2
    replace e3 := ext_cell hE4 e3
    replace r0 := ext_cell hE4 r0
    replace r1 := ext_cell hE4 r1
    replace r3 := ext_cell hE4 r3
    have hbl4 := hBr4.lt
    have hbl4' : w.heap.size < w4.heap.size := by omega
    clear r2 m1 hE hBe hBr h0 HS hE4
    cases sv
    · simp only [Bool.not_false]
      have HA1 : Hid (res = failedS g.s ⟨p, et, eo, eb⟩) := by show _ = _; rw [HA.out]; rfl
      go_wp2_with fail
      refine (HFd.out g _ h4).mono ?_
      rintro r w5 ⟨rfl, hP5⟩
      go_wp2_with fail
      refine bodyPost_ret (v := .tuple #[]) (by simp [results, Tryz.results54, go_sem]) rfl ⟨rfl, by rw [HA1.out]; exact PTo.trans (v1 := g.v) (PMvs.of_ext hX4) hP5⟩
    · simp only [Bool.not_true]
      obtain ⟨t1, t2, o1, o2, hb16⟩ := HX.out rfl
      have HA1 : Hid (res = delivS (if tag = et ∧ tot = eo then g.s else failedS (renewS g.s p (tag, tot)) ⟨p, et, eo, eb⟩) ⟨p, tag, tot, eb⟩ body) := by show _ = _; rw [HA.out]; rfl
      clear HA HX
      have hE5 := Ext.new w4 (.cells #[.int .i64 tag, .int .i64 tot] 89)
      have hB5 := Blk.new w4 89 #[.int .i64 tag, .int .i64 tot]
      by_cases heq : tag = et ∧ tot = eo
      · obtain ⟨rfl, rfl⟩ := heq
        have HA2 : Hid (res = delivS g.s ⟨p, tag, tot, eb⟩ body) := by show _ = _; rw [HA1.out, if_pos ⟨rfl, rfl⟩]
        go_wp2_with fail
        refine (HDl.out g _ (h4.ext hE5) hb16).mono ?_
        rintro r w6 ⟨rfl, hP6⟩
        go_wp2_with fail
        go_end0
        exact ⟨rfl, by rw [HA2.out]; exact PTo.trans (v1 := g.v) (PMvs.of_ext (Ext.trans' hX4 hE5)) hP6⟩
      · have HA2 : Hid (res = delivS (failedS (renewS g.s p (tag, tot)) ⟨p, et, eo, eb⟩) ⟨p, tag, tot, eb⟩ body) := by show _ = _; rw [HA1.out, if_neg heq]
        clear HA1
        by_cases h1 : tag = et
        all_goals first
          | (have h2 : ¬ tot = eo := fun h2 => heq ⟨h1, h2⟩
             subst h1
             clear heq)
          | clear heq
        all_goals
          go_wp2_with fail
          refine (HRn.out g _ (h4.ext hE5) t1 t2 o1 o2).mono ?_
          rintro r w6 ⟨rfl, v6, hP6, hM6⟩
          have hE6 := (hBe4.ext hE5).pmk (hnf _ (by omega)) hM6
          have hR6 := (hBr4.ext hE5).pmk (hnf _ (by omega)) hM6
          have hV6 := hB5.pmk (hnf _ (by omega)) hM6
          have f0 : w6.cell? ⟨w.heap.size, 0, none⟩ = some (.int .i64 p) := hE6.1.cell 0
          have f1 : w6.cell? ⟨w.heap.size, 1, none⟩ = some _ := hE6.1.cell 1
          have f2 : w6.cell? ⟨w.heap.size, 2, none⟩ = some _ := hE6.1.cell 2
          have f3 : w6.cell? ⟨w.heap.size, 3, none⟩ = some (.int .i64 eb) := hE6.1.cell 3
          clear e0 e1 e2 e3 r0 r1 r3
          go_wp2_with fail
          refine (HFd.out _ _ hP6).mono ?_
          rintro r w7 ⟨rfl, v7, hP7, hM7⟩
          have hE7 := hE6.1.pmk hE6.2 hM7
          have hR7 := hR6.1.pmk hR6.2 hM7
          have hV7 := hV6.1.pmk hV6.2 hM7
          have g0 : w7.cell? ⟨w.heap.size, 0, none⟩ = some (.int .i64 p) := hE7.1.cell 0
          have g3 : w7.cell? ⟨w.heap.size, 3, none⟩ = some (.int .i64 eb) := hE7.1.cell 3
          have k3 : w7.cell? ⟨w.heap.size + 1, 3, none⟩ = some (.string body) := hR7.1.cell 3
          have j0 : w7.cell? ⟨w4.heap.size, 0, none⟩ = some (.int .i64 tag) := hV7.1.cell 0
          have j1 : w7.cell? ⟨w4.heap.size, 1, none⟩ = some (.int .i64 tot) := hV7.1.cell 1
          clear f0 f1 f2 f3
          go_wp2_with fail
          refine (HDl.out _ _ hP7 hb16).mono ?_
          rintro r w8 ⟨rfl, hP8⟩
          go_wp2_with fail
          go_end0
          exact ⟨rfl, by rw [HA2.out]; exact PTo.trans (((PMvs.of_ext (Ext.trans' hX4 hE5)).trans hM6).trans hM7) hP8⟩
end Go.Proofs.YtjhihliciadipabGreat

namespace Go.Proofs.YtjhihliciadipabGreat
open Go.RowKit

theorem endA_no {s : Px} {m : Int} (h : hasM s m = false) : endA s m = 4 := by simp [endA, h]
theorem endA_idle {s : Px} {m : Nat} (h : hasM s m = true) (hb : s.busy[m]? = some false) : endA s m = 6 := by simp [endA, h, hb]
theorem endA_yes {s : Px} {m : Nat} (h : hasM s m = true) (hb : s.busy[m]? = some true) : endA s m = 0 := by simp [endA, h, hb]
theorem PgAt.mir3 {w : World} {q : Nat} {g : Pg} (h : PgAt w q g) {m : Nat} (hm : hasM g.s m = true) : m < 3 := by
  have := h.ok.fair.m2
  unfold hasM at hm; simp at hm; omega

set_option maxHeartbeats 1000000 in
theorem FailP_any (q : Nat) (m : Int) (g : Pg) (w : World) (h : PgAt w q g) :
    Calls Tryz.prog 24 #[.pointer (some ⟨q, 0, none⟩), .int .i64 m] w fun r w' => r = .returned (.int .i64 (endA g.s m)) ∧ PTo w w' q g (failP g.s m) := by
  cases hI : hasM g.s m
  · have HS : Hid (failP g.s m = g.s) := by show _ = _; unfold failP; rw [endA_no hI]; rfl
    have HE := endErrand_no q m g w h hI
    rw [endA_no hI]
    unfold erAgg noEr at HE
    go_enter Tryz.func24, Tryz.ntmps24
    go_wp2_with fail
    refine HE.mono ?_
    rintro r w1 ⟨rfl, hE1⟩
    go_wp2_with fail
    go_ret
    exact ⟨rfl, by rw [HS.out]; exact PTo.ext h (Ext.trans' hE1 (Ext.new _ _))⟩
  · obtain ⟨k, rfl, hk⟩ := hasM_yes hI
    have hk3 := h.mir3 hI
    obtain ⟨b, hb⟩ : ∃ b, g.s.busy[k]? = some b := ⟨_, List.getElem?_eq_getElem (by rw [h.ok.nb]; exact hk3)⟩
    obtain ⟨e, he⟩ : ∃ e, g.s.ers[k]? = some e := ⟨_, List.getElem?_eq_getElem (by rw [h.ok.ne]; exact hk3)⟩
    cases b
    · have HS : Hid (failP g.s k = g.s) := by show _ = _; unfold failP; rw [endA_idle hI hb]; rfl
      have HE := endErrand_idle q k g w h hI hb
      rw [endA_idle hI hb]
      unfold erAgg noEr at HE
      clear hb he
      go_enter Tryz.func24, Tryz.ntmps24
      go_wp2_with fail
      refine HE.mono ?_
      rintro r w1 ⟨rfl, hE1⟩
      go_wp2_with fail
      go_ret
      exact ⟨rfl, by rw [HS.out]; exact PTo.ext h (Ext.trans' hE1 (Ext.new _ _))⟩
    · have HS : Hid (failP g.s k = plookS (failedS (freeS g.s k) e)) := by show _ = _; unfold failP; rw [endA_yes hI hb]; simp [he]
      have HE := endErrand_yes q k e g w h hI hb he
      have hok := h.ok.ers e (List.mem_of_getElem? he)
      rw [endA_yes hI hb]
      have HF := hide (fun (g' : Pg) (w' : World) (h' : PgAt w' q g') => failed_any q e g' w' h' hok.2.2.1)
      unfold erAgg at HE HF
      clear hb he
      go_enter Tryz.func24, Tryz.ntmps24
      go_wp2_with fail
      refine HE.mono ?_
      rintro r w1 ⟨rfl, v1, hP1, hM1⟩
      have hE2 := Ext.new w1 (.cells #[.int .i64 e.path, .int .i64 e.tag, .int .i64 e.tot, .int .i64 e.blk] 94)
      go_wp2_with fail
      refine (HF.out _ _ (hP1.ext hE2)).mono ?_
      rintro r w2 ⟨rfl, v2, hP2, hM2⟩
      have hM12 := (hM1.ext hE2).trans hM2
      go_wp2_with fail
      refine (plook_any q _ _ hP2).mono ?_
      rintro r w3 ⟨rfl, hP3⟩
      go_wp2_with fail
      go_ret
      exact ⟨rfl, by rw [HS.out]; exact PTo.trans hM12 hP3⟩

set_option maxHeartbeats 1000000 in
theorem ReplyP_any (q : Nat) (m tag tot off : Int) (body : ByteArray) (g : Pg) (w : World) (h : PgAt w q g) (hbs : body.size ≤ 9223372036854775807) :
    Calls Tryz.prog 22 #[.pointer (some ⟨q, 0, none⟩), .int .i64 m, repAgg tag tot off body] w fun r w' => r = .returned (.int .i64 (endA g.s m)) ∧ PTo w w' q g (replyP g.s m tag tot off body) := by
  have hE0 := Ext.new w (.cells #[.int .i64 tag, .int .i64 tot, .int .i64 off, .string body] 63)
  have hB0 := Blk.new w 63 #[.int .i64 tag, .int .i64 tot, .int .i64 off, .string body]
  have h0 := h.ext hE0
  have hnf : ¬ PFoot q g w.heap.size := fun hx => by have := h.lt _ hx; omega
  cases hI : hasM g.s m
  · have HS : Hid (replyP g.s m tag tot off body = g.s) := by show _ = _; unfold replyP; rw [endA_no hI]; rfl
    have HE := endErrand_no q m g _ h0 hI
    rw [endA_no hI]
    unfold erAgg noEr at HE
    unfold repAgg
    go_enter Tryz.func22, Tryz.ntmps22
    go_wp2_with fail
    refine HE.mono ?_
    rintro r w1 ⟨rfl, hE1⟩
    go_wp2_with fail
    go_ret
    exact ⟨rfl, by rw [HS.out]; exact PTo.ext h (Ext.trans' (Ext.trans' hE0 hE1) (Ext.new _ _))⟩
  · obtain ⟨k, rfl, hk⟩ := hasM_yes hI
    have hk3 := h.mir3 hI
    obtain ⟨b, hb⟩ : ∃ b, g.s.busy[k]? = some b := ⟨_, List.getElem?_eq_getElem (by rw [h.ok.nb]; exact hk3)⟩
    obtain ⟨e, he⟩ : ∃ e, g.s.ers[k]? = some e := ⟨_, List.getElem?_eq_getElem (by rw [h.ok.ne]; exact hk3)⟩
    cases b
    · have HS : Hid (replyP g.s k tag tot off body = g.s) := by show _ = _; unfold replyP; rw [endA_idle hI hb]; rfl
      have HE := endErrand_idle q k g _ h0 hI hb
      rw [endA_idle hI hb]
      unfold erAgg noEr at HE
      unfold repAgg
      clear hb he
      go_enter Tryz.func22, Tryz.ntmps22
      go_wp2_with fail
      refine HE.mono ?_
      rintro r w1 ⟨rfl, hE1⟩
      go_wp2_with fail
      go_ret
      exact ⟨rfl, by rw [HS.out]; exact PTo.ext h (Ext.trans' (Ext.trans' hE0 hE1) (Ext.new _ _))⟩
    · have HS : Hid (replyP g.s k tag tot off body = plookS (answS (freeS g.s k) e tag tot off body)) := by show _ = _; unfold replyP; rw [endA_yes hI hb]; simp [he]
      have HE := endErrand_yes q k e g _ h0 hI hb he
      have hok := h.ok.ers e (List.mem_of_getElem? he)
      rw [endA_yes hI hb]
      obtain ⟨p, hp⟩ := Int.eq_ofNat_of_zero_le hok.1
      have HF := hide (fun (g' : Pg) (w' : World) (h' : PgAt w' q g') => answered_any q e p tag tot off body g' w' h' hp (by omega) hok.2.2.1 hok.2.2.2 hbs)
      unfold erAgg at HE HF
      unfold repAgg at *
      clear hb he hp
      go_enter Tryz.func22, Tryz.ntmps22
      go_wp2_with fail
      refine HE.mono ?_
      rintro r w1 ⟨rfl, v1, hP1, hM1⟩
      have hE2 := Ext.new w1 (.cells #[.int .i64 e.path, .int .i64 e.tag, .int .i64 e.tot, .int .i64 e.blk] 94)
      have hB1 := hB0.pmk hnf hM1
      have r0 : w1.cell? ⟨w.heap.size, 0, none⟩ = some (.int .i64 tag) := hB1.1.cell 0
      have r1 : w1.cell? ⟨w.heap.size, 1, none⟩ = some (.int .i64 tot) := hB1.1.cell 1
      have r2 : w1.cell? ⟨w.heap.size, 2, none⟩ = some (.int .i64 off) := hB1.1.cell 2
      have r3 : w1.cell? ⟨w.heap.size, 3, none⟩ = some (.string body) := hB1.1.cell 3
      have hlt1 := hB1.1.lt
      go_wp2_with fail
      refine (HF.out _ _ (hP1.ext hE2)).mono ?_
      rintro r w2 ⟨rfl, v2, hP2, hM2⟩
      have hM12 := (((PMvs.of_ext hE0).trans hM1).ext hE2).trans hM2
      go_wp2_with fail
      refine (plook_any q _ _ hP2).mono ?_
      rintro r w3 ⟨rfl, hP3⟩
      go_wp2_with fail
      go_ret
      exact ⟨rfl, by rw [HS.out]; exact PTo.trans hM12 hP3⟩
end Go.Proofs.YtjhihliciadipabGreat

namespace Go.Proofs.YtjhihliciadipabGreat
open Go.RowKit

def fetV (f : Int × Int × Int × Int × Int) : Value := fetAgg f.1 f.2.1 f.2.2.1 f.2.2.2.1 f.2.2.2.2
structure ErOk (e : Er) : Prop where
  p0 : 0 ≤ e.path
  p1 : e.path < 4
  b0 : 0 ≤ e.blk
  b1 : e.blk ≤ 1000
theorem errOf_ok {s : Px} {t : Tr} {e : Er} (hf : Fair s) (ok : TrOk t) (h : errOf s t = some e) : ErOk e ∧ e.tag = t.hd.tag ∧ e.tot = t.hd.tot := by
  have hm := List.mem_of_find?_eq_some h
  have hb := wantedL_bd ok hf e hm
  exact ⟨⟨by rw [hb.2.2.1]; exact ok.p0, by rw [hb.2.2.1]; exact ok.p1, hb.1, hb.2.1⟩, hb.2.2.2.1, hb.2.2.2.2⟩
theorem nextE_ok {s : Px} {e : Er} (h : POk s) (he : nextE s = some e) : ErOk e ∧ ∃ t ∈ s.trs, errOf s t = some e ∧ e.tag = t.hd.tag ∧ e.tot = t.hd.tot := by
  unfold nextE at he
  rw [List.findSome?_eq_some_iff] at he
  obtain ⟨l1, t, l2, hl, ht, -⟩ := he
  have hm : t ∈ s.trs := by rw [hl]; simp
  have := errOf_ok h.fair (h.ts t hm) ht
  exact ⟨this.1, t, hm, ht, this.2⟩

theorem nextA_no {s : Px} {m : Int} (h : hasM s m = false) : nextA s m = ((0, 0, 0, 0, 0), false, 4) ∧ nextS s m = s := by simp [nextA, nextS, h]
theorem nextA_busy {s : Px} {m : Nat} (h : hasM s m = true) (hb : s.busy[m]? = some true) : nextA s m = ((0, 0, 0, 0, 0), false, 5) ∧ nextS s m = s := by simp [nextA, nextS, h, hb]
theorem nextA_none {s : Px} {m : Nat} (h : hasM s m = true) (hb : s.busy[m]? = some false) (hn : nextE s = none) : nextA s m = ((0, 0, 0, 0, 0), false, 0) ∧ nextS s m = s := by simp [nextA, nextS, h, hb, hn]
theorem nextA_some {s : Px} {m : Nat} {e : Er} (h : hasM s m = true) (hb : s.busy[m]? = some false) (hn : nextE s = some e) : nextA s m = (fetchE s.blk e, true, 0) ∧ nextS s m = erS (busyS s m true) m e := by simp [nextA, nextS, h, hb, hn, erS, busyS]

set_option maxHeartbeats 2000000 in
theorem NextP_no (q : Nat) (m : Int) (g : Pg) (w : World) (h : PgAt w q g) (hI : hasM g.s m = false) :
    Calls Tryz.prog 20 #[.pointer (some ⟨q, 0, none⟩), .int .i64 m] w fun r w' => r = .returned (.tuple #[fetAgg 0 0 0 0 0, .bool false, .int .i64 4]) ∧ Ext w w' := by
  have hE0 := Ext.new w (.cells #[.int .i64 0, .int .i64 0, .int .i64 0, .int .i64 0, .int .i64 0] 57)
  have HM := hasM_any q m g _ (h.ext hE0)
  rw [hI] at HM
  go_enter Tryz.func20, Tryz.ntmps20
  go_wp2_with fail
  refine HM.mono ?_
  rintro e w1 ⟨rfl, rfl⟩
  go_wp2_with fail
  refine bodyPost_ret (v := .tuple #[fetAgg 0 0 0 0 0, .bool false, .int .i64 4]) (by simp [results, Tryz.results20, go_sem, fetAgg]) rfl ⟨rfl, ?_⟩
  (with_reducible repeat (first | refine Below.drew ?_ | refine Below.alloc ?_ ?_ _ | refine Below.setCell ?_ ?_ _ | exact Below.refl _ _)) <;> simp

set_option maxHeartbeats 2000000 in
theorem NextP_busy (q : Nat) (m : Nat) (g : Pg) (w : World) (h : PgAt w q g) (hI : hasM g.s m = true) (hb : g.s.busy[m]? = some true) :
    Calls Tryz.prog 20 #[.pointer (some ⟨q, 0, none⟩), .int .i64 m] w fun r w' => r = .returned (.tuple #[fetAgg 0 0 0 0 0, .bool false, .int .i64 5]) ∧ Ext w w' := by
  have hE0 := Ext.new w (.cells #[.int .i64 0, .int .i64 0, .int .i64 0, .int .i64 0, .int .i64 0] 57)
  have HM := hasM_any q m g _ (h.ext hE0)
  rw [hI] at HM
  have cb : w.cell? ⟨q, 14 + m, none⟩ = some (.bool true) := h.cBusy m true hb
  have hm3 := h.mir3 hI
  have hm3' : (m : Int) < 3 := by omega
  have hql := h.blk.lt
  clear hb
  go_enter Tryz.func20, Tryz.ntmps20
  go_wp2_with fail
  refine HM.mono ?_
  rintro e w1 ⟨rfl, rfl⟩
  go_wp2_with fail
  refine bodyPost_ret (v := .tuple #[fetAgg 0 0 0 0 0, .bool false, .int .i64 5]) (by simp [results, Tryz.results20, go_sem, fetAgg]) rfl ⟨rfl, ?_⟩
  (with_reducible repeat (first | refine Below.drew ?_ | refine Below.alloc ?_ ?_ _ | refine Below.setCell ?_ ?_ _ | exact Below.refl _ _)) <;> simp

theorem box5 (w : World) (n : Nat) (a b c d e : Value) : Chg (fun x => x = n) w (((((w.setCell ⟨n, 0, none⟩ a).setCell ⟨n, 1, none⟩ b).setCell ⟨n, 2, none⟩ c).setCell ⟨n, 3, none⟩ d).setCell ⟨n, 4, none⟩ e) :=
  ((((Chg.setCell (S := fun x => x = n) (Chg.refl _ _) (p := ⟨n, 0, none⟩) (Or.inl rfl) _).setCell (p := ⟨n, 1, none⟩) (Or.inl rfl) _).setCell (p := ⟨n, 2, none⟩) (Or.inl rfl) _).setCell (p := ⟨n, 3, none⟩) (Or.inl rfl) _).setCell (p := ⟨n, 4, none⟩) (Or.inl rfl) _

set_option maxRecDepth 100000 in
set_option maxHeartbeats 4000000 in
theorem NextP_free (q : Nat) (m : Nat) (g : Pg) (w : World) (h : PgAt w q g) (hI : hasM g.s m = true) (hb : g.s.busy[m]? = some false) :
    Calls Tryz.prog 20 #[.pointer (some ⟨q, 0, none⟩), .int .i64 m] w fun r w' => r = .returned (.tuple #[fetV (nextA g.s m).1, .bool (nextA g.s m).2.1, .int .i64 (nextA g.s m).2.2]) ∧ PTo w w' q g (nextS g.s m) := by
  have hE0 := Ext.new w (.cells #[.int .i64 0, .int .i64 0, .int .i64 0, .int .i64 0, .int .i64 0] 57)
  have hB0 := Blk.new w 57 #[.int .i64 0, .int .i64 0, .int .i64 0, .int .i64 0, .int .i64 0]
  have h0 := h.ext hE0
  have HM := hasM_any q m g _ h0
  rw [hI] at HM
  have cb : w.cell? ⟨q, 14 + m, none⟩ = some (.bool false) := h.cBusy m false hb
  have hm3 := h.mir3 hI
  have hm3' : (m : Int) < 3 := by omega
  have hql := h.blk.lt
  have HN := nextErrand_any q g _ h0
  cases hne : nextE g.s with
  | none =>
    have HA := hide (nextA_none hI hb hne)
    rw [hne] at HN
    simp only [optEr, noEr, Option.getD_none, Option.isSome_none, erAgg] at HN
    clear hb
    go_enter Tryz.func20, Tryz.ntmps20
    go_wp2_with fail
    refine HM.mono ?_
    rintro e w1 ⟨rfl, rfl⟩
    go_wp2_with fail
    refine HN.mono ?_
    rintro e w1 ⟨rfl, hE1⟩
    have hB1 := hB0.ext hE1
    have z0 : w1.cell? ⟨w.heap.size, 0, none⟩ = some (.int .i64 0) := hB1.cell 0
    have z1 : w1.cell? ⟨w.heap.size, 1, none⟩ = some (.int .i64 0) := hB1.cell 1
    have z2 : w1.cell? ⟨w.heap.size, 2, none⟩ = some (.int .i64 0) := hB1.cell 2
    have z3 : w1.cell? ⟨w.heap.size, 3, none⟩ = some (.int .i64 0) := hB1.cell 3
    have z4 : w1.cell? ⟨w.heap.size, 4, none⟩ = some (.int .i64 0) := hB1.cell 4
    have zf := hB1.frozen
    have hl1 := hB1.lt
    have hX := Ext.trans' hE0 hE1
    clear hE1 hE0 h0 HN HM
    go_wp2_with fail
    refine bodyPost_ret (v := .tuple #[fetAgg 0 0 0 0 0, .bool false, .int .i64 0]) (by simp [results, Tryz.results20, go_sem, fetAgg, z0, z1, z2, z3, z4, hl1]) rfl ⟨by rw [HA.out.1]; rfl, ?_⟩
    rw [HA.out.2]
    refine PTo.ext h ?_
    (with_reducible repeat (first | refine Below.drew ?_ | refine Below.alloc ?_ ?_ _ | refine Below.setCell ?_ ?_ _ | exact hX)) <;> first | (simp; done) | (simp [World.setCell]; exact hX.size)
  | some e =>
    have HA := hide (nextA_some hI hb hne)
    obtain ⟨eok, t, htm, -, het, heo⟩ := nextE_ok h.ok hne
    have htb : 0 ≤ t.hd.tot ∧ t.hd.tot ≤ 1000 := ⟨(h.ok.ts t htm).o0, (h.ok.ts t htm).o1⟩
    rw [hne] at HN
    simp only [optEr, Option.getD_some, Option.isSome_some, erAgg] at HN
    obtain ⟨x, hx⟩ : ∃ x, g.s.ers[m]? = some x := ⟨_, List.getElem?_eq_getElem (by rw [h.ok.ne]; exact hm3)⟩
    have HX := hide hx
    have HFt := hide (fun (w' : World) => fetch_any e g.s.blk w' eok.b0 eok.b1 h.ok.fair.B1 h.ok.fair.B2 (by rw [heo]; exact htb.1) (by rw [heo]; exact htb.2))
    unfold erAgg at HFt
    clear hb hx het heo htb htm
    go_enter Tryz.func20, Tryz.ntmps20
    go_wp2_with fail
    refine HM.mono ?_
    rintro r w1 ⟨rfl, rfl⟩
    go_wp2_with fail
    refine HN.mono ?_
    rintro r w1 ⟨rfl, hE1⟩
    have hX := Ext.trans' hE0 hE1
    have hP1 := h.ext hX
    have hB1 := hB0.ext hE1
    have cb1 := ext_cell hX cb
    have hql1 := hP1.blk.lt
    have hf1 := hP1.blk.frozen
    have x0 : w1.cell? ⟨q, 17 + m * 4, none⟩ = some (.int .i64 x.path) := hP1.cEr m 0 x HX.out (by omega)
    have x1 : w1.cell? ⟨q, 17 + m * 4 + 1, none⟩ = some (.int .i64 x.tag) := by rw [Nat.add_assoc]; exact hP1.cEr m 1 x HX.out (by omega)
    have x2 : w1.cell? ⟨q, 17 + m * 4 + 2, none⟩ = some (.int .i64 x.tot) := by rw [Nat.add_assoc]; exact hP1.cEr m 2 x HX.out (by omega)
    have x3 : w1.cell? ⟨q, 17 + m * 4 + 3, none⟩ = some (.int .i64 x.blk) := by rw [Nat.add_assoc]; exact hP1.cEr m 3 x HX.out (by omega)
    clear cb hE1 hE0 h0 HN HM
    go_wp2_with fail
    go_region
    go_wp2_with fail
    have hsb := hP1.setBusy m hm3 true
    have hse := hsb.1.setEr m x e HX.out ⟨eok.p0, eok.p1, eok.b0, eok.b1⟩
    have hW : (((((w1.setCell ⟨q, 14 + m, none⟩ (.bool true)).setCell ⟨q, 17 + m * 4, none⟩ (.int .i64 e.path)).setCell ⟨q, 17 + m * 4 + 1, none⟩ (.int .i64 e.tag)).setCell ⟨q, 17 + m * 4 + 2, none⟩ (.int .i64 e.tot)).setCell ⟨q, 17 + m * 4 + 3, none⟩ (.int .i64 e.blk)).heap.size = w1.heap.size := by simp [World.setCell]
    have hBe := Blk.new (((((w1.setCell ⟨q, 14 + m, none⟩ (.bool true)).setCell ⟨q, 17 + m * 4, none⟩ (.int .i64 e.path)).setCell ⟨q, 17 + m * 4 + 1, none⟩ (.int .i64 e.tag)).setCell ⟨q, 17 + m * 4 + 2, none⟩ (.int .i64 e.tot)).setCell ⟨q, 17 + m * 4 + 3, none⟩ (.int .i64 e.blk)) 94 #[.int .i64 e.path, .int .i64 e.tag, .int .i64 e.tot, .int .i64 e.blk]
    rw [hW] at hBe
    have hEn := Ext.new (((((w1.setCell ⟨q, 14 + m, none⟩ (.bool true)).setCell ⟨q, 17 + m * 4, none⟩ (.int .i64 e.path)).setCell ⟨q, 17 + m * 4 + 1, none⟩ (.int .i64 e.tag)).setCell ⟨q, 17 + m * 4 + 2, none⟩ (.int .i64 e.tot)).setCell ⟨q, 17 + m * 4 + 3, none⟩ (.int .i64 e.blk)) (.cells #[.int .i64 e.path, .int .i64 e.tag, .int .i64 e.tot, .int .i64 e.blk] 94)
    have hP6 := (hse.1.ext hEn).ext (Below.drew (Below.refl _ _))
    have hM6 := ((hsb.2.trans hse.2).ext hEn).ext (Below.drew (Below.refl _ _))
    have hBe6 := hBe.ext (Below.drew (Below.refl _ _))
    have hnf : ¬ PFoot q g w.heap.size := fun hx => by have := h.lt _ hx; omega
    have hB6 := (hB1.pmk hnf hM6).1
    clear hsb hse hEn hBe
    generalize ((((((w1.setCell ⟨q, 14 + m, none⟩ (.bool true)).setCell ⟨q, 17 + m * 4, none⟩ (.int .i64 e.path)).setCell ⟨q, 17 + m * 4 + 1, none⟩ (.int .i64 e.tag)).setCell ⟨q, 17 + m * 4 + 2, none⟩ (.int .i64 e.tot)).setCell ⟨q, 17 + m * 4 + 3, none⟩ (.int .i64 e.blk)).alloc (.cells #[.int .i64 e.path, .int .i64 e.tag, .int .i64 e.tot, .int .i64 e.blk] 94)).drew = w6 at *
    have m1 : w6.cell? ⟨q, 1, none⟩ = some (.int .i64 g.s.blk) := hP6.cSet 1 (by omega)
    have e0 : w6.cell? ⟨w1.heap.size, 0, none⟩ = some (.int .i64 e.path) := hBe6.cell 0
    have e1 : w6.cell? ⟨w1.heap.size, 1, none⟩ = some (.int .i64 e.tag) := hBe6.cell 1
    have e2 : w6.cell? ⟨w1.heap.size, 2, none⟩ = some (.int .i64 e.tot) := hBe6.cell 2
    have e3 : w6.cell? ⟨w1.heap.size, 3, none⟩ = some (.int .i64 e.blk) := hBe6.cell 3
    clear x0 x1 x2 x3 cb1 hf1 hB1 hW
    go_region_with (go_at_call 49; refine (HFt.out _).mono ?_; rintro r w7 ⟨rfl, hE7⟩; unfold fetAgg; have hB7 := hB6.ext hE7.undrew; have z0 : w7.cell? ⟨w.heap.size, 0, none⟩ = some (.int .i64 0) := hB7.cell 0; have z1 : w7.cell? ⟨w.heap.size, 1, none⟩ = some (.int .i64 0) := hB7.cell 1; have z2 : w7.cell? ⟨w.heap.size, 2, none⟩ = some (.int .i64 0) := hB7.cell 2; have z3 : w7.cell? ⟨w.heap.size, 3, none⟩ = some (.int .i64 0) := hB7.cell 3; have z4 : w7.cell? ⟨w.heap.size, 4, none⟩ = some (.int .i64 0) := hB7.cell 4; have zf := hB7.frozen)
    all_goals go_wp2_with fail
    all_goals refine bodyPost_ret (v := .tuple #[fetV (fetchE g.s.blk e), .bool true, .int .i64 0]) (by simp [results, Tryz.results20, go_sem, fetV, fetAgg, z0, z1, z2, z3, z4]) rfl ⟨by rw [HA.out.1], ?_⟩
    all_goals rw [HA.out.2]
    all_goals
      have hE8 : Ext w7 w7 := Below.refl _ _
      have hP7 := hP6.ext hE7.undrew
      have hM7 := (PMvs.of_ext hX).trans (hM6.ext hE7.undrew)
      have hnf7 : ¬ PFoot q ⟨erS (busyS g.s m true) m e, g.v⟩ w.heap.size := hnf
      exact ⟨g.v, hP7.chg (box5 _ _ _ _ _ _ _) (fun b hb hx => hnf7 (hx ▸ hb)), hM7.chg.trans' ((box5 _ _ _ _ _ _ _).mono (fun b _ hb => Or.inr (by omega))), hM7.foot⟩

theorem NextP_any (q : Nat) (m : Int) (g : Pg) (w : World) (h : PgAt w q g) :
    Calls Tryz.prog 20 #[.pointer (some ⟨q, 0, none⟩), .int .i64 m] w fun r w' => r = .returned (.tuple #[fetV (nextA g.s m).1, .bool (nextA g.s m).2.1, .int .i64 (nextA g.s m).2.2]) ∧ PTo w w' q g (nextS g.s m) := by
  cases hI : hasM g.s m
  · rw [(nextA_no hI).1, (nextA_no hI).2]
    refine (NextP_no q m g w h hI).mono ?_
    rintro e w' ⟨rfl, hE⟩
    exact ⟨rfl, PTo.ext h hE⟩
  · obtain ⟨k, rfl, hk⟩ := hasM_yes hI
    have hk3 := h.mir3 hI
    obtain ⟨b, hb⟩ : ∃ b, g.s.busy[k]? = some b := ⟨_, List.getElem?_eq_getElem (by rw [h.ok.nb]; exact hk3)⟩
    cases b
    · exact NextP_free q k g w h hI hb
    · rw [(nextA_busy hI hb).1, (nextA_busy hI hb).2]
      refine (NextP_busy q k g w h hI hb).mono ?_
      rintro e w' ⟨rfl, hE⟩
      exact ⟨rfl, PTo.ext h hE⟩
end Go.Proofs.YtjhihliciadipabGreat
