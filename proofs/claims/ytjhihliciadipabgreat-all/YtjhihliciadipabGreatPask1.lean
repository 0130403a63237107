import Derived.Test.YtjhihliciadipabGreatPread
import Derived.Test.YtjhihliciadipabGreatPfail
import Derived.Test.YtjhihliciadipabGreatPlook
import Derived.Deep.DrawnRows
set_option linter.unusedVariables false
set_option linter.unusedSimpArgs false
set_option linter.unnecessarySimpa false
namespace Go.Proofs.YtjhihliciadipabGreat
open Go.RowKit

theorem infoTransfer : (Tryz.prog.info? 109).map (fun i => (i.zero, i.size, i.bytes)) = some (some (.agg #[.int .i64 0, .int .i64 0, .int .i64 0, .int .i64 0, .bool false, .bool false, .bool false, .int .i64 0, .int .i64 0, .int .i64 0, .int .i64 0, .int .i64 0, .int .i64 0, .int .i64 0, .string ByteArray.empty, .string ByteArray.empty, .string ByteArray.empty, .string ByteArray.empty]), 18, 160) := by kernel_rfl
def trL (t : Tr) : List Value :=
  [.int .i64 t.path, .int .i64 t.kind, .int .i64 t.fst, .int .i64 t.lst, .bool t.bound, .bool t.shown, .bool t.lost, .int .i64 t.hd.st, .int .i64 t.hd.tag, .int .i64 t.hd.tot, .int .i64 t.hd.frm, .int .i64 t.hd.len,
    .int .i64 t.taken, .int .i64 t.fails, .string (t.held.getD 0 ByteArray.empty), .string (t.held.getD 1 ByteArray.empty), .string (t.held.getD 2 ByteArray.empty), .string (t.held.getD 3 ByteArray.empty)]
theorem trV_trL {t : Tr} (h : t.held.length = 4) : trV t = trL t := by
  obtain ⟨a, b, c, d, hh⟩ := held4 h
  simp [trV, trL, hh]
theorem trL_one (t : Tr) : ∀ u ∈ trL t, u.oneCell' = true := by
  intro u hu; simp [trL] at hu
  rcases hu with rfl | rfl | rfl | rfl | rfl | rfl | rfl | rfl | rfl | rfl | rfl | rfl | rfl | rfl | rfl | rfl | rfl | rfl <;> rfl

def askA (n : Nat) (path : Int) : Int × Int := if path < 0 ∨ 4 ≤ path then (0, 2) else if n = 8 then (0, 3) else (n, 0)
def askS (s : Px) (path : Int) (r : ByteArray) : Px := if path < 0 ∨ 4 ≤ path then s else if s.trs.length = 8 then s else plookS { s with trs := s.trs ++ [askT path (readP r) (s.lat.getD path.toNat (0, 0))] }

def rawT (path : Int) (r : Int × Int × Int) : Tr := ⟨path, r.1, r.2.1, r.2.2, false, false, false, ⟨0, 0, 0, 0, 0⟩, 0, 0, noBytes⟩
theorem rawT_ok {path : Int} {r : Int × Int × Int} (h0 : 0 ≤ path) (h4 : path < 4) (hr : 0 ≤ r.2.1 ∧ r.2.1 ≤ 999999 ∧ 0 ≤ r.2.2 ∧ r.2.2 ≤ 999999) : TrOk (rawT path r) :=
  ⟨h0, h4, hr.1, hr.2.1, hr.2.2.1, hr.2.2.2, rfl, fun b hb => by simp [rawT, noBytes] at hb; subst hb; simp, by simp [rawT], by simp [rawT], by simp [rawT], by simp [rawT], by simp [rawT], by simp [rawT], by simp [rawT], fun _ => by simp [rawT], fun _ => by simp [rawT], fun _ _ => by simp [rawT], by simp [rawT], by simp [rawT]⟩
theorem askT_eq (path : Int) (r : Int × Int × Int) (v : Int × Int) : askT path r v = if v.1 = 0 then rawT path r else bindT (rawT path r) v := rfl

theorem PgAt.add {w w1 : World} {q : Nat} {g : Pg} (h : PgAt w q g) (hc : Chg (fun x => g.v.t.ownBlock = some x) w w1) (v : Value) (t : Tr) (hn8 : g.s.trs.length < 8) (ok : TrOk t)
    (ho : w1.ownsRow 0 109 18 v (g.s.trs.length + 1) ((g.s.trs.map trV).flatten ++ trL t)) (hv : ∀ b, v.ownBlock = some b → g.v.t.ownBlock = some b ∨ w.heap.size ≤ b) :
    PgAt (w1.setCell ⟨q, 13, none⟩ v) q ⟨{ g.s with trs := g.s.trs ++ [t] }, ⟨v, g.v.c⟩⟩ ∧ PMvs w (w1.setCell ⟨q, 13, none⟩ v) q g ⟨{ g.s with trs := g.s.trs ++ [t] }, ⟨v, g.v.c⟩⟩ := by
  have hB1 := h.blk.chg hc h.np
  have hnp : v.ownBlock ≠ some q := fun e => by
    rcases hv q e with h1 | h1
    · exact h.np h1
    · have := h.blk.lt; omega
  have hC : Chg (fun b => b = q) w1 (w1.setCell ⟨q, 13, none⟩ v) := Chg.setCell (S := fun b => b = q) (Chg.refl _ _) (p := ⟨q, 13, none⟩) (Or.inl rfl) _
  have hrow : (pgV g).set 13 v = pgV ⟨{ g.s with trs := g.s.trs ++ [t] }, ⟨v, g.v.c⟩⟩ := by
    have hs : (setV g.s).length = 5 := rfl
    unfold pgV
    rw [List.set_append_right _ _ (by omega), hs, List.set_append_right _ _ (by rw [lat_len h.ok.nl]; omega), lat_len h.ok.nl]
    rfl
  refine ⟨⟨⟨?_, ?_, ?_, hnp, h.nc, ?_, ?_⟩, ⟨h.cok.c1, h.cok.cu⟩⟩, ?_, ?_⟩
  · have := hB1.set 13 v
    rw [List.setIfInBounds_toArray, hrow] at this
    exact this
  · have := own_chg ho hC (fun k hk e => hnp (e ▸ hk))
    rw [← trV_trL ok.hl] at this
    simpa using this
  · exact own_chg (own_chg h.cs hc (fun k hk e => h.nt k e hk)) hC (fun k hk e => h.nc (e ▸ hk))
  · intro b hb hx
    rcases hv b hb with h1 | h1
    · exact h.nt b h1 hx
    · have := h.lt b (Or.inr (Or.inr hx)); omega
  · exact h.ok.withTrs (by simp; omega) (fun x hx => by
      simp at hx
      rcases hx with hx | rfl
      · exact h.ok.ts x hx
      · exact ok)
  · exact (hc.mono (fun b _ hb => Or.inr (Or.inl hb))).trans' (hC.mono (fun b _ hb => Or.inl (Or.inl hb)))
  · rintro b (rfl | hb | hb)
    · exact Or.inl (Or.inl rfl)
    · rcases hv b hb with h1 | h1
      · exact Or.inl (Or.inr (Or.inl h1))
      · exact Or.inr h1
    · exact Or.inl (Or.inr (Or.inr hb))

set_option maxHeartbeats 1000000 in
theorem AskP_no (q : Nat) (path : Int) (r : ByteArray) (w : World) (hp : path < 0 ∨ 4 ≤ path) :
    Calls Tryz.prog 18 #[.pointer (some ⟨q, 0, none⟩), .int .i64 path, .string r] w fun e w' => e = .returned (.tuple #[.int .i64 0, .int .i64 2]) ∧ w' = w := by
  have HP := hide hp
  clear hp
  by_cases h0 : path < 0
  · go_enter Tryz.func18, Tryz.ntmps18
    go_wp2_with fail
    go_ret2
    exact ⟨rfl, rfl⟩
  · have h1 : 4 ≤ path := by rcases HP.out with h | h; exact absurd h h0; exact h
    go_enter Tryz.func18, Tryz.ntmps18
    go_wp2_with fail
    go_ret2
    exact ⟨rfl, rfl⟩

set_option maxHeartbeats 1000000 in
theorem AskP_full (q : Nat) (g : Pg) (path : Int) (r : ByteArray) (w : World) (h : PgAt w q g) (hp0 : 0 ≤ path) (hp4 : path < 4) (h8 : g.s.trs.length = 8) :
    Calls Tryz.prog 18 #[.pointer (some ⟨q, 0, none⟩), .int .i64 path, .string r] w fun e w' => e = .returned (.tuple #[.int .i64 0, .int .i64 3]) ∧ w' = w := by
  have hvT : w.cell? ⟨q, 13, none⟩ = some g.v.t := h.cV
  obtain ⟨aT, capT, hT, -⟩ := own_form h.ts
  rw [hT, h8] at hvT
  clear h hT h8
  go_enter Tryz.func18, Tryz.ntmps18
  go_wp2_with fail
  go_ret2
  exact ⟨rfl, rfl⟩

theorem TrAt.ofBlk {w : World} {b : Nat} {T : TypeId} {t : Tr} (h : Blk w b T (trL t).toArray) (hl : t.held.length = 4) : TrAt w b 0 t :=
  ⟨⟨T, _, h, fun r hr => by rw [Nat.zero_add, List.getElem?_toArray, trV_trL hl]⟩, hl⟩
end Go.Proofs.YtjhihliciadipabGreat

namespace Go.Proofs.YtjhihliciadipabGreat
open Go.RowKit

def dropSeq : Nat → Code → Code
  | 0, c => c
  | n + 1, .seq _ b => dropSeq n b
  | _, c => c
noncomputable def askCode (n : Nat) : Code := dropSeq n (Tryz.f18.body.getD .skip)

attribute [local go_sem ↓] Go.wp_at_zero Go.wp_at_succ
set_option maxRecDepth 100000 in
set_option maxHeartbeats 4000000 in
theorem AskP_rest (q : Nat) (g : Pg) (path : Int) (r : ByteArray) (w w5 : World) (x : Nat) (T : Tr) (hn8 : g.s.trs.length < 8) (hT5 : TrAt w5 x 0 T) (hTok : TrOk T) (hP5 : PgAt w5 q g) (hX5 : Ext w w5)
    (u3 u4 u5 u10 u11 u12 u13 u14 u15 u16 u17 u18 u19 u20 u21 u22 u23 u24 u25 u26 u27 u28 u29 u30 u31 u32 u33 u34 u35 u36 u37 u38 u39 u40 u41 u42 u43 u44 u45 u46 u47 u48 u49 u50 u51 u52 u53 u54 : Value) :
    Code.wp Tryz.prog (askCode 6) (bodyPost Tryz.prog Tryz.f18 fun e w' => e = .returned (.tuple #[.int .i64 g.s.trs.length, .int .i64 0]) ∧ PTo w w' q g (plookS { g.s with trs := g.s.trs ++ [T] })) ⟨#[.pointer (some ⟨q, 0, none⟩), .int .i64 path, .string r, u3, u4, u5, .int .i64 0, .int .i64 0, .int .i64 g.s.trs.length, .pointer (some ⟨x, 0, none⟩), u10, u11, u12, u13, u14, u15, u16, u17, u18, u19, u20, u21, u22, u23, u24, u25, u26, u27, u28, u29, u30, u31, u32, u33, u34, u35, u36, u37, u38, u39, u40, u41, u42, u43, u44, u45, u46, u47, u48, u49, u50, u51, u52, u53, u54], []⟩ w5 := by
  have hn8' : (g.s.trs.length : Int) < 8 := by omega
  obtain ⟨aT, capT, hT, -⟩ := own_form hP5.ts
  conv => arg 2; whnf
  have c13 : w5.cell? ⟨q, 13, none⟩ = some (.slice aT g.s.trs.length capT) := by rw [← hT]; exact hP5.cV
  have x0 : w5.cell? ⟨x, 0, none⟩ = some (.int .i64 T.path) := hT5.c 0
  have x1 : w5.cell? ⟨x, 1, none⟩ = some (.int .i64 T.kind) := hT5.c 1
  have x2 : w5.cell? ⟨x, 2, none⟩ = some (.int .i64 T.fst) := hT5.c 2
  have x3 : w5.cell? ⟨x, 3, none⟩ = some (.int .i64 T.lst) := hT5.c 3
  have x4 : w5.cell? ⟨x, 4, none⟩ = some (.bool T.bound) := hT5.c 4
  have x5 : w5.cell? ⟨x, 5, none⟩ = some (.bool T.shown) := hT5.c 5
  have x6 : w5.cell? ⟨x, 6, none⟩ = some (.bool T.lost) := hT5.c 6
  have x7 : w5.cell? ⟨x, 7, none⟩ = some (.int .i64 T.hd.st) := hT5.c 7
  have x8 : w5.cell? ⟨x, 8, none⟩ = some (.int .i64 T.hd.tag) := hT5.c 8
  have x9 : w5.cell? ⟨x, 9, none⟩ = some (.int .i64 T.hd.tot) := hT5.c 9
  have x10 : w5.cell? ⟨x, 10, none⟩ = some (.int .i64 T.hd.frm) := hT5.c 10
  have x11 : w5.cell? ⟨x, 11, none⟩ = some (.int .i64 T.hd.len) := hT5.c 11
  have x12 : w5.cell? ⟨x, 12, none⟩ = some (.int .i64 T.taken) := hT5.c 12
  have x13 : w5.cell? ⟨x, 13, none⟩ = some (.int .i64 T.fails) := hT5.c 13
  have x14 : w5.cell? ⟨x, 14, none⟩ = some (.string (T.held.getD 0 ByteArray.empty)) := hT5.ch 0 (by omega)
  have x15 : w5.cell? ⟨x, 15, none⟩ = some (.string (T.held.getD 1 ByteArray.empty)) := hT5.ch 1 (by omega)
  have x16 : w5.cell? ⟨x, 16, none⟩ = some (.string (T.held.getD 2 ByteArray.empty)) := hT5.ch 2 (by omega)
  have x17 : w5.cell? ⟨x, 17, none⟩ = some (.string (T.held.getD 3 ByteArray.empty)) := hT5.ch 3 (by omega)
  have hxl := hT5.lt
  have hfp := hP5.blk.frozen
  have hpl := hP5.blk.lt
  have hots := hP5.ts
  rw [hT] at hots
  have hBp := hP5.blk
  have hnpT : (Value.slice aT g.s.trs.length capT).ownBlock ≠ some q := by rw [← hT]; exact hP5.np
  have H5 := hide hP5
  have HXX := hide hX5
  have HTok := hide hTok
  have HTT := hide hT
  clear hP5 hX5 hT5 hTok hT
  go_wp2_with fail
  go_cut [49] (fun a wx => True ∧ PTo w wx q g { g.s with trs := g.s.trs ++ [T] })
  case first =>
    go_region_law (
      refine step_app Tryz.underlying91 infoTransfer rfl (by decide) (by decide) rfl _ _ rfl (by rfl) (own_ext hots (Below.drew (Ext.new _ _))) (trL T) rfl rfl (news_new _ _ _) (trL_one _) (by omega) (Nat.zero_le _) ?_
      intro v6 w6 ho6 hg6 hw6
      have hB6 : Blk w6 q 97 _ := (hBp.ext (Below.drew (Ext.new _ _))).grown hg6 hnpT
      have c6 : w6.cell? ⟨q, 13, none⟩ = some g.v.t := (by rw [hB6.cell, ← hBp.cell]; exact H5.out.cV)
      rw [HTT.out] at c6
      have f6 := hB6.frozen 13
      obtain ⟨a6, cap6, rfl, hgx⟩ := own_form ho6
      clear hgx)
    all_goals
      go_wp2_with fail
      go_meet
      have hnew := H5.out.add (w1 := w6) ((Chg.of_ext (Below.drew (Ext.new _ _))).trans (Chg.of_grown hg6 (fun x hx => by rw [HTT.out]; exact hx))) (.slice a6 (g.s.trs.length + 1) cap6) T hn8 HTok.out ho6
        (fun x hx => by
          rcases hw6 with h1 | h1
          · exact Or.inl (by rw [HTT.out]; exact h1.symm.trans hx)
          · right; rw [h1] at hx; simp at hx; omega)
      exact ⟨trivial, _, hnew.1, (PMvs.of_ext HXX.out).trans hnew.2⟩
  case rest =>
    obtain ⟨-, v6, hP6, hM6⟩ := hcut
    clear x0 x1 x2 x3 x4 x5 x6 x7 x8 x9 x10 x11 x12 x13 x14 x15 x16 x17 c13 hfp hots hBp H5
    go_wp2_with fail
    refine (plook_any q _ _ hP6).mono ?_
    rintro e w7 ⟨rfl, hP7⟩
    go_wp2_with fail
    go_ret2
    exact ⟨rfl, PTo.trans hM6 hP7⟩
end Go.Proofs.YtjhihliciadipabGreat
