import Derived.Test.YtjhihliciadipabGreatOver
set_option linter.unusedVariables false
set_option linter.unusedSimpArgs false
set_option linter.unnecessarySimpa false
namespace Go.Proofs.YtjhihliciadipabGreat
open Go.RowKit

def newsHit (path tag tot : Int) (m : Mv) : Bool := m.path == path && !m.lost && !(m.tag == tag && m.tot == tot) && (m.tag == 0 || !m.shown)
def newsT (path tag tot : Int) (m : Mv) : Mv := if newsHit path tag tot m = true then { m with tag := tag, tot := tot, has := [], fails := 0 } else m
def newsL (s : Pr) (path : Nat) (tag tot : Int) : Pr := { s with latest := s.latest.set path (tag, tot), ts := s.ts.map (newsT path tag tot) }

set_option maxRecDepth 100000 in
set_option maxHeartbeats 2000000 in
theorem news_any (p : Nat) (s : Pr) (L : Lay) (path : Nat) (tag tot : Int) (w : World) (h : PrAt w p s L) (hnts : s.ts.length ≤ 8) (hp4 : path < s.latest.length) (hl4 : s.latest.length = 4) :
    Calls Tryz.prog 57 #[.pointer (some ⟨p, 0, none⟩), .int .i64 path, .agg #[.int .i64 tag, .int .i64 tot]] w fun e w' => e = .returned (.tuple #[]) ∧ ∃ L', PrAt w' p (newsL s path tag tot) L' ∧ Mvs w w' p L L' := by
  have HF : Hid (newsL s path tag tot = { s with latest := s.latest.set path (tag, tot), ts := s.ts.map (newsT path tag tot) }) := rfl
  obtain ⟨aL, capL, hLf, hgL⟩ := own_form h.latest
  obtain ⟨gL, rfl⟩ := hgL (by omega)
  have hx : s.latest[path]? = some s.latest[path] := by simp [hp4]
  generalize s.latest[path] = lv at *
  have v7 : w.cell? ⟨p, 7, none⟩ = some (.slice (some ⟨gL, 0, none⟩) s.latest.length capL) := by rw [← hLf]; exact h.blk.cell 7
  have l0 : w.cell? ⟨gL, path * 2, none⟩ = some (.int .i64 lv.1) := h.cellL hx hLf 0 (by omega)
  have l1 : w.cell? ⟨gL, path * 2 + 1, none⟩ = some (.int .i64 lv.2) := h.cellL hx hLf 1 (by omega)
  have hfL : ∀ r, w.frozen? ⟨gL, r, none⟩ = false := by have h5 := h.latest; rw [hLf] at h5; exact fun r => h5.frozenAt r
  have hgl := World.block_lt_of_cell? w _ l0
  have hpl := h.blk.lt
  have hgp : gL ≠ p := fun e => h.np L.vL (by simp [Lay.vs]) (by rw [hLf, e]; rfl)
  have hpp : (path : Int) < s.latest.length := by omega
  obtain ⟨hP1, hM1⟩ := h.storeL hx hLf 0 (by omega) (.int .i64 tag) (tag, lv.2) rfl
  obtain ⟨hP2, hM2⟩ := hP1.storeL (c := path) (x := (tag, lv.2)) (by simp [hp4]) (by simpa using hLf) 1 (by omega) (.int .i64 tot) (tag, tot) rfl
  have HP2 := hide hP2
  have HM2 := hide (hM1.trans hM2)
  clear hP1 hM1 hP2 hM2 hgL
  go_enter Tryz.func57, Tryz.ntmps57
  go_wp2_with fail
  go_region
  go_wp2_with fail
  have hB0 : Blk (((w.setCell ⟨gL, path * 2, none⟩ (.int .i64 tag)).setCell ⟨gL, path * 2 + 1, none⟩ (.int .i64 tot)).alloc (.cells #[.int .i64 tag, .int .i64 tot] 115)) w.heap.size 115 #[.int .i64 tag, .int .i64 tot] := by
    have h1 := Blk.new ((w.setCell ⟨gL, path * 2, none⟩ (.int .i64 tag)).setCell ⟨gL, path * 2 + 1, none⟩ (.int .i64 tot)) 115 #[.int .i64 tag, .int .i64 tot]
    have h2 : ((w.setCell ⟨gL, path * 2, none⟩ (.int .i64 tag)).setCell ⟨gL, path * 2 + 1, none⟩ (.int .i64 tot)).heap.size = w.heap.size := by simp [World.setCell]
    rw [h2] at h1; exact h1
  clear v7 l0 l1 hfL
  go_loopw [6] (fun i wr => ∃ (n : Nat) (L1 : Lay), n ≤ s.ts.length ∧ i = .int .i64 n ∧ PrAt wr p { s with latest := s.latest.set path (tag, tot), ts := mapTo (newsT path tag tot) s.ts n } L1 ∧ Mvs w wr p L L1 ∧ L1.vT = L.vT ∧
    Blk wr w.heap.size 115 #[.int .i64 tag, .int .i64 tot] ∧ ¬ Foot p L1 w.heap.size) (fun i _ => s.ts.length - (intOf i).toNat)
  case atStart =>
    refine ⟨0, L, Nat.zero_le _, rfl, ?_, HM2.out.ext (Below.drew (Ext.new _ _)), rfl, hB0, fun hf => by have := h.lt _ hf; omega⟩
    rw [mapTo_zero]
    have := HP2.out.ext (Below.drew (Ext.new _ (.cells #[.int .i64 tag, .int .i64 tot] 115)))
    simp only [List.set_set] at this
    exact this
  case round =>
    obtain ⟨n, L1, hn, rfl, hP, hM, hvT0, hB, hNF⟩ := hrel
    have HNF := hide hNF
    clear hNF
    have b0 : wr.cell? ⟨w.heap.size, 0, none⟩ = some (.int .i64 tag) := hB.cell 0
    have b1 : wr.cell? ⟨w.heap.size, 1, none⟩ = some (.int .i64 tot) := hB.cell 1
    have hvT : wr.cell? ⟨p, 5, none⟩ = some L1.vT := hP.blk.cell 5
    have hml : (mapTo (newsT path tag tot) s.ts n).length = s.ts.length := mapTo_len _ _ _
    obtain ⟨aT, cap, hTf, hgT⟩ := own_form hP.ts
    simp only [hml] at hTf
    rw [hTf] at hvT
    by_cases hlt : n < s.ts.length
    · obtain ⟨g, rfl⟩ := hgT (show 0 < (mapTo (newsT path tag tot) s.ts n).length by omega)
      have ht : ({ s with latest := s.latest.set path (tag, tot), ts := mapTo (newsT path tag tot) s.ts n } : Pr).ts[n]? = some s.ts[n] := mapTo_get _ _ _ hlt
      have HSU : Hid (mapTo (newsT path tag tot) s.ts (n + 1) = (mapTo (newsT path tag tot) s.ts n).set n (newsT path tag tot s.ts[n])) := mapTo_succ _ _ _ hlt
      have HSA : Hid (newsT path tag tot s.ts[n] = s.ts[n] → mapTo (newsT path tag tot) s.ts (n + 1) = mapTo (newsT path tag tot) s.ts n) := mapTo_same _ _ _ hlt
      generalize s.ts[n] = t at *
      obtain ⟨hv, hh⟩ := hP.hv ht
      have hT : L1.vT = .slice (some ⟨g, 0, none⟩) ({ s with latest := s.latest.set path (tag, tot), ts := mapTo (newsT path tag tot) s.ts n } : Pr).ts.length cap := by rw [hTf]; simp only [hml]
      obtain ⟨hm, hha⟩ := hP.mv ht hh hT
      have r0 := hm.path
      have r4 := hm.tag
      have r5 : wr.cell? ⟨g, n * 12 + 4 + 1, none⟩ = some (.int .i64 t.tot) := hm.tot
      have r6 := hm.shown
      have r7 := hm.lost
      have HFT : Hid (newsT path tag tot t = if newsHit path tag tot t = true then { t with tag := tag, tot := tot, has := [], fails := 0 } else t) := rfl
      have HH : Hid (newsHit path tag tot t = (t.path == path && !t.lost && !(t.tag == tag && t.tot == tot) && (t.tag == 0 || !t.shown))) := rfl
      generalize hmt : mapTo (newsT path tag tot) s.ts n = mt at *
      clear hgT hmt
      go_wp2_with fail
      go_cut [65] (fun b wx => b = .bool (newsHit path tag tot t) ∧ ∃ nq, wx = wr.drewN nq)
      case first =>
        cases hlo : t.lost
        all_goals cases hsh : t.shown
        all_goals rw [hlo] at r7
        all_goals rw [hsh] at r6
        all_goals cases hpb : (t.path == (path : Int))
        all_goals cases hz : (t.tag == 0)
        all_goals by_cases ht1 : t.tag = tag
        all_goals by_cases ht2 : t.tot = tot
        all_goals
          have HHv : Hid (newsHit path tag tot t = (t.path == path && !t.lost && !(decide (t.tag = tag) && decide (t.tot = tot)) && (t.tag == 0 || !t.shown))) := HH.out
          rw [hlo, hsh, hpb, hz] at HHv
          simp only [ht1, ht2] at HHv
          first
            | (have e1 : (t.tag = tag) = True := eq_true ht1)
            | (have e1 : (t.tag = tag) = False := eq_false ht1)
          first
            | (have e2 : (t.tot = tot) = True := eq_true ht2)
            | (have e2 : (t.tot = tot) = False := eq_false ht2)
          clear ht1 ht2 HH
          go_quiet (fail)
          go_wp2_with fail
          go_meet
          exact ⟨by rw [HHv.out]; rfl, _, rfl⟩
      case rest =>
        obtain ⟨rfl, nq, rfl⟩ := hcut
        have hPd := hP.drewN nq
        have hMd := hM.drewN nq
        have hBd := hB.ext (Ext.drewN (Below.refl _ _) nq)
        have r10 := hm.fails
        have r11 := hha.c
        have hfz : ∀ r, wr.frozen? ⟨g, r, none⟩ = false := by have h5 := hP.ts; rw [hT] at h5; exact fun r => h5.frozenAt r
        have hbl := hB.lt
        have hnm : n < mt.length := by omega
        have hhl : n < L1.hs.length := (List.getElem?_eq_some_iff.1 hh).1
        clear r0 r6 r7 hvT hP hM hB hm hha HH
        cases hhit : newsHit path tag tot t
        · have HS2 := hide (HSA.out (by rw [HFT.out, hhit]; rfl))
          clear r4 r5 r10 r11 hfz
          go_wp2_with fail
          exact ⟨⟨n + 1, L1, by omega, by go_num, by rw [HS2.out]; exact hPd, hMd, hvT0, hBd, HNF.out⟩, by simp [intOf]; omega⟩
        · have HF2 : Hid (newsT path tag tot t = { t with tag := tag, tot := tot, has := [], fails := 0 }) := by show _ = _; rw [HFT.out, hhit]; rfl
          obtain ⟨q1, m1⟩ := hPd.store (i := n) (m := t) (hv := hv) (by simpa using ht) hh (by simpa using hT) 4 (by omega) (.int .i64 tag) { t with tag := tag } rfl rfl
          obtain ⟨q2, m2⟩ := q1.store (i := n) (m := { t with tag := tag }) (hv := hv) (by simp [hnm]) hh (by simpa using hT) 5 (by omega) (.int .i64 tot) { t with tag := tag, tot := tot } rfl rfl
          obtain ⟨q3, m3⟩ := q2.letGo (i := n) (m := { t with tag := tag, tot := tot }) (hv := hv) (by simp [hnm]) hh (by simpa using hT)
          obtain ⟨q4, m4⟩ := q3.store (i := n) (m := { t with tag := tag, tot := tot, has := [] }) (hv := .slice none 0 0) (by simp [hnm]) (by simp [hhl]) (by simpa using hT) 10 (by omega) (.int .i64 0) { t with tag := tag, tot := tot, has := [], fails := 0 } rfl rfl
          have HQ4 := hide q4
          have HM4 := hide (((m1.trans m2).trans m3).trans m4)
          have hB4 := hBd.chg HM4.out.chg HNF.out
          clear q1 m1 q2 m2 q3 m3 q4 m4
          go_wp2_with fail
          refine (bind_any g (n * 12) _ _ _ _ tag tot (wr.drewN nq) r4 r5 r11 r10 hfz).mono ?_
          rintro e w5 ⟨rfl, rfl⟩
          go_wp2_with fail
          refine ⟨⟨n + 1, _, by omega, by go_num, ?_, (hMd.trans HM4.out).ext (Ext.new _ _), hvT0, hB4.ext (Ext.new _ _), fun hf => ?_⟩, by simp [intOf]; omega⟩
          · rw [HSU.out, HF2.out]
            have := HQ4.out.ext (Ext.new _ (.cells #[.int .i64 tag, .int .i64 tot] 115))
            simp only [List.set_set] at this
            exact this
          · rcases HM4.out.foot _ hf with h1 | h1
            · exact HNF.out h1
            · have h2 : (wr.drewN nq).heap.size = wr.heap.size := rfl
              omega
    · clear hgT b0 b1
      go_wp2_with fail
      go_end0
      have hnn : mapTo (newsT path tag tot) s.ts n = s.ts.map (newsT path tag tot) := mapTo_all _ _ _ (by omega)
      rw [hnn] at hP
      exact ⟨rfl, L1, by rw [HF.out]; exact hP, hM⟩
end Go.Proofs.YtjhihliciadipabGreat
