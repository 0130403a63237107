import Derived.Test.YtjhihliciadipabGreatOver
import Derived.Test.YtjhihliciadipabGreatKeep
set_option linter.unusedVariables false
set_option linter.unusedSimpArgs false
set_option linter.unnecessarySimpa false
namespace Go.Proofs.YtjhihliciadipabGreat
open Go.RowKit

/-- A transfer is given a block. -/
theorem PrAt.given {w w1 : World} {p : Nat} {s : Pr} {L : Lay} (h : PrAt w p s L) {i : Nat} {t : Mv} {hv hv' : Value} (ht : s.ts[i]? = some t) (hh : L.hs[i]? = some hv)
    {g cap : Nat} (hT : L.vT = .slice (some ⟨g, 0, none⟩) s.ts.length cap) {arr : Array Value} (harr : Blk w g 118 arr)
    (hB : Blk w1 g 118 (arr.setIfInBounds (i * 12 + 11) hv')) (has' : List ByteArray) (hown : w1.ownsRow 0 9 1 hv' has'.length (has'.map .string))
    (hc : Chg (fun x => x = g ∨ hv.ownBlock = some x) w w1) (hor : ∀ x, hv'.ownBlock = some x → hv.ownBlock = some x ∨ w.heap.size ≤ x) :
    PrAt w1 p { s with ts := s.ts.set i { t with has := has' } } { L with hs := L.hs.set i hv' } ∧ Mvs w w1 p L { L with hs := L.hs.set i hv' } :=
  h.upd ht hh hT 11 (by omega) hv' { t with has := has' } hv' rfl hc (fun arr2 hB2 => by
    have : arr2 = arr := by unfold Blk at hB2 harr; rw [harr] at hB2; simpa using hB2.symm
    subst this; exact hB) hown hor

def delT (B W : Int) (j : Jb) (body : ByteArray) (m : Mv) : Mv :=
  if wantingL B W m j = true then { m with has := giveL m.has j.k.toNat body, fails := 0 } else m
def delTs (s : Pr) (j : Jb) (body : ByteArray) : Pr := { s with ts := s.ts.map (delT s.blk s.win j body) }
def deliverL (s : Pr) (j : Jb) (body : ByteArray) : Pr := if body.toList.isEmpty = true then s else keepL (delTs s j body) j body
theorem delT_ok (B W : Int) (j : Jb) (body : ByteArray) (m : Mv) (hk : j.k ≤ 100000) (hb : body.size ≤ 16) (h : MvOk m) : MvOk (delT B W j body m) := by
  unfold delT
  split
  · exact ⟨h.sp, h.t0, h.t1, h.k0, h.k1, giveL_len _ _ _ (by omega) h.hl, giveL_small _ _ _ h.hb hb⟩
  · exact h
theorem delTs_inv (s : Pr) (j : Jb) (body : ByteArray) (C : Int) (hk : j.k ≤ 100000) (hb : body.size ≤ 16) (h : Inv s C) : Inv (delTs s j body) C :=
  ⟨⟨h.fair.m1, h.fair.m2, h.fair.B1, h.fair.B2, h.fair.W1, h.fair.W2, h.fair.c1, h.fair.c2, h.fair.t1, h.fair.t2⟩, by simpa [delTs] using h.nts, fun m hm => by
    unfold delTs at hm; rw [List.mem_map] at hm; obtain ⟨x, hx, rfl⟩ := hm; exact delT_ok _ _ _ _ _ hk hb (h.ts x hx), h.cache, h.nc, h.c0, h.c1⟩

set_option maxRecDepth 100000 in
set_option maxHeartbeats 2000000 in
theorem delivers_any (p : Nat) (s : Pr) (L : Lay) (C : Int) (j : Jb) (body : ByteArray) (w : World) (h : PrAt w p s L) (inv : Inv s C) (hC : C ≤ 50000000000000000) (hj0 : 0 ≤ j.k) (hj1 : j.k ≤ 100000) (hb1 : body.size ≤ 16) :
    Calls Tryz.prog 58 #[.pointer (some ⟨p, 0, none⟩), jobAgg j, .string body] w fun e w' => e = .returned (.tuple #[]) ∧ ∃ L', PrAt w' p (deliverL s j body) L' ∧ Mvs w w' p L L' := by
  unfold jobAgg
  have hnts := inv.nts
  have hE0 : Ext w (w.alloc (.cells #[.bool j.on, .int .i64 j.path, .int .i64 j.tag, .int .i64 j.tot, .int .i64 j.k] 124)) := Ext.new w _
  have hBj : Blk (w.alloc (.cells #[.bool j.on, .int .i64 j.path, .int .i64 j.tag, .int .i64 j.tot, .int .i64 j.k] 124)) w.heap.size 124 #[.bool j.on, .int .i64 j.path, .int .i64 j.tag, .int .i64 j.tot, .int .i64 j.k] := Blk.new w _ _
  cases hem : body.toList.isEmpty
  case true =>
    have HF : Hid (deliverL s j body = s) := if_pos hem
    go_enter Tryz.func58, Tryz.ntmps58
    go_wp2_with fail
    refine bodyPost_ret (v := .tuple #[]) (by simp [results, Tryz.results58, go_sem]) rfl ⟨rfl, L, by rw [HF.out]; exact h.ext hE0, Mvs.of_ext hE0⟩
  have hb0 : 1 ≤ body.size := by
    rcases Nat.eq_zero_or_pos body.size with h0 | h0
    · have : body = ByteArray.empty := by
        cases body with | mk d => cases d with | mk l => cases l with
          | nil => rfl
          | cons a l => simp [ByteArray.size] at h0
      rw [this, ByteArray.toList_eq] at hem; exact absurd hem (by decide)
    · exact h0
  have HF : Hid (deliverL s j body = keepL (delTs s j body) j body) := if_neg (by rw [hem]; simp)
  go_enter Tryz.func58, Tryz.ntmps58
  go_wp2_with fail
  go_loopw [6] (fun i wr => ∃ (n : Nat) (L1 : Lay), n ≤ s.ts.length ∧ i = .int .i64 n ∧ LkAt wr p { s with ts := mapTo (delT s.blk s.win j body) s.ts n } L1 w L ∧
    Blk wr w.heap.size 124 #[.bool j.on, .int .i64 j.path, .int .i64 j.tag, .int .i64 j.tot, .int .i64 j.k] ∧ ¬ Foot p L1 w.heap.size) (fun i _ => s.ts.length - (intOf i).toNat)
  case atStart => exact ⟨0, L, Nat.zero_le _, rfl, ⟨by rw [mapTo_zero]; exact h.ext hE0, Mvs.of_ext hE0, rfl, rfl, rfl, rfl⟩, hBj, fun hf => by have := h.lt _ hf; omega⟩
  case round =>
    obtain ⟨n, L1, hn, rfl, hA, hB, hNF⟩ := hrel
    have HNF := hide hNF
    clear hNF
    have b0 : wr.cell? ⟨w.heap.size, 0, none⟩ = some (.bool j.on) := hB.cell 0
    have b1 : wr.cell? ⟨w.heap.size, 1, none⟩ = some (.int .i64 j.path) := hB.cell 1
    have b2 : wr.cell? ⟨w.heap.size, 2, none⟩ = some (.int .i64 j.tag) := hB.cell 2
    have b3 : wr.cell? ⟨w.heap.size, 3, none⟩ = some (.int .i64 j.tot) := hB.cell 3
    have b4 : wr.cell? ⟨w.heap.size, 4, none⟩ = some (.int .i64 j.k) := hB.cell 4
    have hvT : wr.cell? ⟨p, 5, none⟩ = some L1.vT := hA.at_.blk.cell 5
    have hml : (mapTo (delT s.blk s.win j body) s.ts n).length = s.ts.length := mapTo_len _ _ _
    obtain ⟨aT, cap, hTf, hgT⟩ := own_form hA.at_.ts
    simp only [hml] at hTf
    rw [hTf] at hvT
    by_cases hlt : n < s.ts.length
    · obtain ⟨g, rfl⟩ := hgT (show 0 < (mapTo (delT s.blk s.win j body) s.ts n).length by omega)
      have ht : ({ s with ts := mapTo (delT s.blk s.win j body) s.ts n } : Pr).ts[n]? = some s.ts[n] := mapTo_get _ _ _ hlt
      have hmem : s.ts[n] ∈ s.ts := List.getElem_mem hlt
      have HSU : Hid (mapTo (delT s.blk s.win j body) s.ts (n + 1) = (mapTo (delT s.blk s.win j body) s.ts n).set n (delT s.blk s.win j body s.ts[n])) := mapTo_succ _ _ _ hlt
      have HSA : Hid (delT s.blk s.win j body s.ts[n] = s.ts[n] → mapTo (delT s.blk s.win j body) s.ts (n + 1) = mapTo (delT s.blk s.win j body) s.ts n) := mapTo_same _ _ _ hlt
      generalize s.ts[n] = t at *
      obtain ⟨hv, hh⟩ := hA.at_.hv ht
      have hT : L1.vT = .slice (some ⟨g, 0, none⟩) ({ s with ts := mapTo (delT s.blk s.win j body) s.ts n } : Pr).ts.length cap := by rw [hTf]; simp only [hml]
      obtain ⟨hm, hha⟩ := hA.at_.mv ht hh hT
      have hok := inv.ts t hmem
      have hset : SetAt wr p s.blk s.win := hA.at_.set (s := { s with ts := mapTo (delT s.blk s.win j body) s.ts n }) ⟨inv.fair.m1, inv.fair.m2, inv.fair.B1, inv.fair.B2, inv.fair.W1, inv.fair.W2, inv.fair.c1, inv.fair.c2, inv.fair.t1, inv.fair.t2⟩
      have HFT : Hid (delT s.blk s.win j body t = if wantingL s.blk s.win t j = true then { t with has := giveL t.has j.k.toNat body, fails := 0 } else t) := rfl
      generalize hmt : mapTo (delT s.blk s.win j body) s.ts n = mt at *
      clear hgT hmt
      go_wp2_with fail
      refine (wanting_any p g (n * 12) s.blk s.win t hv j _ hm hok hset hha).mono ?_
      rintro e w1 ⟨rfl, hE1⟩
      have hA1 := hA.ext hE1
      have hB1 := hB.ext hE1
      clear hA hB b0 b1 b2 b3 b4 hvT hm hha hset hTf
      cases hwt : wantingL s.blk s.win t j
      · have hsame : delT s.blk s.win j body t = t := by rw [HFT.out, hwt]; rfl
        have HS2 := hide (HSA.out hsame)
        clear hsame
        go_wp2_with fail
        exact ⟨⟨n + 1, L1, by omega, by go_num, by rw [HS2.out]; exact hA1, hB1, HNF.out⟩, by simp [intOf]; omega⟩
      · obtain ⟨hm1, hha1⟩ := hA1.at_.mv ht hh hT
        have HF2 : Hid (delT s.blk s.win j body t = { t with has := giveL t.has j.k.toNat body, fails := 0 }) := by show _ = _; rw [HFT.out, hwt]; rfl
        have hnm : n < mt.length := by omega
        have hhl : n < L1.hs.length := (List.getElem?_eq_some_iff.1 hh).1
        have hNF1 := HNF.out
        have hbl := hB1.lt
        have b4 : w1.cell? ⟨w.heap.size, 4, none⟩ = some (.int .i64 j.k) := hB1.cell 4
        have hts4 := hA1.at_.ts
        rw [hT] at hts4
        obtain ⟨arr, hBa, -, -, -, -, -⟩ := own_blk hts4
        have hc11 : arr[n * 12 + 11]? = some hv := by rw [← hBa.cell]; exact hA1.at_.cellT ht hh hT 11 (by omega)
        have hne3 : hv.ownBlock ≠ some g := fun e => hA1.at_.sep (n + 4) 0 hv L1.vT g (by omega) (by simpa [Lay.vs] using hh) rfl e (by rw [hT]; rfl)
        clear hm1 hha1 hts4
        go_wp2_with fail
        refine (give_any g (n * 12) _ arr t.has hv j.k body _ hBa hc11 (hA1.at_.has n t hv ht hh) hne3 hj0 hj1 hok.hl).mono ?_
        rintro e w5 ⟨rfl, hv', hB5, hown5, hC5, hor5⟩
        obtain ⟨hP5, hM5⟩ := hA1.at_.given ht hh hT hBa hB5 _ hown5 hC5 hor5
        obtain ⟨hP6, hM6⟩ := hP5.store (i := n) (m := { t with has := giveL t.has j.k.toNat body }) (hv := hv') (by simp [hnm]) (by simp [hhl]) (by simpa using hT) 10 (by omega) (.int .i64 0) { t with has := giveL t.has j.k.toNat body, fails := 0 } rfl rfl
        have r10 : w5.cell? ⟨g, n * 12 + 10, none⟩ = some (.int .i64 t.fails) := hP5.cellT (i := n) (m := { t with has := giveL t.has j.k.toNat body }) (hv := hv') (by simp [hnm]) (by simp [hhl]) (by simpa using hT) 10 (by omega)
        have hfz : ∀ r, w5.frozen? ⟨g, r, none⟩ = false := fun r => hB5.frozen r
        have HP6 := hide hP6
        have HM6 := hide (hM5.trans hM6)
        have hB6 : Blk (w5.setCell ⟨g, n * 12 + 10, none⟩ (.int .i64 0)) w.heap.size 124 _ := hB1.chg (hM5.trans hM6).chg hNF1
        clear hP5 hM5 hP6 hM6 hB5 hown5 hC5 hor5 hBa hc11
        go_wp2_with fail
        refine ⟨⟨n + 1, _, by omega, by go_num, ⟨?_, hA1.mvs.trans HM6.out, hA1.vT, hA1.vC, hA1.vJ, hA1.vL⟩, hB6, fun hf => ?_⟩, by simp [intOf]; omega⟩
        · rw [HSU.out, HF2.out]
          have := HP6.out
          simp only [List.set_set] at this
          exact this
        · rcases HM6.out.foot _ hf with h1 | h1
          · exact HNF.out h1
          · omega
    · clear hgT b0 b1 b2 b3 b4
      have hnn : mapTo (delT s.blk s.win j body) s.ts n = s.ts.map (delT s.blk s.win j body) := mapTo_all _ _ _ (by omega)
      rw [hnn] at hA
      have b0 : wr.cell? ⟨w.heap.size, 0, none⟩ = some (.bool j.on) := hB.cell 0
      have b1 : wr.cell? ⟨w.heap.size, 1, none⟩ = some (.int .i64 j.path) := hB.cell 1
      have b2 : wr.cell? ⟨w.heap.size, 2, none⟩ = some (.int .i64 j.tag) := hB.cell 2
      have b3 : wr.cell? ⟨w.heap.size, 3, none⟩ = some (.int .i64 j.tot) := hB.cell 3
      have b4 : wr.cell? ⟨w.heap.size, 4, none⟩ = some (.int .i64 j.k) := hB.cell 4
      go_wp2_with fail
      refine (keep_any p (delTs s j body) L1 C j body _ hA.at_ (delTs_inv s j body C hj1 hb1 inv) hC hj0 hj1 hb0 hb1).mono ?_
      rintro e w9 ⟨rfl, v9, hP9, hM9⟩
      go_wp2_with fail
      go_end0
      exact ⟨rfl, _, by rw [HF.out]; exact hP9, hA.mvs.trans hM9⟩
end Go.Proofs.YtjhihliciadipabGreat
