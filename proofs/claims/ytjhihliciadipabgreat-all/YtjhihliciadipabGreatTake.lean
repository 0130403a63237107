import Derived.Test.YtjhihliciadipabGreatHeadP
set_option linter.unusedVariables false
set_option linter.unusedSimpArgs false
set_option linter.unnecessarySimpa false
namespace Go.Proofs.YtjhihliciadipabGreat
open Go.RowKit

def takeEnd (s : Pr) (t : Mv) (n : Int) : Int × ByteArray := takeGo s.blk (fromL t) (lenL t) n t.has (winL s.blk s.win t) t.taken ByteArray.empty
def takenT (s : Pr) (t : Mv) (n : Int) : Mv := { t with shown := true, taken := (takeEnd s t n).1 }
def takeS (s : Pr) (i : Nat) (t : Mv) (n : Int) : Pr :=
  lookL { s with ts := s.ts.set i { takenT s t n with has := dropL s.blk s.win (takenT s t n) } }

theorem set_inv (s : Pr) (i : Nat) (m : Mv) (C : Int) (h : Inv s C) (hm : MvOk m) : Inv { s with ts := s.ts.set i m } C :=
  ⟨⟨h.fair.m1, h.fair.m2, h.fair.B1, h.fair.B2, h.fair.W1, h.fair.W2, h.fair.c1, h.fair.c2, h.fair.t1, h.fair.t2⟩, by simpa using h.nts, fun x hx => by
    rcases List.mem_or_eq_of_mem_set hx with h1 | rfl
    · exact h.ts x h1
    · exact hm, h.cache, h.nc, h.c0, h.c1⟩
theorem dropTo_mem (wl : List Int) (has : List ByteArray) (k : Nat) : ∀ b ∈ dropTo wl has k, b ∈ has ∨ b = ByteArray.empty := by
  intro b hb
  obtain ⟨i, hi⟩ := List.mem_iff_getElem?.1 hb
  unfold dropTo at hi
  rw [List.getElem?_mapIdx] at hi
  cases hh : has[i]? with
  | none => rw [hh] at hi; simp at hi
  | some x =>
    rw [hh] at hi
    simp only [Option.map_some, Option.some.injEq] at hi
    split at hi
    · exact Or.inr hi.symm
    · exact Or.inl (hi ▸ List.mem_of_getElem? hh)

/-- The tail of Take: the transfer lets go, all look into the cache. -/
theorem tail_drop {w w1 : World} {p i : Nat} {s : Pr} {L : Lay} {t : Mv} {hv : Value} (h : PrAt w p s L) (ht : s.ts[i]? = some t) (hh : L.hs[i]? = some hv) {g cap : Nat} (hT : L.vT = .slice (some ⟨g, 0, none⟩) s.ts.length cap)
    (hown : w1.ownsRow 0 9 1 hv (dropL s.blk s.win t).length ((dropL s.blk s.win t).map .string)) (hc : Chg (fun x => hv.ownBlock = some x) w w1) :
    PrAt w1 p { s with ts := s.ts.set i { t with has := dropL s.blk s.win t } } L ∧ Mvs w w1 p L L := h.hasChg ht hh hT _ hc hown

theorem ext_sz (o b : ByteArray) (x y : Int) (h0 : 0 ≤ x) (h1 : x ≤ y) (h2 : y ≤ b.size) : ((o ++ b.extract x.toNat y.toNat).size : Int) = o.size + (y - x) := by
  simp [ByteArray.size_append]; omega
theorem ret_tuple_s {a : ByteArray} {b : Int} {x : Int × ByteArray} (h : x.2 = a) : Ending.returned (.tuple #[.string a, .int .i64 b]) = .returned (.tuple #[.string x.2, .int .i64 b]) := by rw [h]

set_option maxRecDepth 100000 in
set_option maxHeartbeats 4000000 in
theorem Take_ok (p i : Nat) (s : Pr) (L : Lay) (t : Mv) (C n : Int) (w : World) (h : PrAt w p s L) (inv : Inv s C) (hC : C ≤ 30000000000000000) (ht : s.ts[i]? = some t) (hop : ¬ (t.tag = 0 ∧ t.lost = false))
    (hHas : HasOk s.blk t) (htk : t.taken ≤ lenL t) (hn0 : 0 ≤ n) (hn1 : n ≤ 9223372036854775807) :
    Calls Tryz.prog 33 #[.pointer (some ⟨p, 0, none⟩), .int .i64 i, .int .i64 n] w fun e w' => e = .returned (.tuple #[.string (takeEnd s t n).2, .int .i64 0]) ∧ (0 ≤ (takeEnd s t n).1 ∧ (takeEnd s t n).1 ≤ lenL t) ∧ ∃ L', PrAt w' p (takeS s i t n) L' ∧ Mvs w w' p L L' := by
  have hi := (List.getElem?_eq_some_iff.1 ht).1
  have hI : isL s i = true := by unfold isL; simp; omega
  have hnts := inv.nts
  have hok := inv.ts t (List.mem_of_getElem? ht)
  obtain ⟨hv, hh⟩ := h.hv ht
  obtain ⟨g, cap, hT⟩ := h.tsBlk (by omega)
  have HOP := hide hop
  have HHas := hide hHas
  have hF0 : 0 ≤ fromL t ∧ fromL t ≤ 1000 ∧ 0 ≤ lenL t ∧ lenL t ≤ 1000 := by
    have hbd := cnt_bd t.sp t.tot t.tot.toNat
    have := hok.t0; have := hok.t1
    unfold fromL lenL; omega
  have hFL := head_in t hok.t0
  have hB1 := inv.fair.B1
  have hB2 := inv.fair.B2
  have ht0 := hok.t0
  have ht1 := hok.t1
  have hk0 := hok.k0
  clear hop hHas
  go_enter Tryz.func33, Tryz.ntmps33
  go_wp2_with fail
  refine (is_any p i s L w h hnts).mono ?_
  rintro e w0 ⟨rfl, hw0⟩
  obtain rfl := hw0.symm
  clear hw0
  rw [hI]
  go_wp2_with fail
  refine (Head_ok p i s L t _ h hnts ht hok HOP.out).mono ?_
  rintro e w1 ⟨rfl, hP1, hM1⟩
  have hho : ∃ a b c d e, headOf t = headAgg a b c d e := by unfold headOf; split; exact ⟨_, _, _, _, _, rfl⟩; exact ⟨_, _, _, _, _, rfl⟩
  obtain ⟨a1, a2, a3, a4, a5, hho⟩ := hho
  rw [hho]
  unfold headAgg
  have hvT : w1.cell? ⟨p, 5, none⟩ = some L.vT := hP1.blk.cell 5
  rw [hT] at hvT
  have hpl := hP1.blk.lt
  have hts1 : (s.ts.set i (showT t)).length = s.ts.length := by simp
  have ht2 : ({ s with ts := s.ts.set i (showT t) } : Pr).ts[i]? = some (showT t) := by simp [hi]
  have hT1 : L.vT = .slice (some ⟨g, 0, none⟩) ({ s with ts := s.ts.set i (showT t) } : Pr).ts.length cap := by rw [hT]; simp
  clear hho
  go_wp2_with fail
  have hE2 := Ext.new w1 (.cells #[.int .i64 a1, .int .i64 a2, .int .i64 a3, .int .i64 a4, .int .i64 a5] 71)
  have hP2 := hP1.ext hE2
  have hM2 := hM1.ext hE2
  generalize w1.alloc (.cells #[.int .i64 a1, .int .i64 a2, .int .i64 a3, .int .i64 a4, .int .i64 a5] 71) = w2 at *
  obtain ⟨hm2, hha2⟩ := hP2.mv ht2 hh hT1
  have hset2 := hP2.set (s := { s with ts := s.ts.set i (showT t) }) ⟨inv.fair.m1, inv.fair.m2, inv.fair.B1, inv.fair.B2, inv.fair.W1, inv.fair.W2, inv.fair.c1, inv.fair.c2, inv.fair.t1, inv.fair.t2⟩
  refine (window_any p g (i * 12) s.blk s.win (showT t) _ hm2 hok.sp hok.t0 hok.t1 hset2.B1 hset2.B2 hset2.W1 hset2.W2 hset2.cB hset2.cW hok.k0 hok.k1).mono ?_
  rintro e w3 ⟨v3, rfl, hE3, hown3⟩
  have hP3 := hP2.ext hE3
  have hM3 := hM2.ext hE3
  have hd3 : ∀ x, v3.ownBlock = some x → ¬ Foot p L x := fun x hx hf => by
    have h1 := (hown3.lt x hx).1
    have h2 := hP2.lt x hf
    omega
  have ho3 := own_base hown3 (Nat.zero_le _)
  have hwl : winL s.blk s.win (showT t) = winL s.blk s.win t := rfl
  rw [hwl] at ho3
  have HWB := hide (win_bd s.blk s.win t inv.fair.B1 inv.fair.B2 inv.fair.W2 hok)
  have hwln := win_len s.blk s.win t inv.fair.W2
  have HWI : Hid (∀ (j : Nat) (hj : j < (winL s.blk s.win t).length), (winL s.blk s.win t)[j] = (fromL t + t.taken) / s.blk + j ∧ ((fromL t + t.taken) / s.blk + j) * s.blk ≤ fromL t + lenL t - 1 ∧ fromL t + t.taken < fromL t + lenL t ∧
      (fromL t + t.taken) / s.blk * s.blk ≤ fromL t + t.taken ∧ fromL t + t.taken < (fromL t + t.taken) / s.blk * s.blk + s.blk) := by
    intro j hj
    unfold winL at hj ⊢
    split at hj
    · simp at hj
    · rename_i hnot
      rw [seq_len] at hj
      have := win_at s.blk s.win (fromL t + t.taken) (fromL t + lenL t) j hB1 hB2 (by omega) hj
      refine ⟨?_, this.1, this.2.1, this.2.2.1, this.2.2.2⟩
      simp only [if_neg hnot]
      exact seq_get _ _ _ hj
  have HTE : Hid (takeEnd s t n = takeGo s.blk (fromL t) (lenL t) n t.has ((winL s.blk s.win t).drop 0) t.taken ByteArray.empty) := rfl
  generalize winL s.blk s.win t = wl at *
  obtain ⟨aw, capw, rfl, hgw⟩ := own_form ho3
  clear hE2 hE3 hm2 hha2 hset2 hP1 hM1 hP2 hM2 hown3 hvT hwl
  go_wp2_with fail
  go_loopw [12, 14] (fun o ix wr => ∃ (j : Nat) (tk : Int) (out : ByteArray), j ≤ wl.length ∧ ix = .int .i64 j ∧ o = .string out ∧ (out.size : Int) ≤ n ∧ out.size ≤ 16 * j ∧ 0 ≤ tk ∧ tk ≤ lenL t ∧
    Hid (j < wl.length → At s.blk (fromL t) (lenL t) ((fromL t + t.taken) / s.blk + j) tk) ∧ Hid (takeEnd s t n = takeGo s.blk (fromL t) (lenL t) n t.has (wl.drop j) tk out) ∧
    PrAt wr p { s with ts := s.ts.set i { showT t with taken := tk } } L ∧ Mvs w wr p L L ∧ wr.ownsRow 0 3 1 (.slice aw wl.length capw) wl.length (wl.map (.int .i64))) (fun _ ix _ => wl.length - (intOf ix).toNat)
  case atStart =>
    refine ⟨0, t.taken, ByteArray.empty, Nat.zero_le _, rfl, rfl, by simpa using hn0, by simp, hk0, htk, ?_, HTE, hP3, hM3, ho3⟩
    intro h0
    have h1 := HWI.out 0 h0
    have e0 : (fromL t + t.taken) / s.blk + ((0 : Nat) : Int) = (fromL t + t.taken) / s.blk := by omega
    rw [e0]
    exact ⟨h1.2.2.2.1, h1.2.2.2.2, by omega⟩
  case round =>
    obtain ⟨j, tk, out, hj, rfl, rfl, hon, ho16, htk0, htk1, HAt, HTG, hP, hM, ho⟩ := hrel
    by_cases hlt : j < wl.length
    · obtain ⟨gw, rfl⟩ := hgw (by omega)
      have hAt := HAt.out hlt
      have hWj := HWI.out j hlt
      have hkb := HWB.out wl[j] (List.getElem_mem hlt)
      have hck : wr.cell? ⟨gw, j, none⟩ = some (.int .i64 wl[j]) := by
        rw [ho.cellAt j (by omega)]; simp [hlt]
      rw [← hWj.1] at hAt
      have HD : Hid (wl.drop j = wl[j] :: wl.drop (j + 1)) := List.drop_eq_getElem_cons hlt
      have HNX : Hid (∀ tk2, fromL t + tk2 = wl[j] * s.blk + s.blk → tk2 < lenL t → At s.blk (fromL t) (lenL t) ((fromL t + t.taken) / s.blk + (j + 1 : Nat)) tk2) := by
        intro tk2 e1 e2
        have e3 : ((fromL t + t.taken) / s.blk + (j + 1 : Nat)) * s.blk = wl[j] * s.blk + s.blk := by
          rw [hWj.1]; rw [show (fromL t + t.taken) / s.blk + ((j + 1 : Nat) : Int) = (fromL t + t.taken) / s.blk + j + 1 from by omega, Int.add_mul ((fromL t + t.taken) / s.blk + j), Int.one_mul]
        exact ⟨by rw [e3]; omega, by rw [e3]; omega, e2⟩
      have HNL : Hid (fromL t + lenL t ≤ wl[j] * s.blk + s.blk → ¬ j + 1 < wl.length) := by
        intro e1 e2
        have h1 := (HWI.out (j + 1) e2).2.1
        rw [show (fromL t + t.taken) / s.blk + ((j + 1 : Nat) : Int) = (fromL t + t.taken) / s.blk + j + 1 from by omega, Int.add_mul ((fromL t + t.taken) / s.blk + j), Int.one_mul, ← hWj.1] at h1
        omega
      have hHs : (heldL t.has wl[j]).toList.isEmpty = false → ((heldL t.has wl[j]).size : Int) = sizeL s.blk t.tot wl[j] := held_size HHas.out wl[j] hkb.1
      have HHs := hide hHs
      clear hgw hWj hHs
      generalize wl[j] = k at *
      have hA1 := hAt.a
      have hA2 := hAt.b
      have hA3 := hAt.c
      have hkB0 : 0 ≤ k * s.blk := Int.mul_nonneg hkb.1 (by omega)
      have HAT := hide hAt
      clear hAt
      have htm : ({ s with ts := s.ts.set i { showT t with taken := tk } } : Pr).ts[i]? = some { showT t with taken := tk } := by simp [hi]
      have hTm : L.vT = .slice (some ⟨g, 0, none⟩) ({ s with ts := s.ts.set i { showT t with taken := tk } } : Pr).ts.length cap := by rw [hT]; simp
      obtain ⟨hm, hha⟩ := hP.mv htm hh hTm
      go_wp2_with fail
      refine (held_any g (i * 12) t.has hv k _ 0 hha.c hha.own hkb.1 (by omega) (by have := hok.hl; omega)).mono ?_
      rintro e w4 ⟨rfl, rfl⟩
      go_wp2_with fail
      refine (head_any g (i * 12) { showT t with taken := tk } _ hm hok.sp hok.t0 hok.t1).mono ?_
      rintro e w5 ⟨rfl, hE5⟩
      have hP5 := hP.ext hE5
      have hM5 := hM.ext hE5
      have ho5 := own_ext ho hE5
      have hck5 := ext_cell hE5 hck
      have r9 := (hm.ext hE5).taken
      have hcB : w5.cell? ⟨p, 1, none⟩ = some (.int .i64 s.blk) := hP5.blk.cell 1
      have hgl := World.block_lt_of_cell? w5 _ r9
      have hgwl := World.block_lt_of_cell? w5 _ hck5
      have hpl5 := hP5.blk.lt
      have hfz : ∀ r, w5.frozen? ⟨g, r, none⟩ = false := by have h5 := hP5.ts; rw [hTm] at h5; exact fun r => h5.frozenAt r
      clear hm hha hck hE5
      simp only [show statL { showT t with taken := tk } = statL t from rfl, show fromL { showT t with taken := tk } = fromL t from rfl, show lenL { showT t with taken := tk } = lenL t from rfl, show ({ showT t with taken := tk } : Mv).tag = t.tag from rfl, show ({ showT t with taken := tk } : Mv).tot = t.tot from rfl, show ({ showT t with taken := tk } : Mv).taken = tk from rfl] at *
      have HGO : Hid (takeGo s.blk (fromL t) (lenL t) n t.has (wl.drop j) tk out = takeGo s.blk (fromL t) (lenL t) n t.has (k :: wl.drop (j + 1)) tk out) := by show _ = _; rw [HD.out]
      cases hem : (heldL t.has k).toList.isEmpty
      · have hst := step_bd (n := n) (osz := out.size) hB1 hF0.1 hFL HAT.out (HHs.out hem) hon
        have HB : Hid (takeGo s.blk (fromL t) (lenL t) n t.has (k :: wl.drop (j + 1)) tk out =
            if ((out ++ (heldL t.has k).extract (fromL t + tk - k * s.blk).toNat (toTwo s.blk (fromL t) (lenL t) n tk k (heldL t.has k).size out.size).toNat).size : Int) = n then
              (tk + toTwo s.blk (fromL t) (lenL t) n tk k (heldL t.has k).size out.size - (fromL t + tk - k * s.blk), out ++ (heldL t.has k).extract (fromL t + tk - k * s.blk).toNat (toTwo s.blk (fromL t) (lenL t) n tk k (heldL t.has k).size out.size).toNat)
            else takeGo s.blk (fromL t) (lenL t) n t.has (wl.drop (j + 1)) (tk + toTwo s.blk (fromL t) (lenL t) n tk k (heldL t.has k).size out.size - (fromL t + tk - k * s.blk)) (out ++ (heldL t.has k).extract (fromL t + tk - k * s.blk).toNat (toTwo s.blk (fromL t) (lenL t) n tk k (heldL t.has k).size out.size).toNat)) := by
          show _ = _; rw [takeGo, if_neg (by rw [hem]; simp)]
        have HT2 : Hid (toTwo s.blk (fromL t) (lenL t) n tk k (heldL t.has k).size out.size = if n - out.size < (if ((heldL t.has k).size : Int) < fromL t + lenL t - k * s.blk then ((heldL t.has k).size : Int) else fromL t + lenL t - k * s.blk) - (fromL t + tk - k * s.blk) then fromL t + tk - k * s.blk + n - out.size else (if ((heldL t.has k).size : Int) < fromL t + lenL t - k * s.blk then ((heldL t.has k).size : Int) else fromL t + lenL t - k * s.blk)) := rfl
        have hsz := ext_sz out (heldL t.has k) _ _ hst.1 hst.2.1 hst.2.2.1
        generalize toTwo s.blk (fromL t) (lenL t) n tk k (heldL t.has k).size out.size = T2 at *
        generalize heldL t.has k = body at *
        obtain ⟨s1, s2, s3, s4, s5, s6, s7⟩ := hst
        have HS7 := hide s7
        have HSZ := hide hsz
        clear s7 hsz HD HAt HAT HHs
        by_cases h1 : (body.size : Int) < fromL t + lenL t - k * s.blk
        all_goals first
          | (have HT3 : Hid (T2 = if n - out.size < (body.size : Int) - (fromL t + tk - k * s.blk) then fromL t + tk - k * s.blk + n - out.size else (body.size : Int)) := (by show _ = _; rw [HT2.out]; simp only [if_pos h1]))
          | (have HT3 : Hid (T2 = if n - out.size < (fromL t + lenL t - k * s.blk) - (fromL t + tk - k * s.blk) then fromL t + tk - k * s.blk + n - out.size else fromL t + lenL t - k * s.blk) := (by show _ = _; rw [HT2.out]; simp only [if_neg h1]))
        all_goals clear HT2
        · by_cases h2 : n - out.size < (body.size : Int) - (fromL t + tk - k * s.blk)
          · have hT2 : T2 = fromL t + tk - k * s.blk + n - out.size := by rw [HT3.out, if_pos h2]
            rw [hT2] at s2 s3 s4 s6
            have HT4 := hide hT2
            clear hT2 HT3
            go_wp2_with fail
            go_quiet (fail)
            revert nq
            intro nq1
            go_wp2_with fail
            go_quiet (fail)
            have hE6 : Ext w5 ((w5.alloc (.cells #[.int .i64 (statL t), .int .i64 (showT t).tag, .int .i64 (showT t).tot, .int .i64 (fromL t), .int .i64 (lenL t)] 71)).drewN (nq1 + nq)) := Ext.drewN (Ext.new _ _) _
            go_wp2_with fail
            have HFIN : Hid (takeEnd s t n = ((tk + (fromL t + tk - k * s.blk + n - ↑out.size) - (fromL t + tk - k * s.blk)), (out ++ body.extract (fromL t + tk - k * s.blk).toNat ((fromL t + tk - k * s.blk + n).toNat - out.size)))) := by
              show _ = _
              have e1 : T2.toNat = ((fromL t + tk - k * s.blk + n).toNat - out.size) := by rw [HT4.out]; omega
              have e2 : ((out ++ body.extract (fromL t + tk - k * s.blk).toNat T2.toNat).size : Int) = n := by
                rw [HSZ.out, HT4.out]
                omega
              rw [HTG.out, HGO.out, HB.out, if_pos e2, e1, HT4.out]
            obtain ⟨hP7, hM7⟩ := (hP5.ext hE6).store htm hh hTm 9 (by omega) (.int .i64 (tk + (fromL t + tk - k * s.blk + n - ↑out.size) - (fromL t + tk - k * s.blk))) { showT t with taken := (tk + (fromL t + tk - k * s.blk + n - ↑out.size) - (fromL t + tk - k * s.blk)) } rfl rfl
            simp only [List.set_set] at hP7
            have hM9 := (hM5.ext hE6).trans hM7
            have htt : ({ s with ts := s.ts.set i { showT t with taken := (tk + (fromL t + tk - k * s.blk + n - ↑out.size) - (fromL t + tk - k * s.blk)) } } : Pr).ts[i]? = some { showT t with taken := (tk + (fromL t + tk - k * s.blk + n - ↑out.size) - (fromL t + tk - k * s.blk)) } := by simp [hi]
            have hTt : L.vT = .slice (some ⟨g, 0, none⟩) ({ s with ts := s.ts.set i { showT t with taken := (tk + (fromL t + tk - k * s.blk + n - ↑out.size) - (fromL t + tk - k * s.blk)) } } : Pr).ts.length cap := by rw [hT]; simp
            obtain ⟨hmt, hhat⟩ := hP7.mv htt hh hTt
            have hsett := hP7.set (s := { s with ts := s.ts.set i { showT t with taken := (tk + (fromL t + tk - k * s.blk + n - ↑out.size) - (fromL t + tk - k * s.blk)) } }) ⟨inv.fair.m1, inv.fair.m2, inv.fair.B1, inv.fair.B2, inv.fair.W1, inv.fair.W2, inv.fair.c1, inv.fair.c2, inv.fair.t1, inv.fair.t2⟩
            have hokt : MvOk { showT t with taken := (tk + (fromL t + tk - k * s.blk + n - ↑out.size) - (fromL t + tk - k * s.blk)) } := ⟨hok.sp, hok.t0, hok.t1, by show 0 ≤ (tk + (fromL t + tk - k * s.blk + n - ↑out.size) - (fromL t + tk - k * s.blk)); omega, by show (tk + (fromL t + tk - k * s.blk + n - ↑out.size) - (fromL t + tk - k * s.blk)) ≤ 1000; omega, hok.hl, hok.hb⟩
            have hnet : hv.ownBlock ≠ some g := fun e => hP7.sep (i + 4) 0 hv L.vT g (by omega) (by simpa [Lay.vs] using hh) rfl e (by rw [hT]; rfl)
            refine (drop_any p g (i * 12) s.blk s.win { showT t with taken := (tk + (fromL t + tk - k * s.blk + n - ↑out.size) - (fromL t + tk - k * s.blk)) } hv _ hmt hokt hsett hhat hnet).mono ?_
            rintro e w8 ⟨rfl, hown8, hC8⟩
            obtain ⟨hP8, hM8⟩ := tail_drop hP7 htt hh hTt hown8 hC8
            simp only [List.set_set] at hP8
            have hinv8 : Inv { s with ts := s.ts.set i { ({ showT t with taken := (tk + (fromL t + tk - k * s.blk + n - ↑out.size) - (fromL t + tk - k * s.blk)) } : Mv) with has := dropL s.blk s.win { showT t with taken := (tk + (fromL t + tk - k * s.blk + n - ↑out.size) - (fromL t + tk - k * s.blk)) } } } C := set_inv s i _ C inv
              ⟨hok.sp, hok.t0, hok.t1, by show 0 ≤ (tk + (fromL t + tk - k * s.blk + n - ↑out.size) - (fromL t + tk - k * s.blk)); omega, by show (tk + (fromL t + tk - k * s.blk + n - ↑out.size) - (fromL t + tk - k * s.blk)) ≤ 1000; omega, by show (dropL s.blk s.win _).length ≤ _; unfold dropL; rw [dropTo_len]; exact hok.hl, fun b hb => by
                rcases dropTo_mem _ _ _ b hb with h1 | h1
                · exact hok.hb b h1
                · rw [h1]; decide⟩
            clear hmt hhat hsett hown8 hC8
            go_wp2_with fail
            refine (look_any p _ L C _ hP8 hinv8 (by omega)).mono ?_
            rintro e w9 ⟨rfl, L9, hA9⟩
            go_wp2_with fail
            go_ret2
            have hfin := HFIN.out
            refine ⟨ret_tuple_s (by rw [hfin]), (by rw [hfin]; constructor <;> (simp only; omega)), L9, ?_, (hM9.trans hM8).trans hA9.mvs⟩
            have e1 : takeS s i t n = lookL { s with ts := s.ts.set i { ({ showT t with taken := (tk + (fromL t + tk - k * s.blk + n - ↑out.size) - (fromL t + tk - k * s.blk)) } : Mv) with has := dropL s.blk s.win { showT t with taken := (tk + (fromL t + tk - k * s.blk + n - ↑out.size) - (fromL t + tk - k * s.blk)) } } } := by
              unfold takeS takenT; rw [hfin]; rfl
            rw [e1]; exact hA9.at_
          · have hT2 : T2 = (body.size : Int) := by rw [HT3.out, if_neg h2]
            rw [hT2] at s2 s3 s4 s6
            have HT4 := hide hT2
            clear hT2 HT3
            go_wp2_with fail
            go_quiet (fail)
            revert nq
            intro nq1
            go_wp2_with fail
            go_quiet (fail)
            have hE6 : Ext w5 ((w5.alloc (.cells #[.int .i64 (statL t), .int .i64 (showT t).tag, .int .i64 (showT t).tot, .int .i64 (fromL t), .int .i64 (lenL t)] 71)).drewN (nq1 + nq)) := Ext.drewN (Ext.new _ _) _
            go_wp2_with fail
            · have hfull : ((out.size : Int) + ((body.size - (fromL t + tk - k * s.blk).toNat : Nat) : Int) == n) = true := by assumption
              have HFIN : Hid (takeEnd s t n = ((tk + (body.size : Int) - (fromL t + tk - k * s.blk)), (out ++ body.extract (fromL t + tk - k * s.blk).toNat body.size))) := by
                show _ = _
                have e1 : T2.toNat = body.size := by rw [HT4.out]; omega
                have e2 : ((out ++ body.extract (fromL t + tk - k * s.blk).toNat T2.toNat).size : Int) = n := by
                  rw [HSZ.out, HT4.out]
                  have h9 := beq_iff_eq.1 hfull
                  omega
                rw [HTG.out, HGO.out, HB.out, if_pos e2, e1, HT4.out]
              obtain ⟨hP7, hM7⟩ := (hP5.ext hE6).store htm hh hTm 9 (by omega) (.int .i64 (tk + (body.size : Int) - (fromL t + tk - k * s.blk))) { showT t with taken := (tk + (body.size : Int) - (fromL t + tk - k * s.blk)) } rfl rfl
              simp only [List.set_set] at hP7
              have hM9 := (hM5.ext hE6).trans hM7
              have htt : ({ s with ts := s.ts.set i { showT t with taken := (tk + (body.size : Int) - (fromL t + tk - k * s.blk)) } } : Pr).ts[i]? = some { showT t with taken := (tk + (body.size : Int) - (fromL t + tk - k * s.blk)) } := by simp [hi]
              have hTt : L.vT = .slice (some ⟨g, 0, none⟩) ({ s with ts := s.ts.set i { showT t with taken := (tk + (body.size : Int) - (fromL t + tk - k * s.blk)) } } : Pr).ts.length cap := by rw [hT]; simp
              obtain ⟨hmt, hhat⟩ := hP7.mv htt hh hTt
              have hsett := hP7.set (s := { s with ts := s.ts.set i { showT t with taken := (tk + (body.size : Int) - (fromL t + tk - k * s.blk)) } }) ⟨inv.fair.m1, inv.fair.m2, inv.fair.B1, inv.fair.B2, inv.fair.W1, inv.fair.W2, inv.fair.c1, inv.fair.c2, inv.fair.t1, inv.fair.t2⟩
              have hokt : MvOk { showT t with taken := (tk + (body.size : Int) - (fromL t + tk - k * s.blk)) } := ⟨hok.sp, hok.t0, hok.t1, by show 0 ≤ (tk + (body.size : Int) - (fromL t + tk - k * s.blk)); omega, by show (tk + (body.size : Int) - (fromL t + tk - k * s.blk)) ≤ 1000; omega, hok.hl, hok.hb⟩
              have hnet : hv.ownBlock ≠ some g := fun e => hP7.sep (i + 4) 0 hv L.vT g (by omega) (by simpa [Lay.vs] using hh) rfl e (by rw [hT]; rfl)
              refine (drop_any p g (i * 12) s.blk s.win { showT t with taken := (tk + (body.size : Int) - (fromL t + tk - k * s.blk)) } hv _ hmt hokt hsett hhat hnet).mono ?_
              rintro e w8 ⟨rfl, hown8, hC8⟩
              obtain ⟨hP8, hM8⟩ := tail_drop hP7 htt hh hTt hown8 hC8
              simp only [List.set_set] at hP8
              have hinv8 : Inv { s with ts := s.ts.set i { ({ showT t with taken := (tk + (body.size : Int) - (fromL t + tk - k * s.blk)) } : Mv) with has := dropL s.blk s.win { showT t with taken := (tk + (body.size : Int) - (fromL t + tk - k * s.blk)) } } } C := set_inv s i _ C inv
                ⟨hok.sp, hok.t0, hok.t1, by show 0 ≤ (tk + (body.size : Int) - (fromL t + tk - k * s.blk)); omega, by show (tk + (body.size : Int) - (fromL t + tk - k * s.blk)) ≤ 1000; omega, by show (dropL s.blk s.win _).length ≤ _; unfold dropL; rw [dropTo_len]; exact hok.hl, fun b hb => by
                  rcases dropTo_mem _ _ _ b hb with h1 | h1
                  · exact hok.hb b h1
                  · rw [h1]; decide⟩
              clear hmt hhat hsett hown8 hC8
              go_wp2_with fail
              refine (look_any p _ L C _ hP8 hinv8 (by omega)).mono ?_
              rintro e w9 ⟨rfl, L9, hA9⟩
              go_wp2_with fail
              go_ret2
              have hfin := HFIN.out
              refine ⟨ret_tuple_s (by rw [hfin]), (by rw [hfin]; constructor <;> (simp only; omega)), L9, ?_, (hM9.trans hM8).trans hA9.mvs⟩
              have e1 : takeS s i t n = lookL { s with ts := s.ts.set i { ({ showT t with taken := (tk + (body.size : Int) - (fromL t + tk - k * s.blk)) } : Mv) with has := dropL s.blk s.win { showT t with taken := (tk + (body.size : Int) - (fromL t + tk - k * s.blk)) } } } := by
                unfold takeS takenT; rw [hfin]; rfl
              rw [e1]; exact hA9.at_
            · have hfull : ((out.size : Int) + ((body.size - (fromL t + tk - k * s.blk).toNat : Nat) : Int) == n) = false := by assumption
              obtain ⟨hP7, hM7⟩ := (hP5.ext hE6).store htm hh hTm 9 (by omega) (.int .i64 (tk + (body.size : Int) - (fromL t + tk - k * s.blk))) { showT t with taken := (tk + (body.size : Int) - (fromL t + tk - k * s.blk)) } rfl rfl
              simp only [List.set_set] at hP7
              have hM9 := (hM5.ext hE6).trans hM7
              have e1 : T2.toNat = body.size := by rw [HT4.out]; omega
              have hszv : (((out ++ body.extract (fromL t + tk - k * s.blk).toNat body.size)).size : Int) = out.size + ((body.size : Int) - (fromL t + tk - k * s.blk)) := by have h5 := HSZ.out; rw [e1, HT4.out] at h5; exact h5
              have hne : ¬ (((out ++ body.extract (fromL t + tk - k * s.blk).toNat body.size)).size : Int) = n := by
                have h9 := beq_eq_false_iff_ne.1 hfull
                rw [hszv]; omega
              have hs7 := HS7.out
              rw [HT4.out] at hs7
              refine ⟨⟨j + 1, (tk + (body.size : Int) - (fromL t + tk - k * s.blk)), (out ++ body.extract (fromL t + tk - k * s.blk).toNat body.size), by omega, by go_num, rfl, by rw [hszv]; omega, by omega, by omega, by omega, ?_, ?_, hP7, hM9, (keep_own hM7 (own_ext ho5 hE6) hd3).1⟩, by simp [intOf]; omega⟩
              · intro hlt2
                rcases hs7 (by omega) with ⟨e2, e3⟩ | ⟨e2, e3⟩
                · exact absurd hlt2 (HNL.out e3)
                · exact HNX.out _ e2 e3
              · show _ = _
                rw [HTG.out, HGO.out, HB.out, if_neg (by rw [e1]; exact hne), e1, HT4.out]
        · by_cases h2 : n - out.size < (fromL t + lenL t - k * s.blk) - (fromL t + tk - k * s.blk)
          · have hT2 : T2 = fromL t + tk - k * s.blk + n - out.size := by rw [HT3.out, if_pos h2]
            rw [hT2] at s2 s3 s4 s6
            have HT4 := hide hT2
            clear hT2 HT3
            go_wp2_with fail
            go_quiet (fail)
            revert nq
            intro nq1
            go_wp2_with fail
            go_quiet (fail)
            have hE6 : Ext w5 ((w5.alloc (.cells #[.int .i64 (statL t), .int .i64 (showT t).tag, .int .i64 (showT t).tot, .int .i64 (fromL t), .int .i64 (lenL t)] 71)).drewN (nq1 + nq)) := Ext.drewN (Ext.new _ _) _
            go_wp2_with fail
            have HFIN : Hid (takeEnd s t n = ((tk + (fromL t + tk - k * s.blk + n - ↑out.size) - (fromL t + tk - k * s.blk)), (out ++ body.extract (fromL t + tk - k * s.blk).toNat ((fromL t + tk - k * s.blk + n).toNat - out.size)))) := by
              show _ = _
              have e1 : T2.toNat = ((fromL t + tk - k * s.blk + n).toNat - out.size) := by rw [HT4.out]; omega
              have e2 : ((out ++ body.extract (fromL t + tk - k * s.blk).toNat T2.toNat).size : Int) = n := by
                rw [HSZ.out, HT4.out]
                omega
              rw [HTG.out, HGO.out, HB.out, if_pos e2, e1, HT4.out]
            obtain ⟨hP7, hM7⟩ := (hP5.ext hE6).store htm hh hTm 9 (by omega) (.int .i64 (tk + (fromL t + tk - k * s.blk + n - ↑out.size) - (fromL t + tk - k * s.blk))) { showT t with taken := (tk + (fromL t + tk - k * s.blk + n - ↑out.size) - (fromL t + tk - k * s.blk)) } rfl rfl
            simp only [List.set_set] at hP7
            have hM9 := (hM5.ext hE6).trans hM7
            have htt : ({ s with ts := s.ts.set i { showT t with taken := (tk + (fromL t + tk - k * s.blk + n - ↑out.size) - (fromL t + tk - k * s.blk)) } } : Pr).ts[i]? = some { showT t with taken := (tk + (fromL t + tk - k * s.blk + n - ↑out.size) - (fromL t + tk - k * s.blk)) } := by simp [hi]
            have hTt : L.vT = .slice (some ⟨g, 0, none⟩) ({ s with ts := s.ts.set i { showT t with taken := (tk + (fromL t + tk - k * s.blk + n - ↑out.size) - (fromL t + tk - k * s.blk)) } } : Pr).ts.length cap := by rw [hT]; simp
            obtain ⟨hmt, hhat⟩ := hP7.mv htt hh hTt
            have hsett := hP7.set (s := { s with ts := s.ts.set i { showT t with taken := (tk + (fromL t + tk - k * s.blk + n - ↑out.size) - (fromL t + tk - k * s.blk)) } }) ⟨inv.fair.m1, inv.fair.m2, inv.fair.B1, inv.fair.B2, inv.fair.W1, inv.fair.W2, inv.fair.c1, inv.fair.c2, inv.fair.t1, inv.fair.t2⟩
            have hokt : MvOk { showT t with taken := (tk + (fromL t + tk - k * s.blk + n - ↑out.size) - (fromL t + tk - k * s.blk)) } := ⟨hok.sp, hok.t0, hok.t1, by show 0 ≤ (tk + (fromL t + tk - k * s.blk + n - ↑out.size) - (fromL t + tk - k * s.blk)); omega, by show (tk + (fromL t + tk - k * s.blk + n - ↑out.size) - (fromL t + tk - k * s.blk)) ≤ 1000; omega, hok.hl, hok.hb⟩
            have hnet : hv.ownBlock ≠ some g := fun e => hP7.sep (i + 4) 0 hv L.vT g (by omega) (by simpa [Lay.vs] using hh) rfl e (by rw [hT]; rfl)
            refine (drop_any p g (i * 12) s.blk s.win { showT t with taken := (tk + (fromL t + tk - k * s.blk + n - ↑out.size) - (fromL t + tk - k * s.blk)) } hv _ hmt hokt hsett hhat hnet).mono ?_
            rintro e w8 ⟨rfl, hown8, hC8⟩
            obtain ⟨hP8, hM8⟩ := tail_drop hP7 htt hh hTt hown8 hC8
            simp only [List.set_set] at hP8
            have hinv8 : Inv { s with ts := s.ts.set i { ({ showT t with taken := (tk + (fromL t + tk - k * s.blk + n - ↑out.size) - (fromL t + tk - k * s.blk)) } : Mv) with has := dropL s.blk s.win { showT t with taken := (tk + (fromL t + tk - k * s.blk + n - ↑out.size) - (fromL t + tk - k * s.blk)) } } } C := set_inv s i _ C inv
              ⟨hok.sp, hok.t0, hok.t1, by show 0 ≤ (tk + (fromL t + tk - k * s.blk + n - ↑out.size) - (fromL t + tk - k * s.blk)); omega, by show (tk + (fromL t + tk - k * s.blk + n - ↑out.size) - (fromL t + tk - k * s.blk)) ≤ 1000; omega, by show (dropL s.blk s.win _).length ≤ _; unfold dropL; rw [dropTo_len]; exact hok.hl, fun b hb => by
                rcases dropTo_mem _ _ _ b hb with h1 | h1
                · exact hok.hb b h1
                · rw [h1]; decide⟩
            clear hmt hhat hsett hown8 hC8
            go_wp2_with fail
            refine (look_any p _ L C _ hP8 hinv8 (by omega)).mono ?_
            rintro e w9 ⟨rfl, L9, hA9⟩
            go_wp2_with fail
            go_ret2
            have hfin := HFIN.out
            refine ⟨ret_tuple_s (by rw [hfin]), (by rw [hfin]; constructor <;> (simp only; omega)), L9, ?_, (hM9.trans hM8).trans hA9.mvs⟩
            have e1 : takeS s i t n = lookL { s with ts := s.ts.set i { ({ showT t with taken := (tk + (fromL t + tk - k * s.blk + n - ↑out.size) - (fromL t + tk - k * s.blk)) } : Mv) with has := dropL s.blk s.win { showT t with taken := (tk + (fromL t + tk - k * s.blk + n - ↑out.size) - (fromL t + tk - k * s.blk)) } } } := by
              unfold takeS takenT; rw [hfin]; rfl
            rw [e1]; exact hA9.at_
          · have hT2 : T2 = (fromL t + lenL t - k * s.blk) := by rw [HT3.out, if_neg h2]
            rw [hT2] at s2 s3 s4 s6
            have HT4 := hide hT2
            clear hT2 HT3
            go_wp2_with fail
            go_quiet (fail)
            revert nq
            intro nq1
            go_wp2_with fail
            go_quiet (fail)
            have hE6 : Ext w5 ((w5.alloc (.cells #[.int .i64 (statL t), .int .i64 (showT t).tag, .int .i64 (showT t).tot, .int .i64 (fromL t), .int .i64 (lenL t)] 71)).drewN (nq1 + nq)) := Ext.drewN (Ext.new _ _) _
            go_wp2_with fail
            · have hfull := (by assumption : (((out.size : Int) + _) == n) = true)
              have HFIN : Hid (takeEnd s t n = ((tk + (fromL t + lenL t - k * s.blk) - (fromL t + tk - k * s.blk)), (out ++ body.extract (fromL t + tk - k * s.blk).toNat (fromL t + lenL t - k * s.blk).toNat))) := by
                show _ = _
                have e1 : T2.toNat = (fromL t + lenL t - k * s.blk).toNat := by rw [HT4.out]
                have e2 : ((out ++ body.extract (fromL t + tk - k * s.blk).toNat T2.toNat).size : Int) = n := by
                  rw [HSZ.out, HT4.out]
                  have h9 := beq_iff_eq.1 hfull
                  omega
                rw [HTG.out, HGO.out, HB.out, if_pos e2, e1, HT4.out]
              obtain ⟨hP7, hM7⟩ := (hP5.ext hE6).store htm hh hTm 9 (by omega) (.int .i64 (tk + (fromL t + lenL t - k * s.blk) - (fromL t + tk - k * s.blk))) { showT t with taken := (tk + (fromL t + lenL t - k * s.blk) - (fromL t + tk - k * s.blk)) } rfl rfl
              simp only [List.set_set] at hP7
              have hM9 := (hM5.ext hE6).trans hM7
              have htt : ({ s with ts := s.ts.set i { showT t with taken := (tk + (fromL t + lenL t - k * s.blk) - (fromL t + tk - k * s.blk)) } } : Pr).ts[i]? = some { showT t with taken := (tk + (fromL t + lenL t - k * s.blk) - (fromL t + tk - k * s.blk)) } := by simp [hi]
              have hTt : L.vT = .slice (some ⟨g, 0, none⟩) ({ s with ts := s.ts.set i { showT t with taken := (tk + (fromL t + lenL t - k * s.blk) - (fromL t + tk - k * s.blk)) } } : Pr).ts.length cap := by rw [hT]; simp
              obtain ⟨hmt, hhat⟩ := hP7.mv htt hh hTt
              have hsett := hP7.set (s := { s with ts := s.ts.set i { showT t with taken := (tk + (fromL t + lenL t - k * s.blk) - (fromL t + tk - k * s.blk)) } }) ⟨inv.fair.m1, inv.fair.m2, inv.fair.B1, inv.fair.B2, inv.fair.W1, inv.fair.W2, inv.fair.c1, inv.fair.c2, inv.fair.t1, inv.fair.t2⟩
              have hokt : MvOk { showT t with taken := (tk + (fromL t + lenL t - k * s.blk) - (fromL t + tk - k * s.blk)) } := ⟨hok.sp, hok.t0, hok.t1, by show 0 ≤ (tk + (fromL t + lenL t - k * s.blk) - (fromL t + tk - k * s.blk)); omega, by show (tk + (fromL t + lenL t - k * s.blk) - (fromL t + tk - k * s.blk)) ≤ 1000; omega, hok.hl, hok.hb⟩
              have hnet : hv.ownBlock ≠ some g := fun e => hP7.sep (i + 4) 0 hv L.vT g (by omega) (by simpa [Lay.vs] using hh) rfl e (by rw [hT]; rfl)
              refine (drop_any p g (i * 12) s.blk s.win { showT t with taken := (tk + (fromL t + lenL t - k * s.blk) - (fromL t + tk - k * s.blk)) } hv _ hmt hokt hsett hhat hnet).mono ?_
              rintro e w8 ⟨rfl, hown8, hC8⟩
              obtain ⟨hP8, hM8⟩ := tail_drop hP7 htt hh hTt hown8 hC8
              simp only [List.set_set] at hP8
              have hinv8 : Inv { s with ts := s.ts.set i { ({ showT t with taken := (tk + (fromL t + lenL t - k * s.blk) - (fromL t + tk - k * s.blk)) } : Mv) with has := dropL s.blk s.win { showT t with taken := (tk + (fromL t + lenL t - k * s.blk) - (fromL t + tk - k * s.blk)) } } } C := set_inv s i _ C inv
                ⟨hok.sp, hok.t0, hok.t1, by show 0 ≤ (tk + (fromL t + lenL t - k * s.blk) - (fromL t + tk - k * s.blk)); omega, by show (tk + (fromL t + lenL t - k * s.blk) - (fromL t + tk - k * s.blk)) ≤ 1000; omega, by show (dropL s.blk s.win _).length ≤ _; unfold dropL; rw [dropTo_len]; exact hok.hl, fun b hb => by
                  rcases dropTo_mem _ _ _ b hb with h1 | h1
                  · exact hok.hb b h1
                  · rw [h1]; decide⟩
              clear hmt hhat hsett hown8 hC8
              go_wp2_with fail
              refine (look_any p _ L C _ hP8 hinv8 (by omega)).mono ?_
              rintro e w9 ⟨rfl, L9, hA9⟩
              go_wp2_with fail
              go_ret2
              have hfin := HFIN.out
              refine ⟨ret_tuple_s (by rw [hfin]), (by rw [hfin]; constructor <;> (simp only; omega)), L9, ?_, (hM9.trans hM8).trans hA9.mvs⟩
              have e1 : takeS s i t n = lookL { s with ts := s.ts.set i { ({ showT t with taken := (tk + (fromL t + lenL t - k * s.blk) - (fromL t + tk - k * s.blk)) } : Mv) with has := dropL s.blk s.win { showT t with taken := (tk + (fromL t + lenL t - k * s.blk) - (fromL t + tk - k * s.blk)) } } } := by
                unfold takeS takenT; rw [hfin]; rfl
              rw [e1]; exact hA9.at_
            · rename_i hfull
              obtain ⟨hP7, hM7⟩ := (hP5.ext hE6).store htm hh hTm 9 (by omega) (.int .i64 (tk + (fromL t + lenL t - k * s.blk) - (fromL t + tk - k * s.blk))) { showT t with taken := (tk + (fromL t + lenL t - k * s.blk) - (fromL t + tk - k * s.blk)) } rfl rfl
              simp only [List.set_set] at hP7
              have hM9 := (hM5.ext hE6).trans hM7
              have e1 : T2.toNat = (fromL t + lenL t - k * s.blk).toNat := by rw [HT4.out]
              have hszv : (((out ++ body.extract (fromL t + tk - k * s.blk).toNat (fromL t + lenL t - k * s.blk).toNat)).size : Int) = out.size + ((fromL t + lenL t - k * s.blk) - (fromL t + tk - k * s.blk)) := by have h5 := HSZ.out; rw [e1, HT4.out] at h5; exact h5
              have hne : ¬ (((out ++ body.extract (fromL t + tk - k * s.blk).toNat (fromL t + lenL t - k * s.blk).toNat)).size : Int) = n := by
                have h9 := beq_eq_false_iff_ne.1 hfull
                rw [hszv]; omega
              have hs7 := HS7.out
              rw [HT4.out] at hs7
              refine ⟨⟨j + 1, (tk + (fromL t + lenL t - k * s.blk) - (fromL t + tk - k * s.blk)), (out ++ body.extract (fromL t + tk - k * s.blk).toNat (fromL t + lenL t - k * s.blk).toNat), by omega, by go_num, rfl, by rw [hszv]; omega, by omega, by omega, by omega, ?_, ?_, hP7, hM9, (keep_own hM7 (own_ext ho5 hE6) hd3).1⟩, by simp [intOf]; omega⟩
              · intro hlt2
                rcases hs7 (by omega) with ⟨e2, e3⟩ | ⟨e2, e3⟩
                · exact absurd hlt2 (HNL.out e3)
                · exact HNX.out _ e2 e3
              · show _ = _
                rw [HTG.out, HGO.out, HB.out, if_neg (by rw [e1]; exact hne), e1, HT4.out]
      · have HFIN : Hid (takeEnd s t n = (tk, out)) := by
          show _ = _; rw [HTG.out, HGO.out]; simp only [takeGo, hem, if_true]
        clear HAt HTG HGO HD
        go_wp2_with fail
        go_quiet (fail)
        revert nq
        intro nq1
        go_wp2_with fail
        go_quiet (fail)
        have hE6 : Ext w5 ((w5.alloc (.cells #[.int .i64 (statL t), .int .i64 (showT t).tag, .int .i64 (showT t).tot, .int .i64 (fromL t), .int .i64 (lenL t)] 71)).drewN (nq1 + nq)) := Ext.drewN (Ext.new _ _) _
        go_wp2_with fail
        have hP6 := hP5.ext hE6
        have hM6 := hM5.ext hE6
        have ho6 := own_ext ho5 hE6
        have htt : ({ s with ts := s.ts.set i { showT t with taken := tk } } : Pr).ts[i]? = some { showT t with taken := tk } := by simp [hi]
        have hTt : L.vT = .slice (some ⟨g, 0, none⟩) ({ s with ts := s.ts.set i { showT t with taken := tk } } : Pr).ts.length cap := by rw [hT]; simp
        obtain ⟨hmt, hhat⟩ := hP6.mv htt hh hTt
        have hsett := hP6.set (s := { s with ts := s.ts.set i { showT t with taken := tk } }) ⟨inv.fair.m1, inv.fair.m2, inv.fair.B1, inv.fair.B2, inv.fair.W1, inv.fair.W2, inv.fair.c1, inv.fair.c2, inv.fair.t1, inv.fair.t2⟩
        have hokt : MvOk { showT t with taken := tk } := ⟨hok.sp, hok.t0, hok.t1, by show 0 ≤ tk; omega, by show tk ≤ 1000; omega, hok.hl, hok.hb⟩
        have hnet : hv.ownBlock ≠ some g := fun e => hP6.sep (i + 4) 0 hv L.vT g (by omega) (by simpa [Lay.vs] using hh) rfl e (by rw [hT]; rfl)
        refine (drop_any p g (i * 12) s.blk s.win { showT t with taken := tk } hv _ hmt hokt hsett hhat hnet).mono ?_
        rintro e w8 ⟨rfl, hown8, hC8⟩
        obtain ⟨hP8, hM8⟩ := tail_drop hP6 htt hh hTt hown8 hC8
        simp only [List.set_set] at hP8
        have hinv8 : Inv { s with ts := s.ts.set i { ({ showT t with taken := tk } : Mv) with has := dropL s.blk s.win { showT t with taken := tk } } } C := set_inv s i _ C inv
          ⟨hok.sp, hok.t0, hok.t1, by show 0 ≤ tk; omega, by show tk ≤ 1000; omega, by show (dropL s.blk s.win _).length ≤ _; unfold dropL; rw [dropTo_len]; exact hok.hl, fun b hb => by
            rcases dropTo_mem _ _ _ b hb with h1 | h1
            · exact hok.hb b h1
            · rw [h1]; decide⟩
        clear hmt hhat hsett hown8 hC8
        go_wp2_with fail
        refine (look_any p _ L C _ hP8 hinv8 (by omega)).mono ?_
        rintro e w9 ⟨rfl, L9, hA9⟩
        go_wp2_with fail
        go_ret2
        have hfin := HFIN.out
        refine ⟨ret_tuple_s (by rw [hfin]), (by rw [hfin]; constructor <;> (simp only; omega)), L9, ?_, (hM6.trans hM8).trans hA9.mvs⟩
        have e1 : takeS s i t n = lookL { s with ts := s.ts.set i { ({ showT t with taken := tk } : Mv) with has := dropL s.blk s.win { showT t with taken := tk } } } := by
          unfold takeS takenT; rw [hfin]; rfl
        rw [e1]; exact hA9.at_
    · clear hgw
      have HFIN : Hid (takeEnd s t n = (tk, out)) := by
        show _ = _; rw [HTG.out, List.drop_eq_nil_of_le (by omega)]; rfl
      clear HAt HTG
      go_wp2_with fail
      have htt : ({ s with ts := s.ts.set i { showT t with taken := tk } } : Pr).ts[i]? = some { showT t with taken := tk } := by simp [hi]
      have hTt : L.vT = .slice (some ⟨g, 0, none⟩) ({ s with ts := s.ts.set i { showT t with taken := tk } } : Pr).ts.length cap := by rw [hT]; simp
      obtain ⟨hmt, hhat⟩ := hP.mv htt hh hTt
      have hsett := hP.set (s := { s with ts := s.ts.set i { showT t with taken := tk } }) ⟨inv.fair.m1, inv.fair.m2, inv.fair.B1, inv.fair.B2, inv.fair.W1, inv.fair.W2, inv.fair.c1, inv.fair.c2, inv.fair.t1, inv.fair.t2⟩
      have hokt : MvOk { showT t with taken := tk } := ⟨hok.sp, hok.t0, hok.t1, by show 0 ≤ tk; omega, by show tk ≤ 1000; omega, hok.hl, hok.hb⟩
      have hnet : hv.ownBlock ≠ some g := fun e => hP.sep (i + 4) 0 hv L.vT g (by omega) (by simpa [Lay.vs] using hh) rfl e (by rw [hT]; rfl)
      refine (drop_any p g (i * 12) s.blk s.win { showT t with taken := tk } hv _ hmt hokt hsett hhat hnet).mono ?_
      rintro e w8 ⟨rfl, hown8, hC8⟩
      obtain ⟨hP8, hM8⟩ := tail_drop hP htt hh hTt hown8 hC8
      simp only [List.set_set] at hP8
      have hinv8 : Inv { s with ts := s.ts.set i { ({ showT t with taken := tk } : Mv) with has := dropL s.blk s.win { showT t with taken := tk } } } C := set_inv s i _ C inv
        ⟨hok.sp, hok.t0, hok.t1, by show 0 ≤ tk; omega, by show tk ≤ 1000; omega, by show (dropL s.blk s.win _).length ≤ _; unfold dropL; rw [dropTo_len]; exact hok.hl, fun b hb => by
          rcases dropTo_mem _ _ _ b hb with h1 | h1
          · exact hok.hb b h1
          · rw [h1]; decide⟩
      clear hmt hhat hsett hown8 hC8
      go_wp2_with fail
      refine (look_any p _ L C _ hP8 hinv8 (by omega)).mono ?_
      rintro e w9 ⟨rfl, L9, hA9⟩
      go_wp2_with fail
      go_ret2
      have hfin := HFIN.out
      refine ⟨ret_tuple_s (by rw [hfin]), (by rw [hfin]; constructor <;> (simp only; omega)), L9, ?_, (hM.trans hM8).trans hA9.mvs⟩
      have e1 : takeS s i t n = lookL { s with ts := s.ts.set i { ({ showT t with taken := tk } : Mv) with has := dropL s.blk s.win { showT t with taken := tk } } } := by
        unfold takeS takenT; rw [hfin]; rfl
      rw [e1]; exact hA9.at_
end Go.Proofs.YtjhihliciadipabGreat
