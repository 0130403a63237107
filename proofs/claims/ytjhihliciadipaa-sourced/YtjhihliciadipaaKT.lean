import Derived.Test.YtjhihliciadipaaKS
set_option linter.unusedVariables false
set_option linter.unusedSimpArgs false
set_option linter.unnecessarySimpa false
namespace Go.Proofs.Ytjhihliciadipaa
open Go.RowKit

theorem PlX.sentC {w : World} {y : Nat} {col : Nat → Nat} {k : Nat} {P : Pl} {V : Pv} (h : PlAt w y col k P V) {g cap : Nat} (hv : V.s = .slice (some ⟨g, 0, none⟩) P.sent.length cap) (i : Nat) (r : Rp) (hr : P.sent[i]? = some r) (j : Nat) (hj : j < 4) :
    w.cell? ⟨g, i * 4 + j, none⟩ = (rpV r)[j]? := by
  have ho := (h.ss id).1
  rw [hv] at ho
  have hi := (List.getElem?_eq_some_iff.1 hr).1
  have hm : i * 4 + j < P.sent.length * 4 := by have : (i + 1) * 4 ≤ P.sent.length * 4 := Nat.mul_le_mul_right 4 hi; omega
  rw [ho.cellAt (i * 4 + j) hm, flat_get 4 _ (rps_len _) i j hj]
  simp [hr]

set_option maxRecDepth 100000 in
set_option maxHeartbeats 8000000 in
theorem told_any (y : Nat) (col : Nat → Nat) (k : Nat) (P : Pl) (V : Pv) (path pos : Int) (hd : Hd) (c : UInt8) (w : World) (h : PlAt w y col k P V) (hsd : P.sent.length = P.dst.length) (hsn : P.sent.length ≤ 3000000000000) (hT : ToldB P.sent P.dst path hd.tag hd.tot pos (some c)) (hp : I64 pos) :
    Calls Try.prog 26 #[.pointer (some ⟨y, 0, none⟩), .int .i64 path, hdAgg hd, .int .i64 pos, .int .u8 c.toNat] w fun e w' => e = .returned (.bool true) ∧ Ext w w' := by
  obtain ⟨st, tag, tot, frm, len⟩ := hd
  obtain ⟨k0, r0, j0, s1, s2, s3, s4, s5, s6, s7, s8⟩ := hT
  unfold hdAgg
  simp only at *
  have hE0 := Ext.new w (.cells #[.int .i64 st, .int .i64 tag, .int .i64 tot, .int .i64 frm, .int .i64 len] 46)
  have hbx := Blk.new w 46 #[.int .i64 st, .int .i64 tag, .int .i64 tot, .int .i64 frm, .int .i64 len]
  have h0 := h.ext hE0 0
  have hk0 := (List.getElem?_eq_some_iff.1 s1).1
  go_enter Try.func26, Try.ntmps26
  go_wp2_with fail
  generalize w.alloc (.cells #[.int .i64 st, .int .i64 tag, .int .i64 tot, .int .i64 frm, .int .i64 len] 46) = w0 at *
  obtain ⟨aS, capS, hvS, hgS⟩ := own_form (h0.ss id).1
  obtain ⟨gS, rfl⟩ := hgS (by omega)
  obtain ⟨aO, capO, hvO, hgO⟩ := own_form (h0.oo id).1
  obtain ⟨gO, rfl⟩ := hgO (by omega)
  have H0 := hide h0
  have HS1 := hide s1
  have HS2 := hide s2
  have HS := hide (And.intro s3 (And.intro s4 (And.intro s5 (And.intro s6 s7))))
  have HvS := hide hvS
  have HvO := hide hvO
  have HE0 := hide hE0
  have hyl := h0.lt
  have hbl := hbx.lt
  have HBX := hide hbx
  clear h h0 s1 s2 s3 s4 s5 s6 s7 hvS hvO hE0 hgS hgO hbx
  go_loopw [11] (fun i wr => ∃ n : Nat, n ≤ k0 ∧ i = .int .i64 n ∧ Ext w0 wr) (fun i _ => k0 - (intOf i).toNat)
  case atStart => exact ⟨0, by omega, rfl, Below.refl _ _⟩
  case round =>
    obtain ⟨n, hn, rfl, hE⟩ := hrel
    have hL := H0.out.ext hE 0
    have c27 : wr.cell? ⟨y, 27, none⟩ = some (.slice (some ⟨gS, 0, none⟩) P.sent.length capS) := by rw [← HvS.out]; exact hL.cEnd 3
    have c28 : wr.cell? ⟨y, 28, none⟩ = some (.slice (some ⟨gO, 0, none⟩) P.dst.length capO) := by rw [← HvO.out]; exact hL.cEnd 4
    have hlt : (n : Int) < P.sent.length := by omega
    have hlt2 : (n : Int) < P.dst.length := by omega
    obtain ⟨r, hr⟩ : ∃ r, P.sent[n]? = some r := ⟨_, List.getElem?_eq_getElem (by omega)⟩
    obtain ⟨d, hd⟩ : ∃ d, P.dst[n]? = some d := ⟨_, List.getElem?_eq_getElem (by omega)⟩
    have m0 : wr.cell? ⟨gS, n * 4, none⟩ = some (.int .i64 r.tag) := hL.sentC HvS.out n r hr 0 (by omega)
    have m1 : wr.cell? ⟨gS, n * 4 + 1, none⟩ = some (.int .i64 r.tot) := hL.sentC HvS.out n r hr 1 (by omega)
    have m2 : wr.cell? ⟨gS, n * 4 + 2, none⟩ = some (.int .i64 r.off) := hL.sentC HvS.out n r hr 2 (by omega)
    have m3 : wr.cell? ⟨gS, n * 4 + 3, none⟩ = some (.string r.body) := hL.sentC HvS.out n r hr 3 (by omega)
    have mo : wr.cell? ⟨gO, n, none⟩ = some (.int .i64 d) := by
      have ho := (hL.oo id).1
      rw [HvO.out] at ho
      rw [ho.cellAt n (by omega)]; simp [hd]
    have hbx := HBX.out.ext hE
    have x1 : wr.cell? ⟨w.heap.size, 1, none⟩ = some (.int .i64 tag) := hbx.cell 1
    have x2 : wr.cell? ⟨w.heap.size, 2, none⟩ = some (.int .i64 tot) := hbx.cell 2
    have hyr := hL.lt
    have hblr := hbx.lt
    have hgSl : gS < wr.heap.size := World.block_lt_of_cell? wr _ m0
    have hgOl : gO < wr.heap.size := World.block_lt_of_cell? wr _ mo
    have HX := hide (Ext.trans' HE0.out hE)
    have HR := hide hr
    have HDd := hide hd
    obtain ⟨rt, ro, rf, rb⟩ := r
    simp only at m0 m1 m2 m3
    obtain ⟨iv, hiv⟩ : ∃ iv, Go.RowKit.wrap64 (pos - rf) = iv := ⟨_, rfl⟩
    have HW : Hid (Go.RowKit.wrap64 (pos - rf) = iv) := hiv
    have HK : Hid (n = k0 → d = path ∧ rt = tag ∧ ro = tot ∧ iv = j0 ∧ j0 < rb.size ∧ rb.data.toList[j0]? = some c) := by
      rintro rfl
      have e1 := HS1.out
      rw [hr] at e1
      simp at e1
      have e2 := HS2.out
      rw [hd] at e2
      simp at e2
      obtain ⟨a1, a2, a3, a4, a5⟩ := HS.out
      rw [← e1] at a1 a2 a3 a4 a5
      simp only at a1 a2 a3 a4 a5
      refine ⟨e2, a1, a2, ?_, a4, a5⟩
      rw [← hiv, a3]
      exact Go.IntWalk.wrap64_in _ (by have := hp.lo; have := hp.hi; constructor <;> omega)
    clear hL hbx hr hd
    go_upto_region 6 with (fail)
    rw [hiv]
    have hEn := Ext.new wr (.cells #[.int .i64 rt, .int .i64 ro, .int .i64 rf, .string rb] 42)
    have hbn := Blk.new wr 42 #[.int .i64 rt, .int .i64 ro, .int .i64 rf, .string rb]
    have d28 := ext_cell hEn c28
    have dmo := ext_cell hEn mo
    have dx1 := ext_cell hEn x1
    have dx2 := ext_cell hEn x2
    generalize wr.alloc (.cells #[.int .i64 rt, .int .i64 ro, .int .i64 rf, .string rb] 42) = wn at *
    have t0 : wn.cell? ⟨wr.heap.size, 0, none⟩ = some (.int .i64 rt) := hbn.cell 0
    have t1 : wn.cell? ⟨wr.heap.size, 1, none⟩ = some (.int .i64 ro) := hbn.cell 1
    have t3 : wn.cell? ⟨wr.heap.size, 3, none⟩ = some (.string rb) := hbn.cell 3
    have HEn := hide (Ext.trans' hE hEn)
    have HXn := hide (Ext.trans' HX.out hEn)
    clear c27 c28 m0 m1 m2 m3 mo x1 x2 hbn hE hEn hiv HW HR HDd HX
    by_cases q1 : d = path
    · by_cases q2 : rt = tag
      · by_cases q3 : ro = tot
        · by_cases q4 : 0 ≤ iv
          · obtain ⟨ji, rfl⟩ := Int.eq_ofNat_of_zero_le q4
            by_cases q5 : ji < rb.size
            · have q5' : (ji : Int) < rb.size := by omega
              have HBy : Hid (n = k0 → rb[ji]'q5 = c) := by
                intro e
                obtain ⟨-, -, -, h4, h5, h6⟩ := HK.out e
                have : ji = j0 := by omega
                subst this
                obtain ⟨h7, h8⟩ := List.getElem?_eq_some_iff.1 h6
                exact h8
              by_cases q6 : ((((rb[ji]'q5).toNat : Int) == (c.toNat : Int)) = true)
              · subst q1 q2 q3
                go_wp2_with fail
                go_ret
                exact ⟨rfl, HXn.out⟩
              · have hne : n ≠ k0 := fun e => q6 (by rw [HBy.out e]; simp)
                have q6' : ((((rb[ji]'q5).toNat : Int) == (c.toNat : Int)) = false) := by simpa using q6
                subst q1 q2 q3
                go_wp2_with fail
                exact ⟨⟨n + 1, by omega, by go_num, HEn.out⟩, by simp [intOf]; omega⟩
            · have hne : n ≠ k0 := fun e => by
                obtain ⟨-, -, -, h4, h5, -⟩ := HK.out e
                omega
              have q5' : ¬ (ji : Int) < rb.size := by omega
              subst q1 q2 q3
              go_wp2_with fail
              exact ⟨⟨n + 1, by omega, by go_num, HEn.out⟩, by simp [intOf]; omega⟩
          · have hne : n ≠ k0 := fun e => q4 (by rw [(HK.out e).2.2.2.1]; omega)
            subst q1 q2 q3
            go_wp2_with fail
            exact ⟨⟨n + 1, by omega, by go_num, HEn.out⟩, by simp [intOf]; omega⟩
        · have hne : n ≠ k0 := fun e => q3 (HK.out e).2.2.1
          have q3' : (ro == tot) = false := by simpa using q3
          subst q1 q2
          go_wp2_with fail
          exact ⟨⟨n + 1, by omega, by go_num, HEn.out⟩, by simp [intOf]; omega⟩
      · have hne : n ≠ k0 := fun e => q2 (HK.out e).2.1
        have q2' : (rt == tag) = false := by simpa using q2
        subst q1
        go_wp2_with fail
        exact ⟨⟨n + 1, by omega, by go_num, HEn.out⟩, by simp [intOf]; omega⟩
    · have hne : n ≠ k0 := fun e => q1 (HK.out e).1
      have q1' : (d == path) = false := by simpa using q1
      go_wp2_with fail
      exact ⟨⟨n + 1, by omega, by go_num, HEn.out⟩, by simp [intOf]; omega⟩
theorem sourced_round {sent : List Rp} {dst : List Int} {B W : Int} {t : Tr} {T : ByteArray} (hB : 1 ≤ B) (h : TI (KnS sent dst B) B W t T) (p : Nat) (hp : p < T.size) : ToldB sent dst t.path t.hd.tag t.hd.tot (t.hd.frm + p) T.data.toList[p]? := by
  have hz := h.tz
  obtain ⟨b, hD, hb⟩ := h.tk p (by omega)
  rw [← hb]
  have hm1 := Int.emod_nonneg (t.hd.frm + p) (show B ≠ 0 by omega)
  have hd1 := Int.mul_ediv_add_emod (t.hd.frm + p) B
  rw [Int.mul_comm] at hd1
  have hlt : ((t.hd.frm + p) % B).toNat < b.size := by
    have h1 : T.data.toList[p]? = some (T.data.toList[p]'(by rw [ba_size]; exact hp)) := List.getElem?_eq_getElem _
    rw [h1] at hb
    have := (List.getElem?_eq_some_iff.1 hb).1
    rwa [ba_size] at this
  have := hD.2 _ hlt
  have e : (ofT t ((t.hd.frm + p) / B)).blk * B + (((t.hd.frm + p) % B).toNat : Int) = t.hd.frm + p := by
    show (t.hd.frm + p) / B * B + (((t.hd.frm + p) % B).toNat : Int) = _
    omega
  rw [e] at this
  exact this
end Go.Proofs.Ytjhihliciadipaa
