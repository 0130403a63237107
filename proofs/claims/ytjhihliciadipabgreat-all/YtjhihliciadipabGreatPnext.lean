import Derived.Test.YtjhihliciadipabGreatPver
import Derived.Test.YtjhihliciadipabGreatPwant
import Derived.Deep.RegionHeld3
set_option linter.unusedVariables false
set_option linter.unusedSimpArgs false
set_option linter.unnecessarySimpa false
namespace Go.Proofs.YtjhihliciadipabGreat
open Go.RowKit

theorem hasM_any (q : Nat) (m : Int) (g : Pg) (w : World) (h : PgAt w q g) :
    Calls Tryz.prog 47 #[.pointer (some ⟨q, 0, none⟩), .int .i64 m] w fun e w' => e = .returned (.bool (hasM g.s m)) ∧ w' = w := by
  have c0 : w.cell? ⟨q, 0, none⟩ = some (.int .i64 g.s.mir) := h.cSet 0 (by omega)
  unfold hasM
  clear h
  go_enter Tryz.func47, Tryz.ntmps47
  go_wp2_with fail
  all_goals
    go_ret
    refine ⟨ret_bool ?_, rfl⟩
    simp <;> omega

theorem hasT_any (q : Nat) (id : Int) (g : Pg) (w : World) (h : PgAt w q g) :
    Calls Tryz.prog 60 #[.pointer (some ⟨q, 0, none⟩), .int .i64 id] w fun e w' => e = .returned (.bool (hasT g.s id)) ∧ w' = w := by
  have hvT : w.cell? ⟨q, 13, none⟩ = some g.v.t := h.cV
  obtain ⟨aT, capT, hT, -⟩ := own_form h.ts
  rw [hT] at hvT
  have hn := h.ok.nt
  unfold hasT
  clear h hT
  go_enter Tryz.func60, Tryz.ntmps60
  go_wp2_with fail
  all_goals
    go_ret
    refine ⟨ret_bool ?_, rfl⟩
    simp <;> omega

def erHit (x : Bool × Er) (e : Er) : Bool := x.1 && x.2 == e
set_option maxHeartbeats 2000000 in
theorem isSent_any (q : Nat) (e : Er) (g : Pg) (w : World) (h : PgAt w q g) :
    Calls Tryz.prog 84 #[.pointer (some ⟨q, 0, none⟩), erAgg e] w fun r w' => r = .returned (.bool (isSentL g.s e)) ∧ Ext w w' := by
  have hql := h.blk.lt
  have nb := h.ok.nb
  have ne := h.ok.ne
  have hE := Ext.new w (.cells #[.int .i64 e.path, .int .i64 e.tag, .int .i64 e.tot, .int .i64 e.blk] 94)
  have hB := Blk.new w 94 #[.int .i64 e.path, .int .i64 e.tag, .int .i64 e.tot, .int .i64 e.blk]
  have HL : Hid ((g.s.busy.zip g.s.ers).length = 3) := by show _ = _; simp [nb, ne]
  rw [erAgg_eq]
  go_enter Tryz.func84, Tryz.ntmps84
  go_wp2_with fail
  have h1 := h.ext hE
  generalize w.alloc (.cells #[.int .i64 e.path, .int .i64 e.tag, .int .i64 e.tot, .int .i64 e.blk] 94) = w0 at *
  have k0 : w0.cell? ⟨w.heap.size, 0, none⟩ = some (.int .i64 e.path) := hB.cell 0
  have k1 : w0.cell? ⟨w.heap.size, 1, none⟩ = some (.int .i64 e.tag) := hB.cell 1
  have k2 : w0.cell? ⟨w.heap.size, 2, none⟩ = some (.int .i64 e.tot) := hB.cell 2
  have k3 : w0.cell? ⟨w.heap.size, 3, none⟩ = some (.int .i64 e.blk) := hB.cell 3
  go_loopg [5] 3 (fun m v wr => ∃ k : Nat, m = 3 - k ∧ k ≤ 3 ∧ v = .int .i64 k ∧ (∃ n, wr = w0.drewN n) ∧ Hid (∀ (j : Nat) x, j < k → (g.s.busy.zip g.s.ers)[j]? = some x → (x.1 && x.2 == e) = false))
  case atStart => exact ⟨0, rfl, by omega, rfl, ⟨0, rfl⟩, fun j x hj => absurd hj (by omega)⟩
  case round =>
    obtain ⟨k, rfl, hk, rfl, ⟨n, rfl⟩, HA⟩ := hrel
    by_cases hlt : k < 3
    · obtain ⟨b, hb⟩ : ∃ b, g.s.busy[k]? = some b := ⟨_, List.getElem?_eq_getElem (by omega)⟩
      obtain ⟨x, hx⟩ : ∃ x, g.s.ers[k]? = some x := ⟨_, List.getElem?_eq_getElem (by omega)⟩
      have HZ : Hid ((g.s.busy.zip g.s.ers)[k]? = some (b, x)) := by show _ = _; rw [List.getElem?_zip_eq_some]; exact ⟨hb, hx⟩
      have HQ := hide (er_beq x e)
      have cb : w0.cell? ⟨q, 14 + k, none⟩ = some (.bool b) := h1.cBusy k b hb
      have e0 : w0.cell? ⟨q, 17 + k * 4, none⟩ = some (.int .i64 x.path) := h1.cEr k 0 x hx (by omega)
      have e1 : w0.cell? ⟨q, 17 + k * 4 + 1, none⟩ = some (.int .i64 x.tag) := by rw [Nat.add_assoc]; exact h1.cEr k 1 x hx (by omega)
      have e2 : w0.cell? ⟨q, 17 + k * 4 + 2, none⟩ = some (.int .i64 x.tot) := by rw [Nat.add_assoc]; exact h1.cEr k 2 x hx (by omega)
      have e3 : w0.cell? ⟨q, 17 + k * 4 + 3, none⟩ = some (.int .i64 x.blk) := by rw [Nat.add_assoc]; exact h1.cEr k 3 x hx (by omega)
      clear hb hx
      have HN : Hid ((b && x == e) = false → ∀ (j : Nat) y, j < k + 1 → (g.s.busy.zip g.s.ers)[j]? = some y → (y.1 && y.2 == e) = false) := by
        intro hbx j y hj hy
        by_cases hjk : j = k
        · subst hjk; rw [HZ.out] at hy; simp at hy; subst hy; exact hbx
        · exact HA.out j y (by omega) hy
      have HY : Hid ((b && x == e) = true → isSentL g.s e = true) := by
        intro hbx
        unfold isSentL
        rw [List.any_eq_true]
        exact ⟨(b, x), List.mem_of_getElem? HZ.out, hbx⟩
      cases b
      · have HN1 := hide (HN.out rfl)
        clear HN HY HA HZ
        go_wp2_with fail
        go_quiet (fail)
        go_wp2_with fail
        go_roundg (3 - (k + 1))
        case measure => omega
        case rel => exact ⟨k + 1, rfl, by omega, by go_num, ⟨_, rfl⟩, HN1⟩
      · go_wp2_with fail
        by_cases h1 : x.path = e.path
        · by_cases h2 : x.tag = e.tag
          · by_cases h3 : x.tot = e.tot
            · by_cases h4 : x.blk = e.blk
              · have HY1 := hide (HY.out (by rw [HQ.out]; simp [h1, h2, h3, h4]))
                clear HN HY HA HZ HQ
                go_quiet (fail)
                go_wp2_with fail
                go_ret
                exact ⟨ret_bool HY1.out.symm, Ext.trans' hE (Ext.drewN (Ext.drewN (Below.refl _ _) _) _)⟩
              · have HN1 := hide (HN.out (by rw [HQ.out]; simp [h4]))
                clear HN HY HA HZ HQ
                go_quiet (fail)
                go_wp2_with fail
                go_roundg (3 - (k + 1))
                case measure => omega
                case rel => exact ⟨k + 1, rfl, by omega, by go_num, ⟨_, rfl⟩, HN1⟩
            · have HN1 := hide (HN.out (by rw [HQ.out]; simp [h3]))
              clear HN HY HA HZ HQ
              go_quiet (fail)
              go_wp2_with fail
              go_roundg (3 - (k + 1))
              case measure => omega
              case rel => exact ⟨k + 1, rfl, by omega, by go_num, ⟨_, rfl⟩, HN1⟩
          · have HN1 := hide (HN.out (by rw [HQ.out]; simp [h2]))
            clear HN HY HA HZ HQ
            go_quiet (fail)
            go_wp2_with fail
            go_roundg (3 - (k + 1))
            case measure => omega
            case rel => exact ⟨k + 1, rfl, by omega, by go_num, ⟨_, rfl⟩, HN1⟩
        · have HN1 := hide (HN.out (by rw [HQ.out]; simp [h1]))
          clear HN HY HA HZ HQ
          go_quiet (fail)
          go_wp2_with fail
          go_roundg (3 - (k + 1))
          case measure => omega
          case rel => exact ⟨k + 1, rfl, by omega, by go_num, ⟨_, rfl⟩, HN1⟩
    · have HF : Hid (isSentL g.s e = false) := by
        show _ = _
        unfold isSentL
        rw [List.any_eq_false]
        intro y hy
        obtain ⟨j, hj⟩ := List.mem_iff_getElem?.1 hy
        have hjl := (List.getElem?_eq_some_iff.1 hj).1
        rw [HL.out] at hjl
        simpa using HA.out j y (by omega) hj
      have hk3 : k = 3 := by omega
      subst hk3
      go_wp2_with fail
      go_ret
      exact ⟨ret_bool HF.out.symm, Ext.trans' hE (Ext.drewN (Below.refl _ _) _)⟩
end Go.Proofs.YtjhihliciadipabGreat

namespace Go.Proofs.YtjhihliciadipabGreat
open Go.RowKit

def optEr (x : Option Er) : Er := x.getD noEr
theorem PgAt.setC {w : World} {q : Nat} {g : Pg} (h : PgAt w q g) : w.cell? ⟨q, 0, none⟩ = some (.int .i64 g.s.mir) ∧ w.cell? ⟨q, 1, none⟩ = some (.int .i64 g.s.blk) ∧ w.cell? ⟨q, 2, none⟩ = some (.int .i64 g.s.win) ∧ w.cell? ⟨q, 3, none⟩ = some (.int .i64 g.s.cap) ∧ w.cell? ⟨q, 4, none⟩ = some (.int .i64 g.s.tri) :=
  ⟨h.cSet 0 (by omega), h.cSet 1 (by omega), h.cSet 2 (by omega), h.cSet 3 (by omega), h.cSet 4 (by omega)⟩

theorem find_hitE {s : Px} {l : List Er} {m : Nat} {e : Er} (h : l[m]? = some e) (hs : isSentL s e = false) (ha : ∀ (j : Nat) x, j < m → l[j]? = some x → isSentL s x = true) : l.find? (fun e => !isSentL s e) = some e := by
  induction l generalizing m with
  | nil => simp at h
  | cons a l ih =>
    cases m with
    | zero => simp at h; subst h; simp [hs]
    | succ m =>
      rw [List.find?_cons, ha 0 a (by omega) rfl]
      exact ih (m := m) (by simpa using h) (fun j x hj hx => ha (j + 1) x (by omega) (by simpa using hx))
theorem find_noneE {s : Px} {l : List Er} (ha : ∀ (j : Nat) x, j < l.length → l[j]? = some x → isSentL s x = true) : l.find? (fun e => !isSentL s e) = none := by
  rw [List.find?_eq_none]
  intro x hx
  obtain ⟨j, hj⟩ := List.mem_iff_getElem?.1 hx
  simp [ha j x (List.getElem?_eq_some_iff.1 hj).1 hj]
theorem findSome_hit {s : Px} {l : List Tr} {k : Nat} {t : Tr} {e : Er} (hk : l[k]? = some t) (hall : ∀ (j : Nat) u, j < k → l[j]? = some u → errOf s u = none) (h : errOf s t = some e) : l.findSome? (errOf s) = some e := by
  induction l generalizing k with
  | nil => simp at hk
  | cons a l ih =>
    cases k with
    | zero => simp at hk; subst hk; rw [List.findSome?_cons, h]
    | succ k =>
      rw [List.findSome?_cons, hall 0 a (by omega) rfl]
      exact ih (k := k) (by simpa using hk) (fun j u hj hu => hall (j + 1) u (by omega) (by simpa using hu))
theorem findSome_none {s : Px} {l : List Tr} (hall : ∀ (j : Nat) u, j < l.length → l[j]? = some u → errOf s u = none) : l.findSome? (errOf s) = none := by
  rw [List.findSome?_eq_none_iff]
  intro u hu
  obtain ⟨j, hj⟩ := List.mem_iff_getElem?.1 hu
  exact hall j u (List.getElem?_eq_some_iff.1 hj).1 hj

set_option maxRecDepth 100000 in
set_option maxHeartbeats 4000000 in
theorem nextErrand_any (q : Nat) (g : Pg) (w : World) (h : PgAt w q g) :
    Calls Tryz.prog 48 #[.pointer (some ⟨q, 0, none⟩)] w fun r w' =>
      r = .returned (.tuple #[erAgg (optEr (nextE g.s)), .bool (nextE g.s).isSome]) ∧ Ext w w' := by
  have hE0 := Ext.new w (.cells #[.int .i64 0, .int .i64 0, .int .i64 0, .int .i64 0] 94)
  have hB0 := Blk.new w 94 #[.int .i64 0, .int .i64 0, .int .i64 0, .int .i64 0]
  have HNE : Hid (nextE g.s = g.s.trs.findSome? (errOf g.s)) := rfl
  generalize nextE g.s = res at *
  have hn8 := h.ok.nt
  have hf := h.ok.fair
  obtain ⟨aT, capT, hT, hT0⟩ := own_form h.ts
  go_enter Tryz.func48, Tryz.ntmps48
  go_wp2_with fail
  generalize w.alloc (.cells #[.int .i64 0, .int .i64 0, .int .i64 0, .int .i64 0] 94) = w0 at *
  go_loopw [4] (fun v wr => ∃ n : Nat, n ≤ g.s.trs.length ∧ v = .int .i64 n ∧ Ext w wr ∧ Blk wr w.heap.size 94 #[.int .i64 0, .int .i64 0, .int .i64 0, .int .i64 0] ∧ Hid (∀ (j : Nat) u, j < n → g.s.trs[j]? = some u → errOf g.s u = none)) (fun v _ => g.s.trs.length - (intOf v).toNat)
  case atStart => exact ⟨0, by omega, rfl, hE0, hB0, fun j u hj => absurd hj (by omega)⟩
  case round =>
    obtain ⟨n, hn, rfl, hXr, hBr, HA⟩ := hrel
    have hr := h.ext hXr
    have c13 : wr.cell? ⟨q, 13, none⟩ = some (.slice aT g.s.trs.length capT) := by rw [← hT]; exact hr.cV
    have z0 : wr.cell? ⟨w.heap.size, 0, none⟩ = some (.int .i64 0) := hBr.cell 0
    have z1 : wr.cell? ⟨w.heap.size, 1, none⟩ = some (.int .i64 0) := hBr.cell 1
    have z2 : wr.cell? ⟨w.heap.size, 2, none⟩ = some (.int .i64 0) := hBr.cell 2
    have z3 : wr.cell? ⟨w.heap.size, 3, none⟩ = some (.int .i64 0) := hBr.cell 3
    have zf := hBr.frozen
    have hBl := hBr.lt
    by_cases hlt : n < g.s.trs.length
    · obtain ⟨b, rfl⟩ := hT0 (by omega)
      obtain ⟨t, ht⟩ : ∃ t, g.s.trs[n]? = some t := ⟨_, List.getElem?_eq_getElem hlt⟩
      have HTn := hide ht
      obtain ⟨b', cap', hT', hTr, -⟩ := hr.row ht
      have hbb : b' = b := by
        have := hT.symm.trans hT'
        simp at this; exact this.1.symm
      subst hbb
      have ok := h.ok.ts t (List.mem_of_getElem? ht)
      have HW := hide (wanted_any b' (n * 18) t g.s)
      have hl4 := wantedL_len ok hf
      have HS : Hid (errOf g.s t = none → ∀ (j : Nat) u, j < n + 1 → g.s.trs[j]? = some u → errOf g.s u = none) := by
        intro h0 j u hj hu
        by_cases hjn : j = n
        · subst hjn; rw [HTn.out] at hu; simp at hu; subst hu; exact h0
        · exact HA.out j u (by omega) hu
      have HF : Hid (∀ e, errOf g.s t = some e → res = some e) := fun e he => by rw [HNE.out]; exact findSome_hit HTn.out HA.out he
      have HEO : Hid (errOf g.s t = (wantedL g.s.blk g.s.win t).find? (fun e => !isSentL g.s e)) := rfl
      generalize wantedL g.s.blk g.s.win t = l at *
      clear ht hT' hT hT0
      obtain ⟨m0, m1, m2, m3, m4⟩ := hr.setC
      have hlt' : (n : Int) < g.s.trs.length := by omega
      rw [setAgg_eq] at HW
      go_wp2_with fail
      go_cut [5] (fun v wx => ∃ a1 cap1, v = .slice a1 l.length cap1 ∧ wx.ownsRow wr.heap.size 94 4 (.slice a1 l.length cap1) l.length (l.map perV).flatten ∧ Ext wr wx)
      case first =>
        go_region_held3 (fun w' => w'.cell? ⟨q, 13, none⟩ = some (.slice (some ⟨b', 0, none⟩) g.s.trs.length capT) ∧ w'.cell? ⟨q, 0, none⟩ = some (.int .i64 g.s.mir) ∧ w'.cell? ⟨q, 1, none⟩ = some (.int .i64 g.s.blk) ∧ w'.cell? ⟨q, 2, none⟩ = some (.int .i64 g.s.win) ∧ w'.cell? ⟨q, 3, none⟩ = some (.int .i64 g.s.cap) ∧ w'.cell? ⟨q, 4, none⟩ = some (.int .i64 g.s.tri)) (go_keep)
          ((go_at_call 75
            refine (HW.out _ (hTr.ext (Below.drew (Below.refl _ _))) ok hf).mono ?_
            rintro r w4 ⟨⟨v4, rfl, ho4⟩, hE4⟩
            have m0' := ext_cell hE4.undrew m0
            have m1' := ext_cell hE4.undrew m1
            have m2' := ext_cell hE4.undrew m2
            have m3' := ext_cell hE4.undrew m3
            have m4' := ext_cell hE4.undrew m4
            have c13' := ext_cell hE4.undrew c13
            obtain ⟨a4, cap4, rfl, hg4⟩ := own_form ho4))
        all_goals go_wp2_with fail
        all_goals go_meet
        all_goals exact ⟨_, _, rfl, ho4, hE4.undrew⟩
      case rest =>
        obtain ⟨a1, cap1, rfl, hown1, hE1⟩ := hcut
        have hg1 : 0 < l.length → ∃ g, a1 = some ⟨g, 0, none⟩ := by
          obtain ⟨a2, cap2, he, hg2⟩ := own_form hown1
          simp at he; obtain ⟨rfl, -⟩ := he; exact hg2
        have hX1 := Ext.trans' hXr hE1
        clear HW m0 m1 m2 m3 m4 c13 z0 z1 z2 z3 zf
        generalize wc = w1 at *
        go_wp2_with fail
        go_loopw [6] (fun i wr2 => ∃ m : Nat, m ≤ l.length ∧ i = .int .i64 m ∧ Ext w1 wr2 ∧ Hid (∀ (j : Nat) x, j < m → l[j]? = some x → isSentL g.s x = true)) (fun i _ => l.length - (intOf i).toNat)
        case atStart => exact ⟨0, Nat.zero_le _, rfl, Below.refl _ _, fun j x hj => absurd hj (by omega)⟩
        case round =>
          obtain ⟨m, hm, rfl, hE2, HK⟩ := hrel
          have hX3 := Ext.trans' hX1 hE2
          have hP3 := h.ext hX3
          have hB3 := hBr.ext (Ext.trans' hE1 hE2)
          by_cases hlt3 : m < l.length
          · obtain ⟨g1, rfl⟩ := hg1 (by omega)
            obtain ⟨e, he⟩ : ∃ e, l[m]? = some e := ⟨_, List.getElem?_eq_getElem hlt3⟩
            obtain ⟨e0, e1, e2, e3⟩ := ers_own (own_ext hown1 hE2) rfl he
            have HI := hide (isSent_any q e g)
            have HN : Hid (isSentL g.s e = true → ∀ (j : Nat) x, j < m + 1 → l[j]? = some x → isSentL g.s x = true) := by
              intro hs j x hj hx
              by_cases hjm : j = m
              · subst hjm; rw [he] at hx; simp at hx; subst hx; exact hs
              · exact HK.out j x (by omega) hx
            have HY : Hid (isSentL g.s e = false → res = some e) := fun hs => HF.out e (by rw [HEO.out]; exact find_hitE he hs HK.out)
            have hlt3' : (m : Int) < l.length := by omega
            generalize isSentL g.s e = sv at *
            rw [erAgg_eq] at HI
            clear he hg1
            go_wp2_with fail
            refine (HI.out _ hP3).mono ?_
            rintro r w5 ⟨rfl, hE5⟩
            cases sv
            · have HY1 := hide (HY.out rfl)
              have hB5 := hB3.ext hE5
              have hX5 := Ext.trans' hX3 hE5
              have e0' := ext_cell hE5 e0
              have e1' := ext_cell hE5 e1
              have e2' := ext_cell hE5 e2
              have e3' := ext_cell hE5 e3
              have z0 : w5.cell? ⟨w.heap.size, 0, none⟩ = some (.int .i64 0) := hB5.cell 0
              have z1 : w5.cell? ⟨w.heap.size, 1, none⟩ = some (.int .i64 0) := hB5.cell 1
              have z2 : w5.cell? ⟨w.heap.size, 2, none⟩ = some (.int .i64 0) := hB5.cell 2
              have z3 : w5.cell? ⟨w.heap.size, 3, none⟩ = some (.int .i64 0) := hB5.cell 3
              have zf := hB5.frozen
              have hBl5 := hB5.lt
              clear HN HY HK HI HS HF e0 e1 e2 e3
              go_wp2_with fail
              refine bodyPost_ret (v := .tuple #[erAgg e, .bool true]) (by simp [results, Tryz.results48, go_sem, erAgg, z0, z1, z2, z3, hBl5]) rfl ⟨by rw [HY1.out]; rfl, ?_⟩
              (with_reducible repeat (first | refine Below.drew ?_ | refine Below.setCell ?_ ?_ _ | refine Below.alloc ?_ ?_ _ | exact hX5)) <;> first | (simp; done) | (simp [World.setCell]; exact hX5.size)
            · have HN1 := hide (HN.out rfl)
              clear HN HY HI
              go_wp2_with fail
              exact ⟨⟨m + 1, by omega, by go_num, Ext.trans' hE2 hE5, HN1⟩, by simp [intOf]; omega⟩
          · have HS1 := hide (HS.out (by rw [HEO.out]; exact find_noneE (fun j x hj hx => HK.out j x (by omega) hx)))
            clear hg1 HS HF HK
            go_wp2_with fail
            exact ⟨⟨n + 1, by omega, by go_num, hX3, hB3, HS1⟩, by simp [intOf]; omega⟩
    · have HN : Hid (res = none) := by
        show _ = _
        rw [HNE.out]
        exact findSome_none (fun j u hj hu => HA.out j u (by omega) hu)
      clear hT hT0
      go_wp2_with fail
      refine bodyPost_ret (v := .tuple #[erAgg noEr, .bool false]) (by simp [results, Tryz.results48, go_sem, erAgg, noEr, z0, z1, z2, z3]) rfl ⟨by rw [HN.out]; rfl, ?_⟩
      (with_reducible repeat (first | refine Below.drew ?_ | refine Below.alloc ?_ ?_ _ | refine Below.setCell ?_ ?_ _ | exact hXr)) <;> simp
end Go.Proofs.YtjhihliciadipabGreat
