import Derived.Test.YtjhihliciadipaaK13
import Derived.BigQuiet
set_option linter.unusedVariables false
set_option linter.unusedSimpArgs false
set_option linter.unnecessarySimpa false
namespace Go.Proofs.Ytjhihliciadipaa
open Go.RowKit

/-- What a mirror may be sent for. -/
structure FeOk (b : Int) (f : Fe) : Prop where
  o0 : 0 ≤ f.off
  o1 : f.off ≤ 1000
  md : f.off % b = 0
  l0 : 0 < f.len
  l1 : f.len ≤ b
  t0 : 0 ≤ f.tot
  t1 : f.tot ≤ 1000
  or : f.tag = 0 ∧ f.tot = 0 ∧ f.off = 0 ∧ f.len = b ∨ 1 ≤ f.tag ∧ f.off < f.tot ∧ (f.len = b ∨ f.len = f.tot - f.off) ∧ f.off + f.len ≤ f.tot
theorem fe_ne {a b : Fe} (h : a ≠ b) : (a.path == b.path && a.tag == b.tag && a.tot == b.tot && a.off == b.off && a.len == b.len) = false := by
  rw [Bool.eq_false_iff]
  intro hh
  simp at hh
  apply h
  obtain ⟨a1, a2, a3, a4, a5⟩ := a
  obtain ⟨b1, b2, b3, b4, b5⟩ := b
  simp at hh
  simp [hh]
theorem mem_take_succ {l : List Int} {j : Nat} {a x : Int} (h : l[j]? = some a) : x ∈ l.take (j + 1) ↔ x ∈ l.take j ∨ x = a := by
  obtain ⟨hj, ha⟩ := List.getElem?_eq_some_iff.1 h
  rw [List.take_succ_eq_append_getElem hj, List.mem_append, ha]; simp

set_option maxRecDepth 100000 in
set_option maxHeartbeats 4000000 in
theorem fetched_any (y : Nat) (col : Nat → Nat) (k : Nat) (P : Pl) (V : Pv) (m : Nat) (f : Fe) (w : World) (h : PlAt w y col k P V) (hm : m < 3) (hB1 : 1 ≤ P.st.b) (hB2 : P.st.b ≤ 16) (hp : f.path ∈ P.paths) (hn8 : P.paths.length ≤ 8)
    (hj : ∀ (i : Nat) f', i ≠ m → P.away[i]? = some true → P.jobs[i]? = some f' → f' ≠ f) (hf : FeOk P.st.b f) :
    Calls Try.prog 36 #[.pointer (some ⟨y, 0, none⟩), .int .i64 m, feAgg f] w fun e w' => e = .returned (.bool true) ∧ Ext w w' := by
  obtain ⟨fp, ft, fo, ff, fl⟩ := f
  have hE := Ext.new w (.cells #[.int .i64 fp, .int .i64 ft, .int .i64 fo, .int .i64 ff, .int .i64 fl] 32)
  have hB := Blk.new w 32 #[.int .i64 fp, .int .i64 ft, .int .i64 fo, .int .i64 ff, .int .i64 fl]
  have h0 := h.ext hE 0
  unfold feAgg fetAgg
  simp only
  have HJ := hide hj
  have HP : Hid (fp ∈ P.paths) := hp
  clear hj hp
  go_enter Try.func36, Try.ntmps36
  go_wp2_with fail
  generalize w.alloc (.cells #[.int .i64 fp, .int .i64 ft, .int .i64 fo, .int .i64 ff, .int .i64 fl] 32) = w0 at *
  have e0 : w0.cell? ⟨w.heap.size, 0, none⟩ = some (.int .i64 fp) := hB.cell 0
  have e1 : w0.cell? ⟨w.heap.size, 1, none⟩ = some (.int .i64 ft) := hB.cell 1
  have e2 : w0.cell? ⟨w.heap.size, 2, none⟩ = some (.int .i64 fo) := hB.cell 2
  have e3 : w0.cell? ⟨w.heap.size, 3, none⟩ = some (.int .i64 ff) := hB.cell 3
  have e4 : w0.cell? ⟨w.heap.size, 4, none⟩ = some (.int .i64 fl) := hB.cell 4
  obtain ⟨aP, capP, hvP, hgP⟩ := own_form (h0.pp id).1
  have hoP := (h0.pp id).1
  have c24 : w0.cell? ⟨y, 24, none⟩ = some (.slice aP P.paths.length capP) := by rw [← hvP]; exact h0.cEnd 0
  rw [hvP] at hoP
  have cB : w0.cell? ⟨y, 2, none⟩ = some (.int .i64 P.st.b) := h0.cSt 2 (by omega)
  have H0 := hide h0
  clear hvP h0 hB
  have HoP := hide hoP
  clear hoP
  go_loopw [7, 8] (fun b i wr => ∃ j : Nat, j ≤ P.paths.length ∧ i = .int .i64 j ∧ b = .bool (decide (fp ∈ P.paths.take j)) ∧ ∃ d, wr = w0.drewN d) (fun _ i _ => P.paths.length - (intOf i).toNat)
  case atStart => exact ⟨0, by omega, rfl, by simp, 0, rfl⟩
  case round =>
    obtain ⟨j, hjl, rfl, rfl, d, rfl⟩ := hrel
    by_cases hlt : j < P.paths.length
    · obtain ⟨gP, rfl⟩ := hgP (by omega)
      obtain ⟨a, ha⟩ : ∃ a, P.paths[j]? = some a := ⟨_, List.getElem?_eq_getElem hlt⟩
      have ck : w0.cell? ⟨gP, j, none⟩ = some (.int .i64 a) := by
        rw [HoP.out.cellAt j (by omega)]; simp [ha]
      have hlt' : (j : Int) < P.paths.length := by omega
      have HM := hide (mem_take_succ (x := fp) ha)
      clear ha hgP
      cases hb : decide (fp ∈ P.paths.take j)
      · have hb' : ¬ (fp ∈ P.paths.take j) := by simpa using hb
        by_cases hae : a = fp
        · have HD : Hid (decide (fp ∈ P.paths.take (j + 1)) = true) := by
            show _ = _
            rw [decide_eq_true_iff, HM.out]; right; exact hae.symm
          clear HM hb hb'
          subst hae
          go_wp2_with fail
          go_quiet (fail)
          go_wp2_with fail
          exact ⟨⟨j + 1, by omega, by go_num, by rw [HD.out], _, rfl⟩, by simp [intOf]; omega⟩
        · have HD : Hid (decide (fp ∈ P.paths.take (j + 1)) = false) := by simp only [decide_eq_false_iff_not, HM.out]; rintro (h1 | h1); exact hb' h1; exact hae h1.symm
          have hae' : (a == fp) = false := by simpa using hae
          clear HM hb hb' hae
          go_wp2_with fail
          go_quiet (fail)
          go_wp2_with fail
          exact ⟨⟨j + 1, by omega, by go_num, by rw [HD.out], _, rfl⟩, by simp [intOf]; omega⟩
      · have HD : Hid (decide (fp ∈ P.paths.take (j + 1)) = true) := by
          show _ = _
          rw [decide_eq_true_iff, HM.out]; left; simpa using hb
        clear HM hb
        go_wp2_with fail
        go_quiet (fail)
        go_wp2_with fail
        exact ⟨⟨j + 1, by omega, by go_num, by rw [HD.out], _, rfl⟩, by simp [intOf]; omega⟩
    · have hD : decide (fp ∈ P.paths.take j) = true := by rw [List.take_of_length_le (by omega)]; simpa using HP.out
      rw [hD]
      clear hD hgP
      go_wp2_with fail
      go_loopw [9] (fun i wr2 => ∃ n : Nat, n ≤ 3 ∧ i = .int .i64 n ∧ ∃ d, wr2 = w0.drewN d) (fun i _ => 3 - (intOf i).toNat)
      case atStart => exact ⟨0, by omega, rfl, d, rfl⟩
      case round =>
        obtain ⟨n, hn, rfl, d2, rfl⟩ := hrel
        by_cases hn3 : n < 3
        · obtain ⟨b, hb⟩ : ∃ b, P.away[n]? = some b := ⟨_, List.getElem?_eq_getElem (by rw [h.na]; exact hn3)⟩
          obtain ⟨g, hg⟩ : ∃ g, P.jobs[n]? = some g := ⟨_, List.getElem?_eq_getElem (by rw [h.nj]; exact hn3)⟩
          have ca : w0.cell? ⟨y, 21 + n, none⟩ = some (.bool b) := H0.out.cAway n b hb
          have j0 : w0.cell? ⟨y, 6 + n * 5, none⟩ = some (.int .i64 g.path) := H0.out.cJob n 0 g hg (by omega)
          have j1 : w0.cell? ⟨y, 6 + n * 5 + 1, none⟩ = some (.int .i64 g.tag) := by rw [Nat.add_assoc]; exact H0.out.cJob n 1 g hg (by omega)
          have j2 : w0.cell? ⟨y, 6 + n * 5 + 2, none⟩ = some (.int .i64 g.tot) := by rw [Nat.add_assoc]; exact H0.out.cJob n 2 g hg (by omega)
          have j3 : w0.cell? ⟨y, 6 + n * 5 + 3, none⟩ = some (.int .i64 g.off) := by rw [Nat.add_assoc]; exact H0.out.cJob n 3 g hg (by omega)
          have j4 : w0.cell? ⟨y, 6 + n * 5 + 4, none⟩ = some (.int .i64 g.len) := by rw [Nat.add_assoc]; exact H0.out.cJob n 4 g hg (by omega)
          have hn3' : (n : Int) < 3 := by omega
          cases b
          · clear hb hg
            go_wp2_with fail
            go_quiet (fail)
            go_wp2_with fail
            exact ⟨⟨n + 1, by omega, by go_num, _, rfl⟩, by simp [intOf]; omega⟩
          · by_cases hnm : n = m
            · subst hnm
              clear hb hg
              go_wp2_with fail
              go_quiet (fail)
              go_wp2_with fail
              exact ⟨⟨n + 1, by omega, by go_num, _, rfl⟩, by simp [intOf]; omega⟩
            · have hne := HJ.out n g hnm hb hg
              have hnm' : ((n : Int) == (m : Int)) = false := by simp; omega
              have hnm2 : ((n : Int) != (m : Int)) = true := by simp; omega
              obtain ⟨g1, g2, g3, g4, g5⟩ := g
              simp only at j0 j1 j2 j3 j4
              have HNE := hide hne
              clear hb hg hne
              go_wp2_with fail
              by_cases q1 : g1 = fp
              · by_cases q2 : g2 = ft
                · by_cases q3 : g3 = fo
                  · by_cases q4 : g4 = ff
                    · have q5 : ¬ g5 = fl := fun q5 => HNE.out (by rw [q1, q2, q3, q4, q5])
                      go_quiet (fail)
                      go_wp2_with fail
                      exact ⟨⟨n + 1, by omega, by go_num, _, rfl⟩, by simp [intOf]; omega⟩
                    · go_quiet (fail)
                      go_wp2_with fail
                      exact ⟨⟨n + 1, by omega, by go_num, _, rfl⟩, by simp [intOf]; omega⟩
                  · go_quiet (fail)
                    go_wp2_with fail
                    exact ⟨⟨n + 1, by omega, by go_num, _, rfl⟩, by simp [intOf]; omega⟩
                · go_quiet (fail)
                  go_wp2_with fail
                  exact ⟨⟨n + 1, by omega, by go_num, _, rfl⟩, by simp [intOf]; omega⟩
              · go_quiet (fail)
                go_wp2_with fail
                exact ⟨⟨n + 1, by omega, by go_num, _, rfl⟩, by simp [intOf]; omega⟩
        · obtain ⟨fo0, fo1, fmd, fl0, fl1, ft0, ft1, fors⟩ := hf
          simp only at fo0 fo1 fmd fl0 fl1 ft0 ft1 fors
          have hBz : (P.st.b == 0) = false := by simp; omega
          have HMD : Hid (ff.tmod P.st.b = ff % P.st.b) := Int.tmod_eq_emod_of_nonneg fo0
          have hmd0 : ff.tmod P.st.b = 0 := by rw [HMD.out]; exact fmd
          have hl0' : decide (0 < fl) = true := by simpa using fl0
          have hl1' : decide (fl ≤ P.st.b) = true := by simpa using fl1
          have hs1 : decide (0 < P.st.b) = true := by simp; omega
          have hs2 : decide (P.st.b ≤ P.st.b) = true := by simp
          have hg0 : decide (0 ≤ ff) = true := by simpa using fo0
          rcases fors with ⟨rfl, rfl, rfl, rfl⟩ | ⟨a1, a2, a3, a4⟩
          · clear HJ HP H0 HoP HMD hmd0 fmd
            go_wp2_with fail
            go_quiet (fail)
            go_wp2_with fail
            go_quiet (fail)
            go_wp2_with fail
            go_quiet (fail)
            go_wp2_with fail
            go_ret
            exact ⟨rfl, Ext.drewN (Ext.drewN (Ext.drewN (Ext.drewN hE _) _) _) _⟩
          · have b1 : decide (0 < ft) = true := by simp; omega
            have b2 : (ft == 0) = false := by simp; omega
            have b3 : decide (ff < fo) = true := by simpa using a2
            have b4 : decide (ff + fl ≤ fo) = true := by simpa using a4
            by_cases hfl : fl = P.st.b
            · subst hfl
              clear HJ HP H0 HoP HMD fmd a3
              go_wp2_with fail
              go_quiet (fail)
              go_wp2_with fail
              go_quiet (fail)
              go_wp2_with fail
              go_quiet (fail)
              go_wp2_with fail
              go_ret
              exact ⟨rfl, Ext.drewN (Ext.drewN (Ext.drewN (Ext.drewN hE _) _) _) _⟩
            · have hfl' : (fl == P.st.b) = false := by simpa using hfl
              have a5 : fl = fo - ff := by rcases a3 with h1 | h1; exact absurd h1 hfl; exact h1
              have a5' : (fl == fo - ff) = true := by simpa using a5
              clear HJ HP H0 HoP HMD fmd a3 a5
              go_wp2_with fail
              go_quiet (fail)
              go_wp2_with fail
              go_quiet (fail)
              go_wp2_with fail
              go_quiet (fail)
              go_wp2_with fail
              go_ret
              exact ⟨rfl, Ext.drewN (Ext.drewN (Ext.drewN (Ext.drewN hE _) _) _) _⟩
end Go.Proofs.Ytjhihliciadipaa
