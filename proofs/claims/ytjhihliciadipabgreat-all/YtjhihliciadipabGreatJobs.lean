import Derived.Test.YtjhihliciadipabGreatTell
set_option linter.unusedVariables false
set_option linter.unusedSimpArgs false
set_option linter.unnecessarySimpa false
namespace Go.Proofs.YtjhihliciadipabGreat
open Go.RowKit

theorem drewN2 (w : World) (a b : Nat) : (w.drewN a).drewN b = w.drewN (a + b) := by
  unfold World.drewN; simp [Nat.add_assoc]

def jobEq (a b : Jb) : Bool := a.on == b.on && a.path == b.path && (a.tag == b.tag && a.tot == b.tot) && a.k == b.k
def busyL (js : List Jb) (j : Jb) : Bool := js.any (fun x => jobEq x j)

theorem own_jobCell {w : World} {js : List Jb} {g cap : Nat} (ho : w.ownsRow 0 124 5 (.slice (some ⟨g, 0, none⟩) js.length cap) js.length (js.map jobV).flatten) {i : Nat} {j : Jb} (hj : js[i]? = some j) (r : Nat) (hr : r < 5) :
    w.cell? ⟨g, i * 5 + r, none⟩ = (jobV j)[r]? := by
  have hi := (List.getElem?_eq_some_iff.1 hj).1
  rw [ho.cellAt (i * 5 + r) (by have : (i + 1) * 5 ≤ js.length * 5 := Nat.mul_le_mul_right 5 hi; omega), flat_get 5 _ (jobs_len _) i r hr]; simp [hj]

set_option maxHeartbeats 1000000 in
theorem busy_any (p : Nat) (js : List Jb) (vJ : Value) (j : Jb) (w : World) (hc : w.cell? ⟨p, 6, none⟩ = some vJ) (ho : w.ownsRow 0 124 5 vJ js.length (js.map jobV).flatten) (hn : js.length ≤ 1000) :
    Calls Tryz.prog 51 #[.pointer (some ⟨p, 0, none⟩), .agg #[.bool j.on, .int .i64 j.path, .int .i64 j.tag, .int .i64 j.tot, .int .i64 j.k]] w fun e w' => e = .returned (.bool (busyL js j)) ∧ Ext w w' := by
  obtain ⟨a, cap, rfl, hg⟩ := own_form ho
  have hp : p < w.heap.size := World.block_lt_of_cell? w _ hc
  go_enter Tryz.func51, Tryz.ntmps51
  go_wp2_with fail
  go_loopw [5] (fun k wr => ∃ i : Nat, i ≤ js.length ∧ k = .int .i64 i ∧ Hid ((js.take i).any (fun x => jobEq x j) = false) ∧ ∃ nq, wr = (w.alloc (.cells #[.bool j.on, .int .i64 j.path, .int .i64 j.tag, .int .i64 j.tot, .int .i64 j.k] 124)).drewN nq) (fun k _ => js.length - (intOf k).toNat)
  case atStart => exact ⟨0, Nat.zero_le _, rfl, by show _ = _; simp, 0, rfl⟩
  case round =>
    obtain ⟨i, hi, rfl, HA, nq, rfl⟩ := hrel
    by_cases hlt : i < js.length
    · obtain ⟨g, rfl⟩ := hg (by omega)
      have hx : js[i]? = some js[i] := by simp [hlt]
      have HT : Hid ((js.take (i + 1)).any (fun x => jobEq x j) = ((js.take i).any (fun x => jobEq x j) || jobEq js[i] j)) := by
        show _ = _; rw [List.take_succ_eq_append_getElem hlt, List.any_append]; simp only [List.any_cons, List.any_nil, Bool.or_false]
      have HU : Hid (jobEq js[i] j = true → busyL js j = true) := fun h => by
        unfold busyL; rw [List.any_eq_true]; exact ⟨js[i], List.getElem_mem hlt, h⟩
      generalize js[i] = x at *
      have hgl : g < w.heap.size := (ho.lt g rfl).2
      have c0 : w.cell? ⟨g, i * 5, none⟩ = some (.bool x.on) := own_jobCell ho hx 0 (by omega)
      have c1 : w.cell? ⟨g, i * 5 + 1, none⟩ = some (.int .i64 x.path) := own_jobCell ho hx 1 (by omega)
      have c2 : w.cell? ⟨g, i * 5 + 2, none⟩ = some (.int .i64 x.tag) := own_jobCell ho hx 2 (by omega)
      have c3 : w.cell? ⟨g, i * 5 + 3, none⟩ = some (.int .i64 x.tot) := own_jobCell ho hx 3 (by omega)
      have c4 : w.cell? ⟨g, i * 5 + 4, none⟩ = some (.int .i64 x.k) := own_jobCell ho hx 4 (by omega)
      have HJ : Hid (jobEq x j = (x.on == j.on && x.path == j.path && (x.tag == j.tag && x.tot == j.tot) && x.k == j.k)) := rfl
      clear hg
      go_wp2_with fail
      go_cut [23] (fun b wx => b = .bool (jobEq x j) ∧ ∃ nq, wx = (w.alloc (.cells #[.bool j.on, .int .i64 j.path, .int .i64 j.tag, .int .i64 j.tot, .int .i64 j.k] 124)).drewN nq)
      case first =>
        by_cases h0 : x.on = j.on
        · by_cases h1 : x.path = j.path
          · by_cases h2 : x.tag = j.tag
            · by_cases h3 : x.tot = j.tot
              · by_cases h4 : x.k = j.k
                all_goals
                  go_quiet (fail)
                  go_wp2_with fail
                  go_meet
                  exact ⟨by rw [HJ.out]; simp [h0, h1, h2, h3, h4], _, drewN2 _ _ _⟩
              · go_quiet (fail)
                go_wp2_with fail
                go_meet
                exact ⟨by rw [HJ.out]; simp [h3], _, drewN2 _ _ _⟩
            · go_quiet (fail)
              go_wp2_with fail
              go_meet
              exact ⟨by rw [HJ.out]; simp [h2], _, drewN2 _ _ _⟩
          · go_quiet (fail)
            go_wp2_with fail
            go_meet
            exact ⟨by rw [HJ.out]; simp [h1], _, drewN2 _ _ _⟩
        · go_quiet (fail)
          go_wp2_with fail
          go_meet
          exact ⟨by rw [HJ.out]; simp [h0], _, drewN2 _ _ _⟩
      case rest =>
        obtain ⟨rfl, nq2, rfl⟩ := hcut
        clear c0 c1 c2 c3 c4
        cases hj : jobEq x j
        · go_wp2_with fail
          exact ⟨⟨i + 1, by omega, by go_num, by show _ = _; rw [HT.out, HA.out, hj]; rfl, _, rfl⟩, by simp [intOf]; omega⟩
        · go_wp2_with fail
          go_ret
          exact ⟨ret_bool (HU.out hj).symm, Ext.drewN (Ext.new w _) _⟩
    · clear hg
      go_wp2_with fail
      go_ret
      exact ⟨ret_bool (by have := HA.out; rw [List.take_of_length_le (by omega)] at this; exact this.symm), Ext.drewN (Ext.new w _) _⟩
end Go.Proofs.YtjhihliciadipabGreat
