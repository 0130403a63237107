import Derived.Test.YtjhihliciadipabGreatNewv
import Derived.Deep.RegionLaw
set_option linter.unusedVariables false
set_option linter.unusedSimpArgs false
set_option linter.unnecessarySimpa false
namespace Go.Proofs.YtjhihliciadipabGreat
open Go.RowKit

theorem infoKept : (Tryz.prog.info? 144).map (fun i => (i.zero, i.size, i.bytes)) = some (some (.agg #[.int .i64 0, .int .i64 0, .int .i64 0, .int .i64 0, .string ByteArray.empty, .int .i64 0]), 6, 56) := by kernel_rfl
theorem kp_one (x : Kp) : ∀ u ∈ kpV x, u.oneCell' = true := by intro u hu; simp [kpV] at hu; rcases hu with rfl | rfl | rfl | rfl | rfl | rfl <;> rfl

def awayTo (l : List Kp) (at_ k : Nat) : List Kp := (l.take k).eraseIdx at_
theorem awayTo_hit (l : List Kp) (k : Nat) (h : k < l.length) : awayTo l k (k + 1) = awayTo l k k := by
  unfold awayTo
  rw [List.take_succ_eq_append_getElem h, List.eraseIdx_append_of_length_le (by simp; omega), List.eraseIdx_of_length_le (show (l.take k).length ≤ k by simp; omega)]
  have : k - (l.take k).length = 0 := by simp; omega
  rw [this]; simp
theorem awayTo_miss (l : List Kp) (a k : Nat) (h : k < l.length) (hn : k ≠ a) : awayTo l a (k + 1) = awayTo l a k ++ [l[k]] := by
  unfold awayTo
  rw [List.take_succ_eq_append_getElem h]
  have hl : (l.take k).length = k := by simp; omega
  by_cases hlt : a < k
  · rw [List.eraseIdx_append_of_lt_length (by omega)]
  · rw [List.eraseIdx_append_of_length_le (by omega), List.eraseIdx_of_length_le (show (l.take k).length ≤ a by omega), List.eraseIdx_of_length_le (by simp; omega)]

set_option maxHeartbeats 1000000 in
theorem away_any (p a : Nat) (s : Pr) (L : Lay) (w : World) (h : PrAt w p s L) (hn : s.cache.length ≤ 1000) (ha : a ≤ 1000) :
    Calls Tryz.prog 108 #[.pointer (some ⟨p, 0, none⟩), .int .i64 a] w fun e w' => e = .returned (.tuple #[]) ∧
      ∃ v', PrAt w' p { s with cache := s.cache.eraseIdx a } { L with vC := v' } ∧ Mvs w w' p L { L with vC := v' } := by
  have hc : w.cell? ⟨p, 8, none⟩ = some L.vC := h.blk.cell 8
  have ho := h.cache
  obtain ⟨aC, cap, hC, hg⟩ := own_form ho
  rw [hC] at hc ho
  have hpl : p < w.heap.size := h.blk.lt
  have HH := hide h
  have HC := hide hC
  clear h hC
  go_enter Tryz.func108, Tryz.ntmps108
  go_wp2_with fail
  go_loopw [4, 5] (fun l i wr => ∃ k : Nat, k ≤ s.cache.length ∧ i = .int .i64 k ∧ Ext w wr ∧ wr.ownsRow w.heap.size 144 6 l (awayTo s.cache a k).length ((awayTo s.cache a k).map kpV).flatten) (fun _ i _ => s.cache.length - (intOf i).toNat)
  case atStart => exact ⟨0, Nat.zero_le _, rfl, Below.refl _ _, by simp [awayTo]; exact World.ownsRow_nil _ _ _ _⟩
  case round =>
    obtain ⟨k, hk, rfl, hE, hown⟩ := hrel
    have hc1 := ext_cell hE hc
    have ho1 := own_ext ho hE
    by_cases hlt : k < s.cache.length
    · obtain ⟨gC, rfl⟩ := hg (by omega)
      have hx : s.cache[k]? = some s.cache[k] := by simp [hlt]
      have hcell : ∀ r, r < 6 → wr.cell? ⟨gC, k * 6 + r, none⟩ = (kpV s.cache[k])[r]? := by
        intro r hr
        rw [ho1.cellAt (k * 6 + r) (by have : (k + 1) * 6 ≤ s.cache.length * 6 := Nat.mul_le_mul_right 6 hlt; omega), flat_get 6 _ (kps_len _) k r hr]; simp [hlt]
      have hlen : (awayTo s.cache a k).length ≤ 1000 := by unfold awayTo; exact Nat.le_trans (List.length_eraseIdx_le ..) (by simp; omega)
      by_cases hka : k = a
      · have hb : ((k : Int) != (a : Int)) = false := by simp [hka]
        have HT : Hid (awayTo s.cache a (k + 1) = awayTo s.cache a k) := by rw [← hka]; exact awayTo_hit _ _ hlt
        clear hcell hg
        generalize awayTo s.cache a k = fl at *
        go_wp2_with fail
        exact ⟨⟨k + 1, by omega, by go_num, hE, by rw [HT.out]; exact hown⟩, by simp [intOf]; omega⟩
      · have hb : ((k : Int) != (a : Int)) = true := by simp; omega
        have HT : Hid (awayTo s.cache a (k + 1) = awayTo s.cache a k ++ [s.cache[k]]) := awayTo_miss _ _ _ hlt hka
        generalize s.cache[k] = x at *
        have q0 : wr.cell? ⟨gC, k * 6, none⟩ = some (.int .i64 x.path) := hcell 0 (by omega)
        have q1 : wr.cell? ⟨gC, k * 6 + 1, none⟩ = some (.int .i64 x.tag) := hcell 1 (by omega)
        have q2 : wr.cell? ⟨gC, k * 6 + 2, none⟩ = some (.int .i64 x.tot) := hcell 2 (by omega)
        have q3 : wr.cell? ⟨gC, k * 6 + 3, none⟩ = some (.int .i64 x.k) := hcell 3 (by omega)
        have q4 : wr.cell? ⟨gC, k * 6 + 4, none⟩ = some (.string x.body) := hcell 4 (by omega)
        have q5 : wr.cell? ⟨gC, k * 6 + 5, none⟩ = some (.int .i64 x.when) := hcell 5 (by omega)
        clear hcell hg
        generalize awayTo s.cache a k = fl at *
        go_wp2_with (at_builtin; refine app_one Tryz.underlying101 infoKept rfl (by decide) (by decide) _ rfl _ _ rfl (by rfl) (hown.alloc _) (kpV x) rfl rfl (news_new _ _ _) (kp_one x) (by omega) (by have := hE.size; simp; omega) ?_; intro v3 w3 hown3 hg3 hwh3)
        refine ⟨⟨k + 1, by omega, by go_num, app_ext hE hown (by omega) hg3, ?_⟩, by simp [intOf]; omega⟩
        rw [HT.out, List.length_append, List.map_append, List.flatten_append]; simpa using hown3
    · clear hg
      have hkk : awayTo s.cache a k = s.cache.eraseIdx a := by unfold awayTo; rw [List.take_of_length_le (by omega)]
      rw [hkk] at hown
      have hPr := HH.out.newC (Chg.of_ext hE) _ (s.cache.eraseIdx a) (own_base hown (Nat.zero_le _)) (fun x hx => Or.inr (hown.lt x hx).1)
      obtain ⟨aL, capL, rfl, hgL⟩ := own_form hown
      have hf := (HH.out.blk.ext hE).frozen 8
      have HP := hide hPr
      clear hPr hgL hkk
      go_wp2_with fail
      go_end0
      exact ⟨rfl, _, HP.out.1, HP.out.2⟩
end Go.Proofs.YtjhihliciadipabGreat

namespace Go.Proofs.YtjhihliciadipabGreat
open Go.RowKit

def kpHit (j : Jb) (x : Kp) : Bool := x.path == j.path && (x.tag == j.tag && x.tot == j.tot) && x.k == j.k
def rmTo (j : Jb) (c : List Kp) (m : Nat) : List Kp := c.take m ++ (c.drop m).filter (fun x => !kpHit j x)
theorem rmTo_all (j : Jb) (c : List Kp) : rmTo j c c.length = c := by simp [rmTo]
theorem rmTo_get (j : Jb) (c : List Kp) (m : Nat) (h : m < c.length) : (rmTo j c (m + 1))[m]? = some c[m] := by
  unfold rmTo; rw [List.getElem?_append_left (by simp; omega)]; simp [h]
theorem rmTo_hit (j : Jb) (c : List Kp) (m : Nat) (h : m < c.length) (hh : kpHit j c[m] = true) : (rmTo j c (m + 1)).eraseIdx m = rmTo j c m := by
  have e : (c.drop m).filter (fun x => !kpHit j x) = (c.drop (m + 1)).filter (fun x => !kpHit j x) := by
    rw [List.drop_eq_getElem_cons h, List.filter_cons, hh]; rfl
  unfold rmTo
  have hl : (c.take m).length = m := by simp; omega
  rw [e, List.take_succ_eq_append_getElem h, List.append_assoc, List.eraseIdx_append_of_length_le (by omega)]
  have : m - (c.take m).length = 0 := by omega
  rw [this]; rfl
theorem rmTo_miss (j : Jb) (c : List Kp) (m : Nat) (h : m < c.length) (hh : kpHit j c[m] = false) : rmTo j c (m + 1) = rmTo j c m := by
  have e : (c.drop m).filter (fun x => !kpHit j x) = c[m] :: (c.drop (m + 1)).filter (fun x => !kpHit j x) := by
    rw [List.drop_eq_getElem_cons h, List.filter_cons, hh]; rfl
  unfold rmTo
  rw [e, List.take_succ_eq_append_getElem h, List.append_assoc]; rfl
theorem rmTo_sub (j : Jb) (c : List Kp) (m : Nat) : (rmTo j c m).length ≤ c.length ∧ ∀ x ∈ rmTo j c m, x ∈ c := by
  unfold rmTo
  constructor
  · have := List.length_filter_le (fun x => !kpHit j x) (c.drop m)
    simp at this ⊢; omega
  · intro x hx
    rcases List.mem_append.1 hx with h | h
    · exact List.mem_of_mem_take h
    · exact List.mem_of_mem_drop (List.mem_filter.1 h).1

def evict (cap : Int) : Nat → List Kp → List Kp
  | 0, l => l
  | n + 1, l => if cap < usedL l then evict cap n (l.eraseIdx (oldTo l l.length)) else l
def keepNew (s : Pr) (j : Jb) (body : ByteArray) : Kp := ⟨j.path, j.tag, j.tot, j.k, body, s.clock + 1⟩
def keepAll (s : Pr) (j : Jb) (body : ByteArray) : List Kp := rmTo j s.cache 0 ++ [keepNew s j body]
def keepL (s : Pr) (j : Jb) (body : ByteArray) : Pr :=
  if s.cap < body.size then s else { s with cache := evict s.cap (keepAll s j body).length (keepAll s j body), clock := s.clock + 1 }
theorem usedL_nil : usedL [] = 0 := rfl
end Go.Proofs.YtjhihliciadipabGreat
