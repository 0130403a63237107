import Derived.Test.YtjhihliciadipaaK1
import Derived.Laws.IdiomStrings
set_option linter.unusedVariables false
set_option linter.unusedSimpArgs false
set_option linter.unnecessarySimpa false
namespace Go.Proofs.Ytjhihliciadipaa
open Go.RowKit

theorem infoByte : (Try.prog.info? 5).map (fun i => (i.zero, i.size, i.bytes)) = some (some (.int .u8 0), 1, 1) := by kernel_rfl
def byteV (c : UInt8) : Value := .int .u8 c.toNat
theorem byte_one (c : UInt8) : ∀ u ∈ [byteV c], u.oneCell' = true := by intro u hu; simp at hu; subst hu; rfl
theorem app_extK {w1 wr w2 : World} {o : Obj} {base : Nat} {e : TypeId} {sz : Nat} {v : Value} {n : Nat} {xs : List Value} (hE : Ext w1 wr) (hown : wr.ownsRow base e sz v n xs)
    (hb : w1.heap.size ≤ base) (hg : (wr.alloc o).grownBy w2 v.ownBlock) : Ext w1 w2 :=
  (Below.alloc hE hE.size o).grown hg (by have := hE.size; simp; omega) (fun k hk => by have := (hown.lt k hk).1; omega)

/-- So many bytes of an honest object from a place on. -/
def objL (path tag : Int) (frm : Nat) (c : Nat) : List UInt8 := (List.range c).map (fun j => letK path tag (frm + j))
def objN (path tag : Int) (frm n : Nat) : Nat := min n ((totK path tag).toNat - frm)
def objK (path tag : Int) (frm n : Nat) : ByteArray := ⟨(objL path tag frm (objN path tag frm n)).toArray⟩
theorem objL_succ (path tag : Int) (frm c : Nat) : objL path tag frm (c + 1) = objL path tag frm c ++ [letK path tag (frm + c)] := by simp [objL, List.range_succ]
theorem objL_len (path tag : Int) (frm c : Nat) : (objL path tag frm c).length = c := by simp [objL]

/-- A slice of bytes becomes a text. -/
theorem str_of_bytes (w : World) (v : Value) (l : List UInt8) (base : Nat) (h : w.ownsRow base 5 1 v l.length (l.map byteV)) :
    (convert 99 9 v).run Try.prog w = .ok (.string ⟨l.toArray⟩) w := by
  obtain ⟨a, cap, rfl, hg⟩ := own_form h
  cases hl : l with
  | nil =>
    subst hl
    rcases h.2 with ⟨h1, -⟩ | ⟨g, cap', cur, h1, -⟩
    · simp at h1
      obtain ⟨rfl, rfl⟩ := h1
      rw [List.length_nil]
      simp only [run_convert_bytes_string (P := Try.prog) w 99 9 5 none 0 0 Try.underlying99 Try.underlying5 Try.underlying9]
      first | rfl | (simp [Conv.bytesToString]; done) | (simp [Conv.bytesToString]; rfl)
    · simp at h1
      obtain ⟨rfl, -, rfl⟩ := h1
      exact run_convert_bytes_back (P := Try.prog) w 99 9 5 ⟨g, 0, none⟩ cap [] Try.underlying99 Try.underlying5 Try.underlying9 (fun j hj => absurd hj (by simp))
  | cons c l' =>
    obtain ⟨g, rfl⟩ := hg (by rw [hl]; simp)
    have := run_convert_bytes_back (P := Try.prog) w 99 9 5 ⟨g, 0, none⟩ cap l Try.underlying99 Try.underlying5 Try.underlying9 (fun j hj => by
      have hadd : (⟨g, 0, none⟩ : Addr).add j = ⟨g, j, none⟩ := by unfold Addr.add; split <;> simp_all
      rw [hadd, h.cellAt j (by omega)]
      simp [hj, byteV])
    rw [← hl]; exact this

set_option maxRecDepth 100000 in
set_option maxHeartbeats 2000000 in
theorem object_any (path tag : Int) (frm n : Nat) (w : World) (h0 : 0 ≤ path) (h1 : path ≤ 3) (h2 : 0 ≤ tag) (h3 : tag ≤ 99) (h4 : frm ≤ 20000) (h5 : n ≤ 1000) :
    Calls Try.prog 21 #[.int .i64 path, .int .i64 tag, .int .i64 frm, .int .i64 n] w fun e w' => e = .returned (.string (objK path tag frm n)) ∧ Ext w w' := by
  have ht := totK_bd path tag
  have HT := totK_any path tag
  have HLt := hide (letK_any path tag)
  have HK : Hid (objK path tag frm n = ⟨(objL path tag frm (min n ((totK path tag).toNat - frm))).toArray⟩) := rfl
  generalize objK path tag frm n = res at *
  generalize totK path tag = tot at *
  go_enter Try.func21, Try.ntmps21
  go_wp2_with fail
  go_loopg [9, 10] n (fun g u v wr => ∃ k : Nat, g = n - k ∧ k ≤ n ∧ (k = 0 ∨ frm + k ≤ tot.toNat) ∧ v = .int .i64 (frm + k) ∧ Ext w wr ∧ wr.ownsRow w.heap.size 5 1 u k ((objL path tag frm k).map byteV))
  case atStart => exact ⟨0, rfl, by omega, Or.inl rfl, rfl, Below.refl _ _, World.ownsRow_nil _ _ _ _⟩
  case round =>
    obtain ⟨k, rfl, hk, hkt, rfl, hX, hown⟩ := hrel
    have HO := hide hown
    by_cases hlt : k < n
    · by_cases hltt : frm + k < tot.toNat
      · have hl60 : (frm : Int) + k < tot := by omega
        have hd1 : (frm : Int) + k < frm + n := by omega
        obtain ⟨a1, cap1, rfl, -⟩ := own_form hown
        have HS : Hid ((objL path tag frm (k + 1)).map byteV = (objL path tag frm k).map byteV ++ [byteV (letK path tag (frm + k))]) := by show _ = _; rw [objL_succ]; simp
        go_wp2_with (first | (go_at_call 19; refine (HT _ (by omega) (by omega) (by omega) (by omega)).mono ?_; rintro e w2 ⟨rfl, rfl⟩) | (go_at_call 43; refine (HLt.out (frm + k) _ (by omega) (by omega) (by omega) (by omega) (by omega)).mono ?_; rintro e w2 ⟨rfl, rfl⟩) | (at_builtin; refine app_one Try.underlying99 infoByte rfl (by decide) (by decide) _ rfl _ _ rfl (by rfl) (hown.alloc _) [byteV (letK path tag (frm + k))] rfl rfl (news_new _ _ _) (byte_one _) (by omega) (by have := hX.size; simp; omega) ?_; intro v2 w2 ho2 hg2 hw2; obtain ⟨a2, cap2, rfl, hga⟩ := own_form ho2; clear hga))
        go_roundg (n - (k + 1))
        case measure => omega
        case rel => exact ⟨k + 1, rfl, by omega, Or.inr (by omega), by go_num, app_extK hX HO.out (Nat.le_refl _) hg2, by rw [HS.out]; exact ho2⟩
      · have hl60 : ¬ (frm : Int) + k < tot := by omega
        have hd1 : (frm : Int) + k < frm + n := by omega
        have HR : Hid (res = ⟨(objL path tag frm k).toArray⟩) := by show _ = _; rw [HK.out, show min n (tot.toNat - frm) = k from by omega]
        have kc := str_of_bytes wr _ (objL path tag frm k) _ (by rw [objL_len]; exact hown)
        obtain ⟨a1, cap1, rfl, -⟩ := own_form hown
        go_wp2_with (go_at_call 19; refine (HT _ (by omega) (by omega) (by omega) (by omega)).mono ?_; rintro e w2 ⟨rfl, rfl⟩)
        go_ret
        exact ⟨by rw [HR.out]; rfl, hX⟩
    · have hd1 : ¬ (frm : Int) + k < frm + n := by omega
      have hd1' : decide ((frm : Int) + k < frm + n) = false := by simpa using hd1
      have HR : Hid (res = ⟨(objL path tag frm k).toArray⟩) := by show _ = _; rw [HK.out, show min n (tot.toNat - frm) = k from by omega]
      have kc := str_of_bytes wr _ (objL path tag frm k) _ (by rw [objL_len]; exact hown)
      obtain ⟨a1, cap1, rfl, -⟩ := own_form hown
      go_wp2_with fail
      go_ret
      exact ⟨by rw [HR.out]; rfl, hX⟩
end Go.Proofs.Ytjhihliciadipaa
