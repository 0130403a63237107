import Derived.Test.YtjhihliciadipabGreatPtr
import Derived.Test.YtjhihliciadipabGreatPspan
import Derived.Deep.RegionHeld3
set_option linter.unusedVariables false
set_option linter.unusedSimpArgs false
set_option linter.unnecessarySimpa false
namespace Go.Proofs.YtjhihliciadipabGreat
open Go.RowKit

theorem trV_held (t : Tr) (j : Nat) (hj : j < 4) (hl : t.held.length = 4) (body : ByteArray) : (trV t).set (14 + j) (.string body) = trV { t with held := t.held.set j body } := by
  unfold trV
  rw [List.set_append_right _ _ (by simp), List.map_set]
  simp
theorem mod4 (K : Nat) : ((K : Int) % 4).toNat = K % 4 := by omega

set_option maxHeartbeats 1000000 in
theorem hold_any (b o : Nat) (t : Tr) (k : Int) (body : ByteArray) (w : World) (h : TrAt w b o t) (hk : 0 ≤ k) (hk1 : k ≤ 1000) :
    Calls Tryz.prog 78 #[.pointer (some ⟨b, o, none⟩), .int .i64 k, .string body] w fun e w' => e = .returned (.tuple #[]) ∧ TrTo w w' b o (holdT t k body) := by
  obtain ⟨K, rfl⟩ := Int.eq_ofNat_of_zero_le hk
  have hJ : K % 4 < 4 := by omega
  have c14 := h.ch (K % 4) hJ
  have hf := h.fz
  have hlt := h.lt
  have HP : Hid (TrTo w (w.setCell ⟨b, o + (14 + K % 4), none⟩ (.string body)) b o (holdT t K body)) := by
    refine (TrTo.refl h).set (14 + K % 4) (by omega) _ ?_ (by simp [holdT, h.hl])
    rw [trV_held t _ hJ h.hl]; unfold holdT; rw [mod4]
  clear h
  go_enter Tryz.func78, Tryz.ntmps78
  go_wp2_with fail
  go_end0
  exact ⟨rfl, by rw [Nat.add_assoc]; exact HP.out⟩

/-- All that has turned is the row at b, o: it is l now. -/
structure RwTo (w w' : World) (b o : Nat) (l : List Value) : Prop where
  chg : Chg (fun x => x = b) w w'
  hl : l.length = 18
  row : ∃ T arr arr', Blk w b T arr ∧ Blk w' b T arr' ∧ arr'.size = arr.size ∧ (∀ r, r < 18 → arr'[o + r]? = l[r]?) ∧ ∀ i, i < o ∨ o + 18 ≤ i → arr'[i]? = arr[i]?
theorem trV_len {t : Tr} (h : t.held.length = 4) : (trV t).length = 18 := by simp [trV, h]
theorem TrTo.rw {w w' : World} {b o : Nat} {t : Tr} (h : TrTo w w' b o t) : RwTo w w' b o (trV t) := ⟨h.chg, trV_len h.hl, h.row⟩
theorem RwTo.tr {w w' : World} {b o : Nat} {l : List Value} {t : Tr} (h : RwTo w w' b o l) (e : l = trV t) (hl : t.held.length = 4) : TrTo w w' b o t := ⟨h.chg, hl, e ▸ h.row⟩
theorem RwTo.set {w w1 : World} {b o : Nat} {l : List Value} (h : RwTo w w1 b o l) (r : Nat) (hr : r < 18) (u : Value) : RwTo w (w1.setCell ⟨b, o + r, none⟩ u) b o (l.set r u) := by
  obtain ⟨T, arr, arr', h1, h2, h3, h4, h5⟩ := h.row
  refine ⟨h.chg.setCell (Or.inl rfl) _, by simp [h.hl], T, arr, _, h1, h2.set (o + r) u, by simp [h3], fun i hi => ?_, fun i hi => ?_⟩
  · rw [Array.getElem?_setIfInBounds, List.getElem?_set]
    have h0 := h.hl
    have h1 : o + r < arr'.size := by
      have := h4 r hr
      rcases Nat.lt_or_ge (o + r) arr'.size with h2 | h2
      · exact h2
      · rw [Array.getElem?_eq_none h2, List.getElem?_eq_getElem (by omega)] at this; simp at this
    by_cases hir : r = i
    · subst hir; simp [h1, h0, hr]
    · rw [if_neg (by omega), if_neg hir, h4 i hi]
  · rw [Array.getElem?_setIfInBounds, if_neg (by omega)]; exact h5 i hi
theorem RwTo.ext {w w1 w2 : World} {b o : Nat} {l : List Value} (h : RwTo w w1 b o l) (hE : Ext w1 w2) : RwTo w w2 b o l := by
  obtain ⟨T, arr, arr', h1, h2, h3, h4, h5⟩ := h.row
  exact ⟨h.chg.ext hE, h.hl, T, arr, arr', h1, h2.ext hE, h3, h4, h5⟩
theorem held4 {t : Tr} (h : t.held.length = 4) : ∃ a b c d, t.held = [a, b, c, d] := by
  match hh : t.held with
  | [a, b, c, d] => exact ⟨a, b, c, d, rfl⟩
  | [] => rw [hh] at h; simp at h
  | [_] => rw [hh] at h; simp at h
  | [_, _] => rw [hh] at h; simp at h
  | [_, _, _] => rw [hh] at h; simp at h
  | _ :: _ :: _ :: _ :: _ :: _ => rw [hh] at h; simp at h
theorem held_lose (t : Tr) : (loseT t).held.length = 4 := rfl

set_option maxHeartbeats 1000000 in
theorem lose_any (b o : Nat) (t : Tr) (w : World) (h : TrAt w b o t) :
    Calls Tryz.prog 110 #[.pointer (some ⟨b, o, none⟩)] w fun e w' => e = .returned (.tuple #[]) ∧ TrTo w w' b o (loseT t) := by
  have c5 : w.cell? ⟨b, o + 5, none⟩ = some (.bool t.shown) := h.c 5
  have c6 : w.cell? ⟨b, o + 6, none⟩ = some (.bool t.lost) := h.c 6
  have c7 : w.cell? ⟨b, o + 7, none⟩ = some (.int .i64 t.hd.st) := h.c 7
  have c8 : w.cell? ⟨b, o + 8, none⟩ = some (.int .i64 t.hd.tag) := h.c 8
  have c9 : w.cell? ⟨b, o + 9, none⟩ = some (.int .i64 t.hd.tot) := h.c 9
  have c10 : w.cell? ⟨b, o + 10, none⟩ = some (.int .i64 t.hd.frm) := h.c 10
  have c11 : w.cell? ⟨b, o + 11, none⟩ = some (.int .i64 t.hd.len) := h.c 11
  have c14 := h.ch 0 (by omega)
  have c15 := h.ch 1 (by omega)
  have c16 := h.ch 2 (by omega)
  have c17 := h.ch 3 (by omega)
  have hf := h.fz
  have hlt := h.lt
  cases hs : t.shown <;> rw [hs] at c5
  · go_enter Tryz.func110, Tryz.ntmps110
    go_wp2_with fail
    go_end0
    refine ⟨rfl, RwTo.tr ((((((((((((TrTo.refl h).rw.set 6 (by omega) _).set 14 (by omega) _).set 15 (by omega) _).set 16 (by omega) _).set 17 (by omega) _).set 7 (by omega) _).set 8 (by omega) _).set 9 (by omega) _).set 10 (by omega) _).set 11 (by omega) _)) ?_ (held_lose t)⟩
    obtain ⟨x0, x1, x2, x3, hh⟩ := held4 h.hl
    simp [trV, loseT, noBytes, hh, hs, ByteArray.empty, ByteArray.emptyWithCapacity] <;> rfl
  · go_enter Tryz.func110, Tryz.ntmps110
    go_wp2_with fail
    go_end0
    refine ⟨rfl, RwTo.tr (((((((TrTo.refl h).rw.set 6 (by omega) _).set 14 (by omega) _).set 15 (by omega) _).set 16 (by omega) _).set 17 (by omega) _)) ?_ (held_lose t)⟩
    obtain ⟨x0, x1, x2, x3, hh⟩ := held4 h.hl
    simp [trV, loseT, noBytes, hh, hs, ByteArray.empty, ByteArray.emptyWithCapacity] <;> rfl

set_option maxHeartbeats 1000000 in
theorem fail_any (b o : Nat) (t : Tr) (tri : Int) (w : World) (h : TrAt w b o t) (ok : TrOk t) :
    Calls Tryz.prog 93 #[.pointer (some ⟨b, o, none⟩), .int .i64 tri] w fun e w' => e = .returned (.tuple #[]) ∧ TrTo w w' b o (pfailT tri t) := by
  have c13 : w.cell? ⟨b, o + 13, none⟩ = some (.int .i64 t.fails) := h.c 13
  have hf := h.fz
  have hlt := h.lt
  have ha0 := ok.a0
  have ha1 := ok.a1
  have HT : Hid (TrTo w (w.setCell ⟨b, o + 13, none⟩ (.int .i64 (t.fails + 1))) b o { t with fails := t.fails + 1 }) := by
    exact (TrTo.refl h).set 13 (by omega) _ (by simp [trV]) h.hl
  unfold pfailT
  by_cases hle : tri ≤ t.fails + 1
  · rw [if_pos hle]
    go_enter Tryz.func93, Tryz.ntmps93
    go_wp2_with fail
    refine (lose_any b o _ _ HT.out.at).mono ?_
    rintro e w1 ⟨rfl, hT1⟩
    go_wp2_with fail
    go_end0
    exact ⟨rfl, HT.out.trans hT1⟩
  · rw [if_neg hle]
    go_enter Tryz.func93, Tryz.ntmps93
    go_wp2_with fail
    go_end0
    exact ⟨rfl, HT.out⟩

set_option maxHeartbeats 2000000 in
theorem follows_any (b o : Nat) (t : Tr) (tag tot : Int) (w : World) (h : TrAt w b o t) :
    Calls Tryz.prog 106 #[.pointer (some ⟨b, o, none⟩), .agg #[.int .i64 tag, .int .i64 tot]] w fun e w' => e = .returned (.bool (followsT t (tag, tot))) ∧ Ext w w' := by
  have c4 : w.cell? ⟨b, o + 4, none⟩ = some (.bool t.bound) := h.c 4
  have c5 : w.cell? ⟨b, o + 5, none⟩ = some (.bool t.shown) := h.c 5
  have c6 : w.cell? ⟨b, o + 6, none⟩ = some (.bool t.lost) := h.c 6
  have hlt := h.lt
  have hE := Ext.new w (.cells #[.int .i64 tag, .int .i64 tot] 89)
  have hB := Blk.new w 89 #[.int .i64 tag, .int .i64 tot]
  have HV := version_any b o t
  unfold followsT
  cases hl : t.lost <;> rw [hl] at c6
  · cases hb : t.bound <;> rw [hb] at c4
    · go_enter Tryz.func106, Tryz.ntmps106
      go_wp2_with fail
      go_ret
      exact ⟨rfl, hE⟩
    · cases hs : t.shown <;> rw [hs] at c5
      · have HH := hide h
        clear h
        generalize t.hd.tag = tg at *
        generalize t.hd.tot = tt at *
        by_cases h1 : tg = tag
        · subst h1
          by_cases h2 : tt = tot
          all_goals first | subst h2 | skip
          all_goals
            go_enter Tryz.func106, Tryz.ntmps106
            go_wp2_with fail
            go_region_with (go_at_call 102; refine (HV _ ((HH.out.ext hE).ext (Below.drew (Below.refl _ _)))).mono ?_; rintro r w1 ⟨rfl, hE1⟩; have hB1 := hB.ext hE1.undrew; have k1 : w1.cell? ⟨w.heap.size, 0, none⟩ = some _ := hB1.cell 0; have k2 : w1.cell? ⟨w.heap.size, 1, none⟩ = some _ := hB1.cell 1)
          all_goals go_wp2_with fail
          all_goals go_ret
          all_goals exact ⟨ret_bool (by simp <;> assumption), Ext.trans' hE hE1.undrew⟩
        · go_enter Tryz.func106, Tryz.ntmps106
          go_wp2_with fail
          go_region_with (go_at_call 102; refine (HV _ ((HH.out.ext hE).ext (Below.drew (Below.refl _ _)))).mono ?_; rintro r w1 ⟨rfl, hE1⟩; have hB1 := hB.ext hE1.undrew; have k1 : w1.cell? ⟨w.heap.size, 0, none⟩ = some _ := hB1.cell 0; have k2 : w1.cell? ⟨w.heap.size, 1, none⟩ = some _ := hB1.cell 1)
          all_goals go_wp2_with fail
          all_goals go_ret
          all_goals exact ⟨ret_bool (by simp [h1]), Ext.trans' hE hE1.undrew⟩
      · go_enter Tryz.func106, Tryz.ntmps106
        go_wp2_with fail
        go_quiet (fail)
        go_wp2_with fail
        go_ret
        exact ⟨ret_bool (by simp), Ext.drewN hE _⟩
  · go_enter Tryz.func106, Tryz.ntmps106
    go_wp2_with fail
    go_ret
    exact ⟨rfl, hE⟩

end Go.Proofs.YtjhihliciadipabGreat

namespace Go.Proofs.YtjhihliciadipabGreat
open Go.RowKit

set_option maxRecDepth 100000 in
set_option maxHeartbeats 2000000 in
theorem bind_known (b o : Nat) (t : Tr) (tag tot : Int) (w : World) (h : TrAt w b o t) (ok : TrOk t) (h0 : 0 ≤ tot) (h1 : tot ≤ 1000) :
    Calls Tryz.prog 43 #[.pointer (some ⟨b, o, none⟩), .agg #[.int .i64 tag, .int .i64 tot]] w fun e w' => e = .returned (.tuple #[]) ∧ TrTo w w' b o (bindT t (tag, tot)) := by
  have hlt := h.lt
  have hf0 := ok.f0
  have hf1 := ok.f1
  have hl0 := ok.l0
  have hl1 := ok.l1
  have hB : Blk ((w.setCell ⟨b, o + 4, none⟩ (.bool true)).alloc (.cells #[.int .i64 tag, .int .i64 tot] 89)) w.heap.size 89 #[.int .i64 tag, .int .i64 tot] := by
    have := Blk.new (w.setCell ⟨b, o + 4, none⟩ (.bool true)) 89 #[.int .i64 tag, .int .i64 tot]
    simpa [World.setCell] using this
  have HT : Hid (TrTo w ((w.setCell ⟨b, o + 4, none⟩ (.bool true)).alloc (.cells #[.int .i64 tag, .int .i64 tot] 89)) b o { t with bound := true }) :=
    ((TrTo.refl h).set (t' := { t with bound := true }) 4 (by omega) _ (by simp [trV]) h.hl).ext (Ext.new _ _)
  have hf := h.fz
  have c4 : w.cell? ⟨b, o + 4, none⟩ = some (.bool t.bound) := h.c 4
  have HH := headR_any t.kind t.fst t.lst tag tot
  go_enter Tryz.func43, Tryz.ntmps43
  go_wp2_with fail
  generalize (w.setCell ⟨b, o + 4, none⟩ (.bool true)).alloc (.cells #[.int .i64 tag, .int .i64 tot] 89) = w0 at *
  have ha := HT.out.at
  have v0 : w0.cell? ⟨w.heap.size, 0, none⟩ = some (.int .i64 tag) := hB.cell 0
  have v1 : w0.cell? ⟨w.heap.size, 1, none⟩ = some (.int .i64 tot) := hB.cell 1
  have d1 : w0.cell? ⟨b, o + 1, none⟩ = some (.int .i64 t.kind) := ha.c 1
  have d2 : w0.cell? ⟨b, o + 1 + 1, none⟩ = some (.int .i64 t.fst) := ha.c 2
  have d3 : w0.cell? ⟨b, o + 1 + 2, none⟩ = some (.int .i64 t.lst) := ha.c 3
  have d2' : w0.cell? ⟨b, o + 2, none⟩ = some (.int .i64 t.fst) := ha.c 2
  have d3' : w0.cell? ⟨b, o + 3, none⟩ = some (.int .i64 t.lst) := ha.c 3
  have HA := hide ha
  have hlt0 := ha.lt
  clear hf c4 hB
  go_cut [0] (fun v wx => v = .pointer (some ⟨b, o, none⟩) ∧ TrTo w wx b o { t with bound := true, hd := headR t.kind t.fst t.lst tag tot })
  case first =>
    generalize headR t.kind t.fst t.lst tag tot = hd at *
    clear ha
    go_region_with (go_at_call 74; refine (HH _ h0 h1 hf0 hf1 hl0 hl1).mono ?_; rintro e w1 ⟨rfl, hE1⟩; rw [hdAgg_eq]; have ha1 := HA.out.ext hE1.undrew; have d7 : w1.cell? ⟨b, o + 7, none⟩ = some (.int .i64 t.hd.st) := ha1.c 7; have d8 : w1.cell? ⟨b, o + 7 + 1, none⟩ = some (.int .i64 t.hd.tag) := ha1.c 8; have d9 : w1.cell? ⟨b, o + 7 + 2, none⟩ = some (.int .i64 t.hd.tot) := ha1.c 9; have d10 : w1.cell? ⟨b, o + 7 + 3, none⟩ = some (.int .i64 t.hd.frm) := ha1.c 10; have d11 : w1.cell? ⟨b, o + 7 + 4, none⟩ = some (.int .i64 t.hd.len) := ha1.c 11; have df := ha1.fz; have HA1 := hide ha1; clear ha1)
    all_goals go_wp2_with fail
    all_goals go_meet
    all_goals refine ⟨rfl, RwTo.tr ((((((((HT.out.rw.ext hE1.undrew).set 7 (by omega) _).set 8 (by omega) _).set 9 (by omega) _).set 10 (by omega) _).set 11 (by omega) _))) ?_ h.hl⟩
    all_goals simp [trV]
  case rest =>
    obtain ⟨rfl, hT2⟩ := hcut
    have ha2 := hT2.at
    have d13 : wc.cell? ⟨b, o + 13, none⟩ = some (.int .i64 t.fails) := ha2.c 13
    have c14 : wc.cell? ⟨b, o + 14, none⟩ = some _ := ha2.ch 0 (by omega)
    have c15 : wc.cell? ⟨b, o + 14 + 1, none⟩ = some _ := ha2.ch 1 (by omega)
    have c16 : wc.cell? ⟨b, o + 14 + 2, none⟩ = some _ := ha2.ch 2 (by omega)
    have c17 : wc.cell? ⟨b, o + 14 + 3, none⟩ = some _ := ha2.ch 3 (by omega)
    have hf2 := ha2.fz
    have hlt2 := ha2.lt
    clear ha HA HH d1 d2 d3 v0 v1 ha2
    go_wp2_with fail
    go_end0
    refine ⟨rfl, RwTo.tr (((((((hT2.rw.set 13 (by omega) _).set 14 (by omega) _).set 15 (by omega) _).set 16 (by omega) _).set 17 (by omega) _))) ?_ rfl⟩
    obtain ⟨x0, x1, x2, x3, hh⟩ := held4 h.hl
    simp [trV, bindT, noBytes, hh, ByteArray.empty, ByteArray.emptyWithCapacity] <;> rfl
end Go.Proofs.YtjhihliciadipabGreat
