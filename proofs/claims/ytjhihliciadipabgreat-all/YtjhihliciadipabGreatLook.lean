import Derived.Test.YtjhihliciadipabGreatRep
set_option linter.unusedVariables false
set_option linter.unusedSimpArgs false
set_option linter.unnecessarySimpa false
namespace Go.Proofs.YtjhihliciadipabGreat
open Go.RowKit

theorem keep_own {w w' : World} {p : Nat} {L L' : Lay} {base : Nat} {e : TypeId} {sz : Nat} {v : Value} {n : Nat} {xs : List Value} (hM : Mvs w w' p L L') (h : w.ownsRow base e sz v n xs)
    (hd : ∀ x, v.ownBlock = some x → ¬ Foot p L x) : w'.ownsRow base e sz v n xs ∧ (∀ x, v.ownBlock = some x → ¬ Foot p L' x) :=
  ⟨own_chg h hM.chg hd, fun x hx hf => by
    rcases hM.foot x hf with h1 | h1
    · exact hd x hx h1
    · have := (h.lt x hx).2; omega⟩

/-- A cell of a block of the cache is stored. -/
theorem PrAt.storeC {w : World} {p : Nat} {s : Pr} {L : Lay} (h : PrAt w p s L) {c : Nat} {x : Kp} (hx : s.cache[c]? = some x) {g cap : Nat} (hC : L.vC = .slice (some ⟨g, 0, none⟩) s.cache.length cap)
    (r : Nat) (hr : r < 6) (u : Value) (x' : Kp) (hrow : (kpV x).set r u = kpV x') :
    PrAt (w.setCell ⟨g, c * 6 + r, none⟩ u) p { s with cache := s.cache.set c x' } L ∧ Mvs w (w.setCell ⟨g, c * 6 + r, none⟩ u) p L L := by
  have hgC : L.vC.ownBlock = some g := by rw [hC]; rfl
  have hgF : Foot p L g := Or.inr ⟨L.vC, by simp [Lay.vs], hgC⟩
  have hc1 : Chg (fun x => x = g) w (w.setCell ⟨g, c * 6 + r, none⟩ u) := Chg.setCell (S := fun x => x = g) (Chg.refl _ _) (p := ⟨g, c * 6 + r, none⟩) (Or.inl rfl) _
  have hoS : ∀ (j : Nat) v, j ≠ 3 → L.vs[j]? = some v → ∀ x, v.ownBlock = some x → ¬ (x = g) := by
    intro j v h0 hv1 y hy
    rintro rfl
    exact h.sep j 3 v L.vC y h0 hv1 rfl hy hgC
  refine ⟨⟨h.blk.chg hc1 (fun e => h.np L.vC (by simp [Lay.vs]) (by rw [hgC, e])), own_chg h.ts hc1 (hoS 0 _ (by omega) rfl), own_chg h.jobs hc1 (hoS 1 _ (by omega) rfl), own_chg h.latest hc1 (hoS 2 _ (by omega) rfl), ?_, h.hl,
    fun i m hv hm hh => own_chg (h.has i m hv hm hh) hc1 (hoS (i + 4) hv (by omega) (by simpa [Lay.vs] using hh)), h.np, h.sep⟩, hc1.mono (fun x _ hx => by rw [hx]; exact hgF), fun b hb => Or.inl hb⟩
  have hcc := h.cache
  have e1 : (s.cache.map kpV).flatten.set (c * 6 + r) u = ((s.cache.set c x').map kpV).flatten := by
    rw [flat_set 6 _ (kps_len _) c r hr u (kpV x) (by simp [hx]), hrow, List.map_set]
  rw [hC] at hcc ⊢
  have := (hcc.stored (c * 6 + r) u).1
  rw [e1] at this
  simpa using this

theorem PrAt.cellC {w : World} {p : Nat} {s : Pr} {L : Lay} (h : PrAt w p s L) {c : Nat} {x : Kp} (hx : s.cache[c]? = some x) {g cap : Nat} (hC : L.vC = .slice (some ⟨g, 0, none⟩) s.cache.length cap)
    (r : Nat) (hr : r < 6) : w.cell? ⟨g, c * 6 + r, none⟩ = (kpV x)[r]? := by
  have hcc := h.cache
  rw [hC] at hcc
  have hi := (List.getElem?_eq_some_iff.1 hx).1
  rw [hcc.cellAt (c * 6 + r) (by have : (c + 1) * 6 ≤ s.cache.length * 6 := Nat.mul_le_mul_right 6 hi; omega), flat_get 6 _ (kps_len _) c r hr]; simp [hx]

structure LkAt (wr : World) (p : Nat) (s1 : Pr) (L1 : Lay) (w : World) (L : Lay) : Prop where
  at_ : PrAt wr p s1 L1
  mvs : Mvs w wr p L L1
  vT : L1.vT = L.vT
  vC : L1.vC = L.vC
  vJ : L1.vJ = L.vJ
  vL : L1.vL = L.vL
theorem LkAt.ext {wr w' : World} {p : Nat} {s1 : Pr} {L1 : Lay} {w : World} {L : Lay} (h : LkAt wr p s1 L1 w L) (hE : Ext wr w') : LkAt w' p s1 L1 w L := ⟨h.at_.ext hE, h.mvs.ext hE, h.vT, h.vC, h.vJ, h.vL⟩

/-- One block of the cache fits: the transfer is given it, the clock moves, the block was used. -/
theorem hit_step {w w1 : World} {p : Nat} {s : Pr} {L : Lay} (h : PrAt w p s L) {i c : Nat} {t : Mv} {x : Kp} {hv hv' : Value} (ht : s.ts[i]? = some t) (hx : s.cache[c]? = some x) (hh : L.hs[i]? = some hv)
    {g cap gC capC : Nat} (hT : L.vT = .slice (some ⟨g, 0, none⟩) s.ts.length cap) (hC : L.vC = .slice (some ⟨gC, 0, none⟩) s.cache.length capC) {arr : Array Value} (harr : Blk w g 118 arr)
    (hB : Blk w1 g 118 (arr.setIfInBounds (i * 12 + 11) hv')) (has' : List ByteArray) (hown : w1.ownsRow 0 9 1 hv' has'.length (has'.map .string))
    (hc : Chg (fun x => x = g ∨ hv.ownBlock = some x) w w1) (hor : ∀ x, hv'.ownBlock = some x → hv.ownBlock = some x ∨ w.heap.size ≤ x) :
    PrAt w1 p { s with ts := s.ts.set i { t with has := has' } } { L with hs := L.hs.set i hv' } ∧ Mvs w w1 p L { L with hs := L.hs.set i hv' } :=
  h.upd ht hh hT 11 (by omega) hv' { t with has := has' } hv' rfl hc (fun arr2 hB2 => by
    have : arr2 = arr := by unfold Blk at hB2 harr; rw [harr] at hB2; simpa using hB2.symm
    subst this; exact hB) hown hor

theorem wants_bd {s : Pr} (m : Mv) (hf : FairS s) (ok : MvOk m) : ∀ k ∈ wantsL s.blk s.win m, 0 ≤ k ∧ k ≤ 100000 := by
  intro k hk
  unfold wantsL at hk
  split at hk
  · simp at hk; omega
  · exact win_bd s.blk s.win m hf.B1 hf.B2 hf.W2 ok k (List.mem_filter.1 hk).1

set_option maxRecDepth 100000 in
set_option maxHeartbeats 2000000 in
theorem look_any (p : Nat) (s : Pr) (L : Lay) (C : Int) (w : World) (h : PrAt w p s L) (inv : Inv s C) (hC : C ≤ 50000000000000000) :
    Calls Tryz.prog 46 #[.pointer (some ⟨p, 0, none⟩)] w fun e w' => e = .returned (.tuple #[]) ∧ ∃ L', LkAt w' p (lookL s) L' w L := by
  have HL : Hid (lookL s = lookTo s s.ts.length) := rfl
  go_enter Tryz.func46, Tryz.ntmps46
  go_wp2_with fail
  go_loopw [2] (fun i wr => ∃ (n : Nat) (L1 : Lay), n ≤ s.ts.length ∧ i = .int .i64 n ∧ LkAt wr p (lookTo s n) L1 w L ∧ Inv (lookTo s n) (C + 1024 * n) ∧ Same s (lookTo s n)) (fun i _ => s.ts.length - (intOf i).toNat)
  case atStart => exact ⟨0, L, Nat.zero_le _, rfl, ⟨h, Mvs.refl _ _ _, rfl, rfl, rfl, rfl⟩, by simpa [lookTo] using inv, Same.refl _⟩
  case round =>
    obtain ⟨n, L1, hn, rfl, hA, hI, hS⟩ := hrel
    have HN : Hid (lookTo s (n + 1) = lookT (lookTo s n) n) := lookTo_succ s n
    have HZ : Hid (lookL s = lookTo s s.ts.length) := HL
    have hnts := inv.nts
    generalize hs1 : lookTo s n = s1 at *
    have HS1 := hide hs1
    clear hs1
    have hvT : wr.cell? ⟨p, 5, none⟩ = some L1.vT := hA.at_.blk.cell 5
    obtain ⟨aT, cap, hTf, hgT⟩ := own_form hA.at_.ts
    rw [hTf, hS.nts] at hvT
    by_cases hlt : n < s.ts.length
    · obtain ⟨g, rfl⟩ := hgT (by rw [hS.nts]; omega)
      have hT := hTf
      have hTL : L.vT = .slice (some ⟨g, 0, none⟩) s.ts.length cap := by rw [← hA.vT, hT, hS.nts]
      clear hTf hgT
      have ht : s1.ts[n]? = some (s1.ts[n]'(by rw [hS.nts]; exact hlt)) := by simp
      generalize s1.ts[n]'(by rw [hS.nts]; exact hlt) = t at *
      obtain ⟨hv, hh⟩ := hA.at_.hv ht
      obtain ⟨hm, hha⟩ := hA.at_.mv ht hh hT
      have hok := hI.ts t (List.mem_of_getElem? ht)
      go_wp2_with fail
      refine (wants_any p g (n * 12) s1.blk s1.win t hv _ hm hok (hA.at_.set hI.fair) hha).mono ?_
      rintro e w1 ⟨v1, rfl, hE1, hown1⟩
      have hA1 := hA.ext hE1
      have HT : Hid (lookT s1 n = (wantsL s1.blk s1.win t).foldl (lookK n) s1) := by show _ = _; unfold lookT; rw [ht]
      have hll := wants_len s1.blk s1.win t hI.fair.W2
      have hwb := wants_bd t hI.fair hok
      generalize wantsL s1.blk s1.win t = l at *
      have hd1 : ∀ x, v1.ownBlock = some x → ¬ Foot p L1 x := fun x hx hf => by
        have h1 := (hown1.lt x hx).1
        have h2 := hA.at_.lt x hf
        omega
      have ho1 := own_base hown1 (Nat.zero_le _)
      obtain ⟨a1, cap1, rfl, hg1⟩ := own_form ho1
      clear hm hha hok hown1 hA hvT
      go_wp2_with fail
      go_loopw [5] (fun i wr => ∃ (j : Nat) (L2 : Lay), j ≤ l.length ∧ i = .int .i64 j ∧ LkAt wr p (lookKTo n l s1 j) L2 w L ∧ Inv (lookKTo n l s1 j) (C + 1024 * n + 256 * j) ∧ Same s1 (lookKTo n l s1 j) ∧
        wr.ownsRow 0 3 1 (.slice a1 l.length cap1) l.length (l.map (.int .i64)) ∧ (∀ x, (Value.slice a1 l.length cap1).ownBlock = some x → ¬ Foot p L2 x)) (fun i _ => l.length - (intOf i).toNat)
      case atStart => exact ⟨0, L1, Nat.zero_le _, rfl, hA1, by simpa [lookKTo] using hI, Same.refl _, ho1, hd1⟩
      case round =>
        obtain ⟨j, L2, hj, rfl, hA2, hI2, hS2, ho2, hd2⟩ := hrel
        by_cases hlt2 : j < l.length
        · have HK : Hid (lookKTo n l s1 (j + 1) = lookK n (lookKTo n l s1 j) l[j]) := by
            show _ = _; unfold lookKTo; rw [List.take_succ_eq_append_getElem hlt2, List.foldl_append]; rfl
          generalize hs2 : lookKTo n l s1 j = s2 at *
          clear hs2
          have hkb := hwb l[j] (List.getElem_mem hlt2)
          have HK2 : Hid (lookK n s2 l[j] = lookCTo n l[j] s2 s2.cache.length) := rfl
          obtain ⟨g1, rfl⟩ := hg1 (by omega)
          have hnc := hI2.nc
          clear hg1
          go_wp2_with fail
          go_loopw [6] (fun i wr => ∃ (c : Nat) (L3 : Lay), c ≤ s2.cache.length ∧ i = .int .i64 c ∧ LkAt wr p (lookCTo n l[j] s2 c) L3 w L ∧ Inv (lookCTo n l[j] s2 c) (C + 1024 * n + 256 * j + c) ∧ Same s2 (lookCTo n l[j] s2 c) ∧
            wr.ownsRow 0 3 1 (.slice (some ⟨g1, 0, none⟩) l.length cap1) l.length (l.map (.int .i64)) ∧ (∀ x, (Value.slice (some ⟨g1, 0, none⟩) l.length cap1).ownBlock = some x → ¬ Foot p L3 x)) (fun i _ => s2.cache.length - (intOf i).toNat)
          case atStart => exact ⟨0, L2, Nat.zero_le _, rfl, hA2, by simpa [lookCTo] using hI2, Same.refl _, ho2, hd2⟩
          case round =>
            obtain ⟨c, L3, hc, rfl, hA3, hI3, hS3, ho3, hd3⟩ := hrel
            have HC : Hid (lookCTo n l[j] s2 (c + 1) = lookC n l[j] (lookCTo n l[j] s2 c) c) := lookCTo_succ _ _ _ _
            generalize hs3 : lookCTo n l[j] s2 c = s3 at *
            have HS3 := hide hs3
            clear hs3
            have hvC : wr.cell? ⟨p, 8, none⟩ = some L3.vC := hA3.at_.blk.cell 8
            obtain ⟨aC, capC, hCf, hgC⟩ := own_form hA3.at_.cache
            rw [hCf, hS3.nc] at hvC
            by_cases hlt3 : c < s2.cache.length
            · obtain ⟨gC, rfl⟩ := hgC (by rw [hS3.nc]; omega)
              have hx : s3.cache[c]? = some (s3.cache[c]'(by rw [hS3.nc]; exact hlt3)) := by simp
              generalize s3.cache[c]'(by rw [hS3.nc]; exact hlt3) = x at *
              have hts3 : s3.ts.length = s.ts.length := by rw [hS3.nts, hS2.nts, hS.nts]
              have ht3 : s3.ts[n]? = some (s3.ts[n]'(by rw [hts3]; exact hlt)) := by simp
              generalize s3.ts[n]'(by rw [hts3]; exact hlt) = t3 at *
              obtain ⟨hv3, hh3⟩ := hA3.at_.hv ht3
              have hT3 : L3.vT = .slice (some ⟨g, 0, none⟩) s3.ts.length cap := by rw [hA3.vT, hTL, hts3]
              obtain ⟨hm3, hha3⟩ := hA3.at_.mv ht3 hh3 hT3
              have q0 : wr.cell? ⟨gC, c * 6, none⟩ = some (.int .i64 x.path) := hA3.at_.cellC hx hCf 0 (by omega)
              have q1 : wr.cell? ⟨gC, c * 6 + 1, none⟩ = some (.int .i64 x.tag) := hA3.at_.cellC hx hCf 1 (by omega)
              have q2 : wr.cell? ⟨gC, c * 6 + 2, none⟩ = some (.int .i64 x.tot) := hA3.at_.cellC hx hCf 2 (by omega)
              have q3 : wr.cell? ⟨gC, c * 6 + 3, none⟩ = some (.int .i64 x.k) := hA3.at_.cellC hx hCf 3 (by omega)
              have q4 : wr.cell? ⟨gC, c * 6 + 4, none⟩ = some (.string x.body) := hA3.at_.cellC hx hCf 4 (by omega)
              have q5 : wr.cell? ⟨gC, c * 6 + 5, none⟩ = some (.int .i64 x.when) := hA3.at_.cellC hx hCf 5 (by omega)
              have r0 := hm3.path
              have r4 := hm3.tag
              have r5 : wr.cell? ⟨g, n * 12 + 4 + 1, none⟩ = some (.int .i64 t3.tot) := hm3.tot
              have hgl : g < wr.heap.size := World.block_lt_of_cell? wr _ r0
              have hg1l : g1 < wr.heap.size := (ho3.lt g1 rfl).2
              have ck : wr.cell? ⟨g1, j, none⟩ = some (.int .i64 l[j]) := by
                rw [ho3.cellAt j (by omega)]; simp [hlt2]
              clear hgC
              go_wp2_with fail
              go_cut [72] (fun b wx => b = .bool (lookHit t3 x l[j]) ∧ ∃ nq, wx = (wr.alloc (.cells #[.int .i64 x.path, .int .i64 x.tag, .int .i64 x.tot, .int .i64 x.k, .string x.body, .int .i64 x.when] 144)).drewN nq)
              case first =>
                have HH : Hid (lookHit t3 x l[j] = (x.path == t3.path && (x.tag == t3.tag && x.tot == t3.tot) && x.k == l[j])) := rfl
                by_cases hp : (x.path == t3.path) = true
                · by_cases ht1 : t3.tag = x.tag
                  · by_cases ht2 : t3.tot = x.tot
                    · cases hk : (x.k == l[j])
                      all_goals
                        go_quiet (fail)
                        go_wp2_with fail
                        go_meet
                        exact ⟨by rw [HH.out, hp, ht1, ht2, hk]; simp, _, rfl⟩
                    · have ht3' : ¬ x.tot = t3.tot := fun e => ht2 e.symm
                      go_quiet (fail)
                      go_wp2_with fail
                      go_meet
                      exact ⟨by rw [HH.out]; simp [ht3'], _, rfl⟩
                  · have ht3' : ¬ x.tag = t3.tag := fun e => ht1 e.symm
                    go_quiet (fail)
                    go_wp2_with fail
                    go_meet
                    exact ⟨by rw [HH.out]; simp [ht3'], _, rfl⟩
                · have hp' : (x.path == t3.path) = false := by simpa using hp
                  go_quiet (fail)
                  go_wp2_with fail
                  go_meet
                  exact ⟨by rw [HH.out, hp']; simp, _, rfl⟩
              case rest =>
                obtain ⟨rfl, nq, rfl⟩ := hcut
                have hE4 : Ext wr ((wr.alloc (.cells #[.int .i64 x.path, .int .i64 x.tag, .int .i64 x.tot, .int .i64 x.k, .string x.body, .int .i64 x.when] 144)).drewN nq) := Ext.drewN (Ext.new wr _) _
                have hA4 := hA3.ext hE4
                have ho4 := own_ext ho3 hE4
                have hB4 : Blk ((wr.alloc (.cells #[.int .i64 x.path, .int .i64 x.tag, .int .i64 x.tot, .int .i64 x.k, .string x.body, .int .i64 x.when] 144)).drewN nq) wr.heap.size 144 #[.int .i64 x.path, .int .i64 x.tag, .int .i64 x.tot, .int .i64 x.k, .string x.body, .int .i64 x.when] :=
                  (Blk.new wr _ _).ext (Ext.drewN (Below.refl _ _) _)
                generalize (wr.alloc (.cells #[.int .i64 x.path, .int .i64 x.tag, .int .i64 x.tot, .int .i64 x.k, .string x.body, .int .i64 x.when] 144)).drewN nq = w4 at *
                have q3' : w4.cell? ⟨wr.heap.size, 3, none⟩ = some (.int .i64 x.k) := hB4.cell 3
                have q4' : w4.cell? ⟨wr.heap.size, 4, none⟩ = some (.string x.body) := hB4.cell 4
                have HC2 : Hid (lookC n l[j] s3 c = if lookHit t3 x l[j] = true then { s3 with ts := s3.ts.set n { t3 with has := giveL t3.has x.k.toNat x.body }, cache := s3.cache.set c { x with when := s3.clock + 1 }, clock := s3.clock + 1 } else s3) := by
                  show _ = _; unfold lookC; rw [ht3, hx]
                have HS4 := hide (lookC_same n l[j] s3 c)
                have HI4 := hide (lookC_inv n l[j] s3 c _ hI3)
                clear q0 q1 q2 q3 q4 q5 r0 r4 r5 ck hvC hm3 hha3
                cases hhit : lookHit t3 x l[j]
                · go_wp2_with fail
                  refine ⟨⟨c + 1, L3, by omega, by go_num, ?_, ?_, ?_, ho4, hd3⟩, by simp [intOf]; omega⟩
                  · rw [HC.out, HC2.out, hhit]; exact hA4
                  · rw [HC.out]; exact HI4.out.mono (by omega)
                  · rw [HC.out]; exact hS3.trans HS4.out
                · have hxo := hI3.cache x (List.mem_of_getElem? hx)
                  have hxo1 := hxo.k0
                  have hxo2 := hxo.k1
                  have hto := (hI3.ts t3 (List.mem_of_getElem? ht3)).hl
                  have hts4 := hA4.at_.ts
                  rw [hT3] at hts4
                  obtain ⟨arr, hBa, -, -, -, -, -⟩ := own_blk hts4
                  have hc11 : arr[n * 12 + 11]? = some hv3 := by rw [← hBa.cell]; exact hA4.at_.cellT ht3 hh3 hT3 11 (by omega)
                  have hne3 : hv3.ownBlock ≠ some g := fun e => hA4.at_.sep (n + 4) 0 hv3 L3.vT g (by omega) (by simpa [Lay.vs] using hh3) rfl e (by rw [hT3]; rfl)
                  go_wp2_with fail
                  refine (give_any g (n * 12) _ arr t3.has hv3 x.k x.body _ hBa hc11 (hA4.at_.has n t3 hv3 ht3 hh3) hne3 hxo1 hxo2 hto).mono ?_
                  rintro e w5 ⟨rfl, hv', hB5, hown5, hC5, hor5⟩
                  obtain ⟨hP5, hM5⟩ := hit_step hA4.at_ ht3 hx hh3 hT3 hCf hBa hB5 _ hown5 hC5 hor5
                  have hvC5 : w5.cell? ⟨p, 8, none⟩ = some (.slice (some ⟨gC, 0, none⟩) s3.cache.length capC) := by rw [← hCf]; exact hP5.blk.cell 8
                  have hck5 : w5.cell? ⟨p, 9, none⟩ = some (.int .i64 s3.clock) := hP5.blk.cell 9
                  have hfp5 := hP5.blk.frozen
                  have hcc5 : w5.cell? ⟨gC, c * 6 + 5, none⟩ = some (.int .i64 x.when) := hP5.cellC (s := { s3 with ts := s3.ts.set n { t3 with has := giveL t3.has x.k.toNat x.body } }) hx hCf 5 (by omega)
                  have hfc5 : ∀ r, w5.frozen? ⟨gC, r, none⟩ = false := by
                    have h5 := hP5.cache
                    rw [show ({ L3 with hs := L3.hs.set n hv' } : Lay).vC = _ from hCf] at h5
                    exact fun r => h5.frozenAt r
                  have hgp : gC ≠ p := fun e => hP5.np L3.vC (by simp [Lay.vs]) (by rw [hCf, e]; rfl)
                  have hcl0 := hI3.c0
                  have hcl1 := hI3.c1
                  have hncc : s3.cache.length = s2.cache.length := hS3.nc
                  have hlt4 : c < s3.cache.length := by omega
                  have hM6 := hA4.mvs.trans hM5
                  have hk5 := keep_own hM5 ho4 hd3
                  clear hBa hB5 hown5 hC5 hor5 hts4 hc11
                  go_wp2_with fail
                  go_region_with (go_at_call 83; refine (use_any p s3.clock _ ?_ ?_ hcl0 ?_).mono ?_; exact hck5; exact hfp5 9; omega; rintro e w6 ⟨rfl, rfl⟩)
                  all_goals go_wp2_with fail
                  all_goals
                    obtain ⟨hP6, hM6'⟩ := hP5.top 9 (.int .i64 (s3.clock + 1)) { s3 with ts := s3.ts.set n { t3 with has := giveL t3.has x.k.toNat x.body }, clock := s3.clock + 1 } _ rfl rfl rfl rfl rfl rfl
                    obtain ⟨hP7, hM7⟩ := hP6.storeC (s := { s3 with ts := s3.ts.set n { t3 with has := giveL t3.has x.k.toNat x.body }, clock := s3.clock + 1 }) hx hCf 5 (by omega) (.int .i64 (s3.clock + 1)) { x with when := s3.clock + 1 } rfl
                    have hM8 := hM6'.trans hM7
                    have hk8 := keep_own hM8 hk5.1 hk5.2
                    have hA9 : LkAt _ p _ _ w L := ⟨hP7, hM6.trans hM8, hA3.vT, hA3.vC, hA3.vJ, hA3.vL⟩
                    refine ⟨⟨c + 1, _, by omega, by go_num, ?_, ?_, ?_, hk8.1, hk8.2⟩, by simp [intOf]; omega⟩
                    · rw [HC.out, HC2.out, hhit]; exact hA9.ext (Below.drew (Below.refl _ _))
                    · rw [HC.out]; exact HI4.out.mono (by omega)
                    · rw [HC.out]; exact hS3.trans HS4.out
            · go_wp2_with fail
              refine ⟨⟨j + 1, L3, by omega, by go_num, ?_, ?_, ?_, ho3, hd3⟩, by simp [intOf]; omega⟩
              all_goals have hcc : c = s2.cache.length := by omega
              all_goals rw [HK.out, HK2.out, ← hcc, HS3.out]
              · exact hA3
              · exact hI3.mono (by omega)
              · exact hS2.trans hS3
        · clear hg1 hwb hd1 hd2 ho1 ho2 hh ht hT hTL
          generalize hs2 : lookKTo n l s1 j = s2 at *
          have HS2 := hide hs2
          clear hs2
          go_wp2_with fail
          refine ⟨⟨n + 1, L2, by omega, by go_num, ?_, ?_, ?_⟩, by simp [intOf]; omega⟩
          all_goals have hll2 : s2 = lookT s1 n := by rw [← HS2.out, HT.out]; unfold lookKTo; rw [List.take_of_length_le (by omega)]
          · rw [HN.out, ← hll2]; exact hA2
          · rw [HN.out, ← hll2]; exact hI2.mono (by omega)
          · rw [HN.out, ← hll2]; exact hS.trans hS2
    · go_wp2_with fail
      go_end0
      have hnn : n = s.ts.length := by omega
      exact ⟨rfl, L1, by rw [HL.out, ← hnn, HS1.out]; exact hA⟩
end Go.Proofs.YtjhihliciadipabGreat
