import Derived.Test.YtjhihliciadipaaPcall
import Derived.Test.YtjhihliciadipaaPtell
import Derived.Test.YtjhihliciadipaaPask
set_option linter.unusedVariables false
set_option linter.unusedSimpArgs false
set_option linter.unnecessarySimpa false
namespace Go.Proofs.Ytjhihliciadipaa
open Go.RowKit

theorem empty_isEmpty : ByteArray.empty.toList.isEmpty = true := by rw [ByteArray.toList_eq]; rfl
theorem held_get (l : List ByteArray) (hl : l.length = 4) (i : Nat) (hi : i < 4) (body : ByteArray) (j : Nat) : (l.set i body).getD j ByteArray.empty = if j = i then body else l.getD j ByteArray.empty := by
  rw [List.getD_eq_getElem?_getD, List.getD_eq_getElem?_getD, List.getElem?_set]
  by_cases h : i = j
  · subst h; rw [if_pos rfl, if_pos (by omega), if_pos rfl]; rfl
  · rw [if_neg h, if_neg (fun e => h e.symm)]
theorem ba_ext {a b : ByteArray} (h : a.data.toList = b.data.toList) : a = b := by
  obtain ⟨⟨x⟩⟩ := a
  obtain ⟨⟨y⟩⟩ := b
  simp at h; subst h; rfl
theorem ba_app (a b : ByteArray) : (a ++ b).data.toList = a.data.toList ++ b.data.toList := by simp
theorem ba_size (a : ByteArray) : a.data.toList.length = a.size := by simp
theorem ba_nil (a : ByteArray) (h : a.toList.isEmpty = true) : a = ByteArray.empty := by
  apply ba_ext
  rw [emptyL] at h
  simp at h
  rw [h]; rfl
theorem ba_pos (a : ByteArray) (h : a.toList.isEmpty = false) : 0 < a.size := by
  rw [emptyL] at h
  rw [← ba_size]
  cases hl : a.data.toList with
  | nil => rw [hl] at h; simp at h
  | cons x l => simp
theorem extract_nil (a : ByteArray) (i : Nat) : a.extract i i = ByteArray.empty := by
  apply ba_ext
  rw [ByteArray.data_extract]
  simp
theorem app_nil (a : ByteArray) : a ++ ByteArray.empty = a := by apply ba_ext; rw [ba_app]; simp
theorem app_size (a b : ByteArray) : (a ++ b).size = a.size + b.size := by rw [← ba_size, ba_app, List.length_append, ba_size, ba_size]
theorem extract_app_left (b r : ByteArray) (i j : Nat) (h : j ≤ b.size) : (b ++ r).extract i j = b.extract i j := by
  apply ba_ext
  have hs : j ≤ (b ++ r).size := by rw [app_size]; omega
  rw [ext_list _ _ _ hs, ext_list _ _ _ h, ba_app, List.take_append_of_le_length (by rw [ba_size]; exact h)]
theorem extract_app_over (b r : ByteArray) (i j : Nat) (hi : i ≤ b.size) (hj : j ≤ r.size) : (b ++ r).extract i (b.size + j) = b.extract i b.size ++ r.extract 0 j := by
  apply ba_ext
  have hs : b.size + j ≤ (b ++ r).size := by rw [app_size]; omega
  rw [ext_list _ _ _ hs, ba_app, ba_app, ext_list _ _ _ (Nat.le_refl _), ext_list _ _ _ hj, List.take_append, ba_size]
  have e1 : b.data.toList.take b.size = b.data.toList := List.take_of_length_le (by rw [ba_size]; omega)
  have e2 : b.data.toList.take (b.size + j) = b.data.toList := List.take_of_length_le (by rw [ba_size]; omega)
  rw [e1, e2, show b.size + j - b.size = j by omega, List.drop_append_of_le_length (by rw [ba_size]; exact hi)]
  simp
theorem app_assoc (a b c : ByteArray) : a ++ b ++ c = a ++ (b ++ c) := by apply ba_ext; simp
theorem extract_size (b : ByteArray) (i j : Nat) (hj : j ≤ b.size) : (b.extract i j).size = j - i := by
  rw [← ba_size, ext_list _ _ _ hj, List.length_drop, List.length_take, ba_size]; omega

theorem goT_held (a b : Int) (t : Tr) (k : Int) (n : Nat) : ∃ h, goT a b t k n = { t with held := h } ∧ h.length = t.held.length := by
  induction n with
  | zero => exact ⟨t.held, rfl, rfl⟩
  | succ n ih =>
    obtain ⟨h, e, hl⟩ := ih
    rw [goT_succ, e]
    split
    · exact ⟨h, rfl, hl⟩
    · exact ⟨_, rfl, by simp [hl]⟩
theorem goT_empty (a b : Int) (t : Tr) (hl : t.held.length = 4) (k : Int) (hk : 0 ≤ k) (n j : Nat) (he : t.held.getD j ByteArray.empty = ByteArray.empty) : (goT a b t k n).held.getD j ByteArray.empty = ByteArray.empty := by
  induction n with
  | zero => exact he
  | succ n ih =>
    obtain ⟨h, e, hh⟩ := goT_held a b t k n
    rw [goT_succ]
    split
    · exact ih
    · show ((goT a b t k n).held.set ((k + (n : Nat)) % 4).toNat ByteArray.empty).getD j ByteArray.empty = _
      rw [held_get _ (by rw [e]; simp only; omega) _ (by omega), ih]; split <;> rfl
theorem goT_clear (a b : Int) (t : Tr) (hl : t.held.length = 4) (k : Int) (hk : 0 ≤ k) (n j i : Nat) (hi : i < n) (hj : ((k + (i : Nat)) % 4).toNat = j) (hn : ¬ (a ≤ k + (i : Nat) ∧ k + (i : Nat) < b)) : (goT a b t k n).held.getD j ByteArray.empty = ByteArray.empty := by
  induction n with
  | zero => omega
  | succ n ih =>
    obtain ⟨h, e, hh⟩ := goT_held a b t k n
    rw [goT_succ]
    by_cases hin : i = n
    · subst hin
      rw [if_neg hn]
      show ((goT a b t k i).held.set ((k + (i : Nat)) % 4).toNat ByteArray.empty).getD j ByteArray.empty = _
      rw [held_get _ (by rw [e]; simp only; omega) _ (by omega), if_pos hj.symm]
    · have ih := ih (by omega)
      split
      · exact ih
      · show ((goT a b t k n).held.set ((k + (n : Nat)) % 4).toNat ByteArray.empty).getD j ByteArray.empty = _
        rw [held_get _ (by rw [e]; simp only; omega) _ (by omega), ih]; split <;> rfl
theorem goT_keep (a b : Int) (t : Tr) (hl : t.held.length = 4) (k : Int) (hk : 0 ≤ k) (n j : Nat) (hs : ∀ i : Nat, i < n → ((k + (i : Nat)) % 4).toNat = j → a ≤ k + (i : Nat) ∧ k + (i : Nat) < b) : (goT a b t k n).held.getD j ByteArray.empty = t.held.getD j ByteArray.empty := by
  induction n with
  | zero => rfl
  | succ n ih =>
    obtain ⟨h, e, hh⟩ := goT_held a b t k n
    have ih := ih (fun i hi => hs i (by omega))
    rw [goT_succ]
    split
    · exact ih
    · rename_i hn
      show ((goT a b t k n).held.set ((k + (n : Nat)) % 4).toNat ByteArray.empty).getD j ByteArray.empty = _
      rw [held_get _ (by rw [e]; simp only; omega) _ (by omega), if_neg (fun e => hn (hs n (by omega) e.symm)), ih]
theorem take_none' {B W n : Int} {t : Tr} (h : ((runT t (winT B W t).1 ((winT B W t).2 - (winT B W t).1).toNat).size : Int) ≤ t.hd.frm + t.taken - (winT B W t).1 * B) : takeT B W n t = (ByteArray.empty, t) := by
  unfold takeT; simp only; rw [if_pos h]
theorem take_some' {B W n : Int} {t : Tr} {r : ByteArray} {f K : Int} (hr : r = runT t (winT B W t).1 ((winT B W t).2 - (winT B W t).1).toNat) (hf : f = t.hd.frm + t.taken - (winT B W t).1 * B) (hK : K = takeN t r.size f n) (h : ¬ (r.size : Int) ≤ f) :
    takeT B W n t = (r.extract f.toNat (f + K).toNat, goT (winT B W { t with taken := t.taken + K }).1 (winT B W { t with taken := t.taken + K }).2 { t with taken := t.taken + K } (winT B W t).1 ((winT B W t).2 - (winT B W t).1).toNat) := by
  subst hK hf hr
  unfold takeT; simp only; rw [if_neg h]

/-! What is known of the bytes: of each block that is held or cached, of each byte that was taken. D: what a block may be; V: what a path's version may be. -/
structure Kn where
  D : Er → ByteArray → Prop
  V : Int → Int → Int → Prop
structure KnOk (K : Kn) (B : Int) : Prop where
  d : ∀ e b, K.D e b → (b.size : Int) = blkLen e.tot e.blk B ∧ 1 ≤ b.size ∧ 1 ≤ e.tag
  v : ∀ p tag tot, K.V p tag tot → 1 ≤ tag ∧ tag ≤ 99 ∧ 0 ≤ tot ∧ tot ≤ 1000
structure HI (K : Kn) (B W : Int) (t : Tr) : Prop where
  a : ∀ k : Int, (winT B W t).1 ≤ k → k < (winT B W t).2 → (heldAt t k).toList.isEmpty = false → K.D (ofT t k) (heldAt t k)
  c : ∀ j : Nat, j < 4 → (∀ k : Int, (winT B W t).1 ≤ k → k < (winT B W t).2 → (k % 4).toNat ≠ j) → t.held.getD j ByteArray.empty = ByteArray.empty
structure TI (K : Kn) (B W : Int) (t : Tr) (T : ByteArray) : Prop where
  ok : TrOk t
  op : openT t = true → t.hd = ⟨0, 0, 0, 0, 0⟩ ∧ t.held = noBytes
  bd : t.lost = false → t.bound = true → K.V t.path t.hd.tag t.hd.tot ∧ t.hd = headR t.kind t.fst t.lst t.hd.tag t.hd.tot
  ls : t.lost = true → t.held = noBytes ∧ (t.hd = ⟨502, 0, 0, 0, 0⟩ ∨ K.V t.path t.hd.tag t.hd.tot ∧ t.hd = headR t.kind t.fst t.lst t.hd.tag t.hd.tot)
  hi : HI K B W t
  tz : (T.size : Int) = t.taken
  tk : ∀ p : Nat, (p : Int) < t.taken → ∃ b, K.D (ofT t ((t.hd.frm + p) / B)) b ∧ b.data.toList[((t.hd.frm + p) % B).toNat]? = T.data.toList[p]?
structure SI (K : Kn) (s : Px) (Ts : List ByteArray) : Prop where
  n : Ts.length = s.trs.length
  ts : ∀ (i : Nat) t T, s.trs[i]? = some t → Ts[i]? = some T → TI K s.blk s.win t T
  lat : ∀ (p : Nat) v, s.lat[p]? = some v → v = (0, 0) ∨ K.V p v.1 v.2
  cac : ∀ x ∈ s.cac, K.D x.1 x.2 ∧ x.2.size ≤ 16
  fair : Fair s

theorem noB_get (j : Nat) : noBytes.getD j ByteArray.empty = ByteArray.empty := by rcases j with _ | _ | _ | _ | j <;> rfl
theorem noB_at {t : Tr} (h : t.held = noBytes) (k : Int) : heldAt t k = ByteArray.empty := by unfold heldAt; rw [h]; exact noB_get _
theorem HI.none {K : Kn} {B W : Int} {t : Tr} (h : t.held = noBytes) : HI K B W t :=
  ⟨fun k _ _ hne => by rw [noB_at h, empty_isEmpty] at hne; simp at hne, fun j _ _ => by rw [h]; exact noB_get j⟩
theorem win4 {B W : Int} (hW : W ≤ 4) (t : Tr) : (winT B W t).2 ≤ (winT B W t).1 + 4 := by
  unfold winT atM
  split
  · simp
  · split
    · simp
    · split
      · simp
      · simp only; split <;> omega
theorem winW {B W : Int} (hW : 1 ≤ W) (t : Tr) : (winT B W t).2 ≤ (winT B W t).1 + W := by
  unfold winT atM
  split
  · simp; omega
  · split
    · simp; omega
    · split
      · simp; omega
      · simp only; split <;> omega
theorem win_nn {B W : Int} {t : Tr} (hB : 1 ≤ B) (ok : TrOk t) : 0 ≤ (winT B W t).1 := by
  have h1 := ok.r0
  have h2 := ok.k0
  unfold winT
  split
  · simp
  · split
    · simp
    · split
      · simp
      · exact Int.ediv_nonneg (by omega) (by omega)
theorem lost_win {B W : Int} {t : Tr} (h : t.lost = true) : winT B W t = (0, 0) := by unfold winT; rw [h]; rfl
theorem TI.head {K : Kn} {B W : Int} {t : Tr} {T : ByteArray} (h : TI K B W t T) (hK : KnOk K B) (hl : t.lost = false) (hb : t.bound = true) : 1 ≤ t.hd.tag ∧ t.hd.tag ≤ 99 ∧ t.hd.frm + t.hd.len ≤ t.hd.tot := by
  obtain ⟨hv, hh⟩ := h.bd hl hb
  obtain ⟨v1, v2, v3, v4⟩ := hK.v _ _ _ hv
  refine ⟨v1, v2, ?_⟩
  have := headR_bd t.kind t.fst t.lst t.hd.tag t.hd.tot v3 v4 h.ok.f0 h.ok.l0
  rw [← hh] at this
  exact this.2.2
theorem wants_in {B W : Int} {t : Tr} {e : Er} (h : wantsT B W t e = true) : e = ofT t e.blk ∧ (winT B W t).1 ≤ e.blk ∧ e.blk < (winT B W t).2 ∧ t.lost = false := by
  have hb := h
  unfold wantsT at h
  simp only [Bool.and_eq_true, beq_iff_eq, decide_eq_true_eq] at h
  obtain ⟨⟨⟨⟨h1, h2, h3⟩, h4⟩, h5⟩, h6⟩ := h
  refine ⟨?_, h4, h5, ?_⟩
  · unfold ofT; rw [h1, h2, h3]
  · cases hl : t.lost
    · rfl
    · rw [lost_win hl] at h4 h5; simp at h4 h5; omega

theorem fail_TI {K : Kn} {B W tri : Int} {t : Tr} {T : ByteArray} (h : TI K B W t T) (hl : t.lost = false) (ht : tri ≤ 4) : TI K B W (pfailT tri t) T := by
  have ok := pfailT_ok h.ok hl ht
  unfold pfailT at *
  split
  · rename_i hx
    rw [if_pos hx] at ok
    refine ⟨ok, fun e => by simp [openT, loseT] at e, fun e => by simp [loseT] at e, fun _ => ⟨rfl, ?_⟩, HI.none rfl, h.tz, ?_⟩
    · show (if t.shown = true then t.hd else (⟨502, 0, 0, 0, 0⟩ : Hd)) = ⟨502, 0, 0, 0, 0⟩ ∨ _
      cases hs : t.shown
      · left; simp
      · right
        have hb : t.bound = true := by
          cases hb : t.bound
          · have := h.ok.op hb hl; rw [hs] at this; simp at this
          · rfl
        obtain ⟨hv, hh⟩ := h.bd hl hb
        simp only [loseT, hs, if_true]
        exact ⟨hv, hh⟩
    · cases hs : t.shown
      · intro p hp
        have h0 := h.ok.sh hs
        have hp' : (p : Int) < t.taken := hp
        omega
      · intro p hp
        have := h.tk p hp
        simpa [loseT, hs, ofT] using this
  · rename_i hx
    rw [if_neg hx] at ok
    exact ⟨ok, h.op, h.bd, h.ls, ⟨h.hi.a, h.hi.c⟩, h.tz, h.tk⟩
theorem bind_TI {K : Kn} {B W : Int} {t : Tr} {T : ByteArray} (h : TI K B W t T) (v : Int × Int) (hl : t.lost = false) (h0 : t.taken = 0) (hv : K.V t.path v.1 v.2) (hK : KnOk K B) : TI K B W (bindT t v) T := by
  obtain ⟨v1, v2, v3, v4⟩ := hK.v _ _ _ hv
  have hh := headR_tot t.kind t.fst t.lst v.1 v.2
  refine ⟨bindT_ok h.ok h0 v3 v4, fun e => by simp [openT, bindT] at e, fun _ _ => ?_, fun e => by have : t.lost = true := e; rw [hl] at this; simp at this, HI.none rfl, h.tz, fun p hp => by have hp' : (p : Int) < t.taken := hp; omega⟩
  show K.V t.path (headR t.kind t.fst t.lst v.1 v.2).tag (headR t.kind t.fst t.lst v.1 v.2).tot ∧ headR t.kind t.fst t.lst v.1 v.2 = headR t.kind t.fst t.lst (headR t.kind t.fst t.lst v.1 v.2).tag (headR t.kind t.fst t.lst v.1 v.2).tot
  rw [hh.1, hh.2]; exact ⟨hv, rfl⟩
theorem hold_TI {K : Kn} {B W : Int} {t : Tr} {T : ByteArray} (hB : 1 ≤ B) (hW : W ≤ 4) (h : TI K B W t T) (k : Int) (body : ByteArray) (f : Int) (hf0 : 0 ≤ f) (hf4 : f < 4) (h1 : (winT B W t).1 ≤ k) (h2 : k < (winT B W t).2) (hl : t.lost = false) (hD : K.D (ofT t k) body) (hK : KnOk K B) (hb : body.size ≤ 16) :
    TI K B W { holdT t k body with fails := f } T := by
  have h4 := win4 (B := B) hW t
  have hn := win_nn (W := W) hB h.ok
  have hbo := holdB_ok h.ok k body hb
  have hno : openT t = false := by
    cases ho : openT t
    · rfl
    · have := (hK.d _ _ hD).2.2
      have hh := (h.op ho).1
      unfold ofT at this; rw [hh] at this; simp at this
  refine ⟨⟨hbo.p0, hbo.p1, hbo.f0, hbo.f1, hbo.l0, hbo.l1, hbo.hl, hbo.hb, hbo.r0, hbo.n0, hbo.n1, hbo.k0, hbo.k1, hf0, by show f ≤ 4; omega, fun _ => hf4, hbo.sh, hbo.op, hbo.o0, hbo.o1⟩, fun e => by have : openT t = true := e; rw [hno] at this; simp at this, h.bd, fun e => by have : t.lost = true := e; rw [hl] at this; simp at this, ⟨fun j hj1 hj2 hne => ?_, fun j hj hn' => ?_⟩, h.tz, h.tk⟩
  · have hj1' : (winT B W t).1 ≤ j := hj1
    have hj2' : j < (winT B W t).2 := hj2
    have hg : heldAt { holdT t k body with fails := f } j = if (j % 4).toNat = (k % 4).toNat then body else heldAt t j := by
      unfold heldAt holdT; simp only; rw [held_get _ h.ok.hl _ (by omega)]
    rw [hg] at hne ⊢
    show K.D (ofT t j) _
    by_cases hjk : j = k
    · subst hjk; rw [if_pos rfl]; exact hD
    · have hm : ¬ ((j % 4).toNat = (k % 4).toNat) := by omega
      rw [if_neg hm] at hne ⊢
      exact h.hi.a j hj1' hj2' hne
  · have hn2 : ∀ k : Int, (winT B W t).1 ≤ k → k < (winT B W t).2 → (k % 4).toNat ≠ j := hn'
    show (t.held.set (k % 4).toNat body).getD j ByteArray.empty = ByteArray.empty
    rw [held_get _ h.ok.hl _ (by omega), if_neg (fun e => hn2 k h1 h2 e.symm)]
    exact h.hi.c j hj hn2
theorem show_TI {K : Kn} {B W : Int} {t : Tr} {T : ByteArray} (h : TI K B W t T) (ho : openT t = false) : TI K B W (pshowT t) T :=
  ⟨pshowT_ok h.ok ho, fun e => by have : openT t = true := e; rw [ho] at this; simp at this, h.bd, h.ls, ⟨h.hi.a, h.hi.c⟩, h.tz, h.tk⟩

/-! On all transfers. -/
theorem SI.mapT {K : Kn} {s : Px} {Ts : List ByteArray} (h : SI K s Ts) (f : Tr → Tr) (hf : ∀ (i : Nat) t T, s.trs[i]? = some t → Ts[i]? = some T → TI K s.blk s.win t T → TI K s.blk s.win (f t) T) : SI K { s with trs := s.trs.map f } Ts := by
  refine ⟨by simp [h.n], fun i t T ht hT => ?_, h.lat, h.cac, h.fair.withTrs _⟩
  simp only [List.getElem?_map, Option.map_eq_some_iff] at ht
  obtain ⟨t0, ht0, rfl⟩ := ht
  exact hf i t0 T ht0 hT (h.ts i t0 T ht0 hT)
theorem SI_failed {K : Kn} {s : Px} {Ts : List ByteArray} (h : SI K s Ts) (e : Er) : SI K (failedS s e) Ts :=
  h.mapT _ (fun i t T ht hT hI => by
    split
    · rename_i hw
      exact fail_TI hI (wants_in hw).2.2.2 h.fair.t2
    · exact hI)
theorem SI_renew {K : Kn} {s : Px} {Ts : List ByteArray} (h : SI K s Ts) (hK : KnOk K s.blk) (p : Nat) (v : Int × Int) (hv : K.V p v.1 v.2) : SI K (renewS s p v) Ts := by
  have key := h.mapT (fun t => if (t.path == (p : Int) && followsT t v) = true then bindT t v else t) (fun i t T ht hT hI => by
    split
    · rename_i hw
      simp at hw
      have hfo := follows_new hI.ok hw.2
      exact bind_TI hI v hfo.1 hfo.2.2 (by rw [hw.1]; exact hv) hK
    · exact hI)
  unfold renewS
  rw [Int.toNat_natCast]
  refine ⟨key.n, key.ts, fun q u hu => ?_, key.cac, ⟨h.fair.m1, h.fair.m2, h.fair.B1, h.fair.B2, h.fair.W1, h.fair.W2, h.fair.c1, h.fair.c2, h.fair.t1, h.fair.t2⟩⟩
  have hu2 : (s.lat.set p v)[q]? = some u := hu
  rw [List.getElem?_set] at hu2
  by_cases hpq : p = q
  · subst hpq
    rw [if_pos rfl] at hu2
    split at hu2
    · simp at hu2; subst hu2; exact Or.inr hv
    · simp at hu2
  · rw [if_neg hpq] at hu2; exact h.lat q u hu2
theorem SI_deliv {K : Kn} {s : Px} {Ts : List ByteArray} (h : SI K s Ts) (hK : KnOk K s.blk) (e : Er) (body : ByteArray) (hD : body.toList.isEmpty = false → K.D e body) (hb : body.size ≤ 16) : SI K (delivS s e body) Ts := by
  unfold delivS
  cases he : body.toList.isEmpty
  · simp only [Bool.false_eq_true, if_false]
    have hD := hD he
    have key := h.mapT (fun t => if wantsT s.blk s.win t e = true then { holdT t e.blk body with fails := 0 } else t) (fun i t T ht hT hI => by
      split
      · rename_i hw
        obtain ⟨h1, h2, h3, h4⟩ := wants_in hw
        exact hold_TI h.fair.B1 h.fair.W2 hI e.blk body 0 (by omega) (by omega) h2 h3 h4 (by rw [← h1]; exact hD) hK hb
      · exact hI)
    refine ⟨key.n, key.ts, key.lat, fun x hx => ?_, ⟨h.fair.m1, h.fair.m2, h.fair.B1, h.fair.B2, h.fair.W1, h.fair.W2, h.fair.c1, h.fair.c2, h.fair.t1, h.fair.t2⟩⟩
    have hx2 : x ∈ putC s.cap s.cac e body := hx
    unfold putC at hx2
    split at hx2
    · exact h.cac x hx2
    · rcases List.mem_append.1 ((evictC_ok h.fair.c1 _).2 x hx2) with h1 | h1
      · exact h.cac x ((List.eraseIdx_sublist ..).subset h1)
      · simp at h1; subst h1; exact ⟨hD, hb⟩
  · simp only [if_true]; exact h
theorem TI.fails4 {K : Kn} {B W : Int} {t : Tr} {T : ByteArray} (h : TI K B W t T) (hl : t.lost = false) : 0 ≤ t.fails ∧ t.fails < 4 := ⟨h.ok.a0, h.ok.a2 hl⟩
theorem findC_eq {l : List (Er × ByteArray)} {e : Er} {x : Er × ByteArray} (h : l[findC l e]? = some x) : x.1 = e := by
  unfold findC at h
  induction l with
  | nil => simp at h
  | cons a l ih =>
    rw [List.findIdx_cons] at h
    cases hb : (a.1 == e)
    · rw [hb] at h
      simp only [cond_false, List.getElem?_cons_succ] at h
      exact ih h
    · rw [hb] at h
      simp only [cond_true, List.getElem?_cons_zero, Option.some.injEq] at h
      rw [← h]; simpa using hb
/-- A transfer looks into the cache. -/
theorem look_TI {K : Kn} {B W : Int} {T : ByteArray} (hB : 1 ≤ B) (hW : W ≤ 4) (hK : KnOk K B) (es : List Er) : ∀ (c : List (Er × ByteArray)) (t : Tr), (∀ x ∈ c, K.D x.1 x.2 ∧ x.2.size ≤ 16) → TI K B W t T → (es ≠ [] → t.lost = false) → (∀ e ∈ es, e = ofT t e.blk ∧ (winT B W t).1 ≤ e.blk ∧ e.blk < (winT B W t).2) →
    (∀ x ∈ (es.foldl plookE (c, t)).1, K.D x.1 x.2 ∧ x.2.size ≤ 16) ∧ TI K B W (es.foldl plookE (c, t)).2 T := by
  induction es with
  | nil => intro c t hc ht _ _; exact ⟨hc, ht⟩
  | cons e es ih =>
    intro c t hc ht hl he
    have hll := hl (by simp)
    obtain ⟨e1, e2, e3⟩ := he e (List.mem_cons_self ..)
    rw [List.foldl_cons]
    have hum := useC_mem (l := c) (e := e)
    have hc' : ∀ x ∈ (useC c e).2, K.D x.1 x.2 ∧ x.2.size ≤ 16 := fun x hx => hc x (hum.2.1 x hx)
    unfold plookE
    simp only
    cases hem : (useC c e).1.toList.isEmpty
    · simp only [Bool.false_eq_true, if_false]
      have hDb : K.D (ofT t e.blk) (useC c e).1 ∧ (useC c e).1.size ≤ 16 := by
        cases hf : c[findC c e]? with
        | none =>
          have : (useC c e).1 = ByteArray.empty := by unfold useC; rw [hf]
          rw [this, empty_isEmpty] at hem; simp at hem
        | some x =>
          have hx1 : (useC c e).1 = x.2 := by rw [useC_some hf]
          have hxe : x.1 = e := findC_eq hf
          have := hc x (List.mem_of_getElem? hf)
          rw [hxe, e1] at this
          rw [hx1]; exact this
      have hfl := ht.fails4 hll
      have hT := hold_TI (f := t.fails) hB hW ht e.blk (useC c e).1 hfl.1 hfl.2 e2 e3 hll hDb.1 hK hDb.2
      exact ih _ (holdT t e.blk (useC c e).1) hc' hT (fun _ => hll) (fun e' he' => he e' (List.mem_cons_of_mem _ he'))
    · simp only [if_true]
      exact ih _ t hc' ht (fun _ => hll) (fun e' he' => he e' (List.mem_cons_of_mem _ he'))
theorem wanted_in {B W : Int} {t : Tr} : ∀ e ∈ wantedL B W t, e = ofT t e.blk ∧ (winT B W t).1 ≤ e.blk ∧ e.blk < (winT B W t).2 := by
  intro e he
  unfold wantedL at he
  simp only [List.mem_map, List.mem_filter, List.mem_range] at he
  obtain ⟨j, ⟨h1, -⟩, rfl⟩ := he
  refine ⟨rfl, ?_, ?_⟩
  · show (winT B W t).1 ≤ (winT B W t).1 + (j : Int); omega
  · show (winT B W t).1 + (j : Int) < (winT B W t).2; omega
theorem wanted_lost {B W : Int} {t : Tr} (h : t.lost = true) : wantedL B W t = [] := by unfold wantedL; rw [lost_win h]; rfl
theorem SI_lookTo {K : Kn} {s : Px} {Ts : List ByteArray} (h : SI K s Ts) (hK : KnOk K s.blk) (n : Nat) : SI K (plookTo s n) Ts := by
  induction n with
  | zero => exact h
  | succ n ih =>
    obtain ⟨-, eB, eW, -, -, -, -, -, eL⟩ := plookTo_same s n
    cases ht : (plookTo s n).trs[n]? with
    | none => rw [plookTo, ht]; exact ih
    | some t =>
      rw [plookTo_succ s n t ht]
      have hnl := (List.getElem?_eq_some_iff.1 ht).1
      obtain ⟨T, hT⟩ : ∃ T, Ts[n]? = some T := ⟨_, List.getElem?_eq_getElem (by rw [ih.n]; exact hnl)⟩
      have hI := ih.ts n t T ht hT
      rw [eB, eW] at hI
      have key := look_TI (T := T) h.fair.B1 h.fair.W2 hK (wantedL s.blk s.win t) (plookTo s n).cac t ih.cac hI (fun hne => by
        cases hl : t.lost
        · rfl
        · exact absurd (wanted_lost hl) hne) wanted_in
      refine ⟨by show Ts.length = ((plookTo s n).trs.set n _).length; rw [List.length_set]; exact ih.n, fun i u U hu hU => ?_, ih.lat, key.1, ⟨ih.fair.m1, ih.fair.m2, ih.fair.B1, ih.fair.B2, ih.fair.W1, ih.fair.W2, ih.fair.c1, ih.fair.c2, ih.fair.t1, ih.fair.t2⟩⟩
      show TI K (plookTo s n).blk (plookTo s n).win u U
      have hu2 : ((plookTo s n).trs.set n (plookT s.blk s.win (plookTo s n).cac t).2)[i]? = some u := hu
      rw [List.getElem?_set] at hu2
      by_cases hin : n = i
      · subst hin
        rw [if_pos rfl, if_pos hnl] at hu2
        simp at hu2; subst hu2
        rw [hT] at hU; simp at hU; subst hU
        rw [eB, eW]; exact key.2
      · rw [if_neg hin] at hu2
        exact ih.ts i u U hu2 hU
theorem SI_look {K : Kn} {s : Px} {Ts : List ByteArray} (h : SI K s Ts) (hK : KnOk K s.blk) : SI K (plookS s) Ts := SI_lookTo h hK _
theorem SI_setJ {K : Kn} {s : Px} {Ts : List ByteArray} (h : SI K s Ts) (b : List Bool) (e : List Er) : SI K { s with busy := b, ers := e } Ts :=
  ⟨h.n, h.ts, h.lat, h.cac, ⟨h.fair.m1, h.fair.m2, h.fair.B1, h.fair.B2, h.fair.W1, h.fair.W2, h.fair.c1, h.fair.c2, h.fair.t1, h.fair.t2⟩⟩
theorem failed_blk (s : Px) (e : Er) : (failedS s e).blk = s.blk := rfl
theorem SI_answ {K : Kn} {s : Px} {Ts : List ByteArray} (h : SI K s Ts) (hK : KnOk K s.blk) (e : Er) (p : Nat) (hp : e.path = p) (tag tot off : Int) (body : ByteArray)
    (hD : sensible s.blk e tag tot off body.size = true → K.V p tag tot ∧ (body.toList.isEmpty = false → K.D ⟨e.path, tag, tot, e.blk⟩ body)) : SI K (answS s e tag tot off body) Ts := by
  unfold answS
  cases hs : sensible s.blk e tag tot off body.size
  · simp only [Bool.false_eq_true, if_false]; exact SI_failed h e
  · simp only [if_true]
    obtain ⟨hv, hd⟩ := hD hs
    have hb16 : body.size ≤ 16 := by
      unfold sensible at hs
      simp at hs
      have := blkLen_le tot e.blk s.blk (by have := h.fair.B1; omega)
      have := h.fair.B2
      omega
    have hmid : SI K (if tag = e.tag ∧ tot = e.tot then s else failedS (renewS s e.path (tag, tot)) e) Ts ∧ KnOk K (if tag = e.tag ∧ tot = e.tot then s else failedS (renewS s e.path (tag, tot)) e).blk := by
      split
      · exact ⟨h, hK⟩
      · refine ⟨SI_failed ?_ e, hK⟩
        rw [hp]
        exact SI_renew h hK p (tag, tot) hv
    exact SI_deliv hmid.1 hmid.2 _ body hd hb16

theorem SI_ask {K : Kn} {s : Px} {Ts : List ByteArray} (h : SI K s Ts) (hK : KnOk K s.blk) (ok : POk s) (p : Nat) (hp : p < 4) (b : ByteArray) : SI K (plookS { s with trs := s.trs ++ [askT p (readP b) (s.lat.getD p (0, 0))] }) (Ts ++ [ByteArray.empty]) := by
  have hpl : p < s.lat.length := by rw [ok.nl]; exact hp
  obtain ⟨v, hv⟩ : ∃ v, s.lat[p]? = some v := ⟨_, List.getElem?_eq_getElem hpl⟩
  have e1 : s.lat.getD p (0, 0) = v := by rw [List.getD_eq_getElem?_getD, hv]; rfl
  rw [e1]
  have hraw : TrOk (rawT p (readP b)) := rawT_ok (by omega) (by omega) (readP_bd b)
  have hr : TI K s.blk s.win (rawT p (readP b)) ByteArray.empty :=
    ⟨hraw, fun _ => ⟨rfl, rfl⟩, fun _ e => by simp [rawT] at e, fun e => by simp [rawT] at e, HI.none rfl, rfl, fun q hq => by simp [rawT] at hq; omega⟩
  have hT : TI K s.blk s.win (askT p (readP b) v) ByteArray.empty := by
    rw [askT_eq]
    rcases h.lat p v hv with rfl | hV
    · rw [if_pos rfl]; exact hr
    · have := (hK.v _ _ _ hV).1
      rw [if_neg (by omega)]
      exact bind_TI hr v rfl rfl hV hK
  refine SI_look ?_ hK
  refine ⟨by simp [h.n], fun i t T ht hTT => ?_, h.lat, h.cac, h.fair.withTrs _⟩
  have ht2 : (s.trs ++ [askT p (readP b) v])[i]? = some t := ht
  by_cases hi : i < s.trs.length
  · rw [List.getElem?_append_left hi] at ht2
    rw [List.getElem?_append_left (by rw [h.n]; exact hi)] at hTT
    exact h.ts i t T ht2 hTT
  · rw [List.getElem?_append_right (by omega)] at ht2
    rw [List.getElem?_append_right (by rw [h.n]; omega), h.n] at hTT
    have h0 : i - s.trs.length = 0 := by
      rcases Nat.eq_zero_or_pos (i - s.trs.length) with h0 | h0
      · exact h0
      · rw [List.getElem?_eq_none (by simp; omega)] at ht2; simp at ht2
    rw [h0] at ht2 hTT
    simp at ht2 hTT; subst ht2 hTT; exact hT
theorem SI.setT {K : Kn} {s : Px} {Ts : List ByteArray} (h : SI K s Ts) (i : Nat) (t : Tr) (T : ByteArray) (hT : TI K s.blk s.win t T) : SI K { s with trs := s.trs.set i t } (Ts.set i T) := by
  refine ⟨by simp [h.n], fun k u U hu hU => ?_, h.lat, h.cac, h.fair.withTrs _⟩
  have hu2 : (s.trs.set i t)[k]? = some u := hu
  rw [List.getElem?_set] at hu2 hU
  by_cases hik : i = k
  · subst hik
    rw [if_pos rfl] at hu2 hU
    split at hu2
    · split at hU
      · simp at hu2 hU; subst hu2 hU; exact hT
      · simp at hU
    · simp at hu2
  · rw [if_neg hik] at hu2 hU
    exact h.ts k u U hu2 hU
theorem set_self {α : Type} (l : List α) (i : Nat) (x : α) (h : l[i]? = some x) : l.set i x = l := by
  apply List.ext_getElem?
  intro j
  rw [List.getElem?_set]
  split
  · rename_i e; subst e; rw [h]; simp [(List.getElem?_eq_some_iff.1 h).1]
  · rfl

/-- The run of blocks without a gap: each byte of it lies in its block. -/
theorem run_get {B tot : Int} {t : Tr} (hB : 1 ≤ B) (c : Nat) : ∀ (k : Int), (∀ i : Nat, i < c → (heldAt t (k + i)).toList.isEmpty = false → ((heldAt t (k + i)).size : Int) = blkLen tot (k + i) B) →
    ∀ q : Nat, q < (runT t k c).size → ∃ i : Nat, i < c ∧ (q : Int) / B = i ∧ (heldAt t (k + i)).toList.isEmpty = false ∧ (heldAt t (k + i)).data.toList[((q : Int) % B).toNat]? = (runT t k c).data.toList[q]? := by
  induction c with
  | zero => intro k _ q hq; simp [runT] at hq
  | succ c ih =>
    intro k hs q hq
    rw [show runT t k (c + 1) = if (heldAt t k).toList.isEmpty then ByteArray.empty else heldAt t k ++ runT t (k + 1) c from rfl] at hq ⊢
    cases he : (heldAt t k).toList.isEmpty
    · rw [he] at hq
      simp only [Bool.false_eq_true, if_false] at hq ⊢
      have h0 := hs 0 (by omega)
      simp only [Int.natCast_zero, Int.add_zero] at h0
      have h0 := h0 he
      by_cases hlt : q < (heldAt t k).size
      · refine ⟨0, by omega, ?_, by simpa using he, ?_⟩
        · have hle := (blkLen_le tot k B (by omega)).2
          rw [Int.ediv_eq_zero_of_lt (by omega) (by omega)]; rfl
        · have hle := (blkLen_le tot k B (by omega)).2
          rw [Int.emod_eq_of_lt (by omega) (by omega), ba_app, List.getElem?_append_left (by rw [ba_size]; exact hlt)]
          simp
      · rw [app_size] at hq
        have hq' : q - (heldAt t k).size < (runT t (k + 1) c).size := by omega
        obtain ⟨i, hi, hd, hne, hg⟩ := ih (k + 1) (fun i hi => by
          have := hs (i + 1) (by omega)
          rw [show k + 1 + (i : Int) = k + ((i + 1 : Nat) : Int) by push_cast; omega]; exact this) _ hq'
        have hki : k + 1 + (i : Int) = k + ((i + 1 : Nat) : Int) := by push_cast; omega
        rw [hki] at hne hg
        have hfull : ((heldAt t k).size : Int) = B := by
          have hs1 := hs (i + 1) (by omega) hne
          have hp := ba_pos _ hne
          have hs1 : 1 ≤ blkLen tot (k + ((i + 1 : Nat) : Int)) B := by rw [← hs1]; omega
          rw [h0]
          unfold blkLen atM at hs1 ⊢
          push_cast at hs1 ⊢
          have hmul : (k + ((i : Int) + 1)) * B = k * B + i * B + B := by rw [Int.add_mul, Int.add_mul]; omega
          rw [hmul] at hs1
          have hiB : 0 ≤ (i : Int) * B := Int.mul_nonneg (by omega) (by omega)
          split at hs1
          · omega
          · split at hs1
            · rw [if_neg (by omega), if_pos (by omega)]
            · rw [if_neg (by omega)]
              split
              · rfl
              · omega
        refine ⟨i + 1, by omega, ?_, hne, ?_⟩
        · have e : (q : Int) = ((q - (heldAt t k).size : Nat) : Int) + B := by omega
          rw [e, Int.add_ediv_of_dvd_right (Int.dvd_refl B), hd, Int.ediv_self (by omega)]; push_cast; rfl
        · have e : (q : Int) % B = ((q - (heldAt t k).size : Nat) : Int) % B := by
            have : (q : Int) = ((q - (heldAt t k).size : Nat) : Int) + B := by omega
            rw [this, Int.add_emod_right]
          rw [e, hg, ba_app, List.getElem?_append_right (by rw [ba_size]; omega), ba_size]
    · rw [he] at hq; simp at hq

theorem div_add_mul {a b k B : Int} (hB : 1 ≤ B) (h : a = k * B + b) : a / B = k + b / B ∧ a % B = b % B := by
  subst h
  constructor
  · rw [Int.add_comm, Int.add_mul_ediv_right _ _ (by omega)]; omega
  · rw [Int.add_comm, Int.add_mul_emod_self_right]
theorem go_TI {K : Kn} {B W : Int} {t t1 : Tr} {T : ByteArray} (hB : 1 ≤ B) (hW : W ≤ 4) (x : Int) (c : Nat) (hx : x = (winT B W t).1) (hc : c = ((winT B W t).2 - (winT B W t).1).toNat) (hI : HI K B W t) (ok : TrOk t) (hheld : t1.held = t.held) (hof : ∀ k, ofT t1 k = ofT t k) :
    HI K B W (goT (winT B W t1).1 (winT B W t1).2 t1 x c) := by
  obtain ⟨hd, hg, hl⟩ := goT_held (winT B W t1).1 (winT B W t1).2 t1 x c
  have hn := win_nn (W := W) hB ok
  have hwin : winT B W (goT (winT B W t1).1 (winT B W t1).2 t1 x c) = winT B W t1 := by rw [hg]; rfl
  have hoT : ∀ k, ofT (goT (winT B W t1).1 (winT B W t1).2 t1 x c) k = ofT t k := fun k => by rw [← hof k, hg]; rfl
  have h4 := win4 (B := B) hW t1
  have hl4 : t1.held.length = 4 := by rw [hheld]; exact ok.hl
  have hx0 : 0 ≤ x := by omega
  refine ⟨fun k h1 h2 hne => ?_, fun j hj hno => ?_⟩
  · rw [hwin] at h1 h2
    rw [hoT]
    unfold heldAt at hne ⊢
    by_cases hin : (winT B W t).1 ≤ k ∧ k < (winT B W t).2
    · have hk := goT_keep (winT B W t1).1 (winT B W t1).2 t1 hl4 x hx0 c (k % 4).toNat (fun i hi hij => by
        have h4' := win4 (B := B) hW t
        have : x + (i : Nat) = k := by omega
        rw [this]; exact ⟨h1, h2⟩)
      rw [hk, hheld] at hne ⊢
      exact hI.a k hin.1 hin.2 hne
    · exfalso
      have hz : (goT (winT B W t1).1 (winT B W t1).2 t1 x c).held.getD (k % 4).toNat ByteArray.empty = ByteArray.empty := by
        by_cases hex : ∃ i : Nat, i < c ∧ ((x + (i : Nat)) % 4).toNat = (k % 4).toNat
        · obtain ⟨i, hi, hij⟩ := hex
          by_cases hkeep : (winT B W t1).1 ≤ x + (i : Nat) ∧ x + (i : Nat) < (winT B W t1).2
          · exfalso; apply hin; omega
          · exact goT_clear _ _ _ hl4 _ hx0 _ _ i hi hij hkeep
        · refine goT_empty _ _ _ hl4 _ hx0 _ _ ?_
          rw [hheld]
          refine hI.c _ (by omega) (fun k' h1' h2' he => hex ⟨(k' - x).toNat, by omega, ?_⟩)
          rw [show x + ((k' - x).toNat : Int) = k' by omega]; exact he
      rw [hz, empty_isEmpty] at hne
      simp at hne
  · rw [hwin] at hno
    by_cases hex : ∃ i : Nat, i < c ∧ ((x + (i : Nat)) % 4).toNat = j
    · obtain ⟨i, hi, hij⟩ := hex
      refine goT_clear _ _ _ hl4 _ hx0 _ _ i hi hij (fun hk => hno _ hk.1 hk.2 hij)
    · refine goT_empty _ _ _ hl4 _ hx0 _ _ ?_
      rw [hheld]
      refine hI.c _ hj (fun k' h1' h2' he => hex ⟨(k' - x).toNat, by omega, ?_⟩)
      rw [show x + ((k' - x).toNat : Int) = k' by omega]; exact he

set_option maxHeartbeats 1000000 in
theorem take_TI {K : Kn} {B W n : Int} {t : Tr} {T : ByteArray} {s : Px} (hs : s.blk = B ∧ s.win = W) (hf : Fair s) (hK : KnOk K B) (h : TI K B W t T) (hsh : t.shown = true) (hn : 0 ≤ n) : TI K B W (takeT B W n t).2 (T ++ (takeT B W n t).1) := by
  obtain ⟨rfl, rfl⟩ := hs
  have hB := hf.B1
  have ok := h.ok
  by_cases hle : ((runT t (winT s.blk s.win t).1 ((winT s.blk s.win t).2 - (winT s.blk s.win t).1).toNat).size : Int) ≤ t.hd.frm + t.taken - (winT s.blk s.win t).1 * s.blk
  · rw [take_none' hle]
    simp only [app_nil]; exact h
  · obtain ⟨r, hr⟩ : ∃ r, r = runT t (winT s.blk s.win t).1 ((winT s.blk s.win t).2 - (winT s.blk s.win t).1).toNat := ⟨_, rfl⟩
    obtain ⟨f, hff⟩ : ∃ f, f = t.hd.frm + t.taken - (winT s.blk s.win t).1 * s.blk := ⟨_, rfl⟩
    obtain ⟨k, hk⟩ : ∃ k, k = takeN t r.size f n := ⟨_, rfl⟩
    rw [← hr, ← hff] at hle
    have hlow := win_low ok hf
    have hf0 : 0 ≤ f := by rw [hff]; omega
    have hb := takeN_bd ok r.size f n (by omega) hn
    rw [← hk] at hb
    rw [take_some' hr hff hk hle]
    simp only
    have hne : r.size ≠ 0 := by omega
    have hlost : t.lost = false := by
      cases hl : t.lost
      · rfl
      · rw [lost_win hl] at hr; rw [hr] at hne; exact absurd rfl hne
    have hsz : ∀ i : Nat, i < ((winT s.blk s.win t).2 - (winT s.blk s.win t).1).toNat → (heldAt t ((winT s.blk s.win t).1 + i)).toList.isEmpty = false → ((heldAt t ((winT s.blk s.win t).1 + i)).size : Int) = blkLen t.hd.tot ((winT s.blk s.win t).1 + i) s.blk := fun i hi he =>
      (hK.d _ _ (h.hi.a _ (by omega) (by omega) he)).1
    have hrg := run_get (tot := t.hd.tot) hB _ _ hsz
    rw [← hr] at hrg
    have okT := taken_ok ok hsh k hb.1 hb.2.2.1
    have okG := goT_ok okT (winT s.blk s.win { t with taken := t.taken + k }).1 (winT s.blk s.win { t with taken := t.taken + k }).2 (winT s.blk s.win t).1 ((winT s.blk s.win t).2 - (winT s.blk s.win t).1).toNat
    have hHI := go_TI (t := t) (t1 := { t with taken := t.taken + k }) (T := T) hB hf.W2 (winT s.blk s.win t).1 _ rfl rfl h.hi ok rfl (fun _ => rfl)
    obtain ⟨hd, hg, hl⟩ := goT_held (winT s.blk s.win { t with taken := t.taken + k }).1 (winT s.blk s.win { t with taken := t.taken + k }).2 { t with taken := t.taken + k } (winT s.blk s.win t).1 ((winT s.blk s.win t).2 - (winT s.blk s.win t).1).toNat
    rw [hg] at okG hHI ⊢
    have hxs : (r.extract f.toNat (f + k).toNat).size = k.toNat := by rw [extract_size _ _ _ (by omega)]; omega
    have hnop : openT t = false := by
      cases ho : openT t
      · rfl
      · have := (h.op ho).2
        have hz : r.size = 0 := by
          rw [hr]
          cases hcc : ((winT s.blk s.win t).2 - (winT s.blk s.win t).1).toNat with
          | zero => rfl
          | succ c =>
            rw [show runT t (winT s.blk s.win t).1 (c + 1) = if (heldAt t (winT s.blk s.win t).1).toList.isEmpty then ByteArray.empty else heldAt t (winT s.blk s.win t).1 ++ runT t ((winT s.blk s.win t).1 + 1) c from rfl, noB_at this, empty_isEmpty]; rfl
        exact absurd hz hne
    refine ⟨okG, fun e => by have : openT t = true := e; rw [hnop] at this; simp at this, h.bd, fun e => by have : t.lost = true := e; rw [hlost] at this; simp at this, hHI, ?_, ?_⟩
    · show ((T ++ r.extract f.toNat (f + k).toNat).size : Int) = t.taken + k
      rw [app_size, hxs]; push_cast; rw [h.tz]; omega
    · intro p hp
      have hp' : (p : Int) < t.taken + k := hp
      show ∃ b, K.D (ofT t ((t.hd.frm + p) / s.blk)) b ∧ b.data.toList[((t.hd.frm + p) % s.blk).toNat]? = (T ++ r.extract f.toNat (f + k).toNat).data.toList[p]?
      by_cases hpt : (p : Int) < t.taken
      · obtain ⟨b, hb1, hb2⟩ := h.tk p hpt
        have hTz := h.tz
        refine ⟨b, hb1, ?_⟩
        rw [hb2, ba_app, List.getElem?_append_left (by rw [ba_size]; omega)]
      · have hTz := h.tz
        obtain ⟨i, hi, hd1, hne1, hg1⟩ := hrg (f.toNat + (p - T.size)) (by omega)
        have hq : ((f.toNat + (p - T.size) : Nat) : Int) = f + (p - t.taken) := by omega
        rw [hq] at hd1 hg1
        obtain ⟨ed, em⟩ := div_add_mul (a := t.hd.frm + p) (b := f + (p - t.taken)) (k := (winT s.blk s.win t).1) hB (by rw [hff]; omega)
        refine ⟨heldAt t ((winT s.blk s.win t).1 + i), ?_, ?_⟩
        · rw [ed, hd1]; exact h.hi.a _ (by omega) (by omega) hne1
        · rw [em, hg1, ba_app, List.getElem?_append_right (by rw [ba_size]; omega), ext_list _ _ _ (by omega), ba_size, List.getElem?_drop, List.getElem?_take]
          rw [if_pos (by omega)]
theorem SI_show {K : Kn} {s : Px} {Ts : List ByteArray} (h : SI K s Ts) (i : Nat) (t : Tr) (ht : s.trs[i]? = some t) (ho : openT t = false) : SI K (setT s i (pshowT t)) Ts := by
  obtain ⟨T, hT⟩ : ∃ T, Ts[i]? = some T := ⟨_, List.getElem?_eq_getElem (by rw [h.n]; exact (List.getElem?_eq_some_iff.1 ht).1)⟩
  have := h.setT i (pshowT t) T (show_TI (h.ts i t T ht hT) ho)
  rw [set_self Ts i T hT] at this
  exact this
theorem SI_take {K : Kn} {s : Px} {Ts : List ByteArray} (h : SI K s Ts) (hK : KnOk K s.blk) (i : Nat) (t : Tr) (T : ByteArray) (n : Int) (ht : s.trs[i]? = some t) (hT : Ts[i]? = some T) (ho : openT t = false) (hn : 0 ≤ n) :
    SI K (plookS (setT s i (takeT s.blk s.win n (pshowT t)).2)) (Ts.set i (T ++ (takeT s.blk s.win n (pshowT t)).1)) :=
  SI_look (h.setT i _ _ (take_TI ⟨rfl, rfl⟩ h.fair hK (show_TI (h.ts i t T ht hT) ho) rfl hn)) hK
theorem SI_new (K : Kn) {m b wi c t : Int} (f : Fair (newS m b wi c t)) : SI K (newS m b wi c t) [] :=
  ⟨rfl, fun i t' T ht => by simp [newS] at ht, fun p v hv => by
    left
    have hv2 : ([(0, 0), (0, 0), (0, 0), (0, 0)] : List (Int × Int))[p]? = some v := hv
    rcases p with _ | _ | _ | _ | p <;> simp at hv2 <;> exact hv2.symm, fun x hx => by simp [newS] at hx, f⟩
theorem SI.mono {K K' : Kn} {s : Px} {Ts : List ByteArray} (h : SI K s Ts) (hD : ∀ e b, K.D e b → K'.D e b) (hV : ∀ p tag tot, K.V p tag tot → K'.V p tag tot) : SI K' s Ts := by
  refine ⟨h.n, fun i t T ht hT => ?_, fun p v hv => ?_, fun x hx => ⟨hD _ _ (h.cac x hx).1, (h.cac x hx).2⟩, h.fair⟩
  · have hI := h.ts i t T ht hT
    refine ⟨hI.ok, hI.op, fun a b => ⟨hV _ _ _ (hI.bd a b).1, (hI.bd a b).2⟩, fun a => ⟨(hI.ls a).1, ?_⟩, ⟨fun k h1 h2 h3 => hD _ _ (hI.hi.a k h1 h2 h3), hI.hi.c⟩, hI.tz, fun p hp => ?_⟩
    · rcases (hI.ls a).2 with h1 | h1
      · exact Or.inl h1
      · exact Or.inr ⟨hV _ _ _ h1.1, h1.2⟩
    · obtain ⟨b, h1, h2⟩ := hI.tk p hp
      exact ⟨b, hD _ _ h1, h2⟩
  · rcases h.lat p v hv with h1 | h1
    · exact Or.inl h1
    · exact Or.inr (hV _ _ _ h1)
end Go.Proofs.Ytjhihliciadipaa
