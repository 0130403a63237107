import Derived.Test.YtjhihliciadipabGreatReplyW
import Derived.Test.YtjhihliciadipabGreatStepD
import Derived.Test.YtjhihliciadipabGreatTake
import Derived.Test.YtjhihliciadipabGreatHeadP
import Derived.Test.YtjhihliciadipabGreatAsk
import Derived.Test.YtjhihliciadipabGreatNewR
import Derived.Test.YtjhihliciadipabGreatNextM
import Derived.Test.YtjhihliciadipabGreatEntr
import Derived.Test.YtjhihliciadipabGreatTell
import Derived.Test.YtjhihliciadipabGreatOver
set_option linter.unusedVariables false
set_option linter.unusedSimpArgs false
set_option linter.unnecessarySimpa false
namespace Go.Proofs.YtjhihliciadipabGreat

theorem hasOk_give {B : Int} {m : Mv} (h : HasOk B m) (k : Nat) (body : ByteArray) (hb : (body.size : Int) = sizeL B m.tot k) : ∀ (i : Nat) (x : ByteArray), (giveL m.has k body)[i]? = some x → x.size = 0 ∨ (x.size : Int) = sizeL B m.tot i := by
  intro i x hx
  unfold giveL at hx
  rw [List.getElem?_set] at hx
  split at hx
  · rename_i e
    split at hx
    · simp at hx; subst hx; subst e; exact Or.inr hb
    · simp at hx
  · unfold padL at hx
    rw [List.getElem?_append] at hx
    split at hx
    · exact h i x hx
    · have := List.mem_of_getElem? hx
      rw [List.mem_replicate] at this
      rw [this.2]; exact Or.inl rfl
theorem hasOk_nil (B : Int) (m : Mv) (h : m.has = []) : HasOk B m := by
  intro k x hx; rw [h] at hx; simp at hx
theorem hasOk_drop {B : Int} {m : Mv} (h : HasOk B m) (wl : List Int) (n : Nat) : ∀ (i : Nat) (x : ByteArray), (dropTo wl m.has n)[i]? = some x → x.size = 0 ∨ (x.size : Int) = sizeL B m.tot i := by
  intro i x hx
  unfold dropTo at hx
  rw [List.getElem?_mapIdx] at hx
  cases hh : m.has[i]? with
  | none => rw [hh] at hx; simp at hx
  | some y =>
    rw [hh] at hx
    simp only [Option.map_some, Option.some.injEq] at hx
    split at hx
    · rw [← hx]; exact Or.inl rfl
    · rw [← hx]; exact h i y hh

theorem lookC_good (i : Nat) (k : Int) (s : Pr) (c : Nat) (C : Int) (h : Good s C) : Good (lookC i k s c) (C + 1) := by
  have hi := lookC_inv i k s c C h.inv
  unfold lookC at hi ⊢
  split
  · rename_i t x ht hx
    split
    · rename_i hit
      rw [ht, hx] at hi
      simp only [hit, if_true] at hi
      have hto := h.ts t (List.mem_of_getElem? ht)
      have hxo := h.inv.cache x (List.mem_of_getElem? hx)
      have hxs := h.cache x (List.mem_of_getElem? hx)
      have hxt : x.tot = t.tot := by unfold lookHit at hit; simp at hit; exact hit.1.2.2
      refine ⟨hi, fun m hm => ?_, h.nj, h.nl, h.lat, h.jobs, fun y hy => ?_⟩
      · rcases List.mem_or_eq_of_mem_set hm with hm | rfl
        · exact h.ts m hm
        · refine ⟨?_, hto.f0, hto.f1, hto.f2, hto.p0, hto.p1, ?_, hto.tk, hto.sh, hto.op⟩
          · exact hi.ts _ (by rw [List.mem_iff_getElem?]; exact ⟨i, by rw [List.getElem?_set]; simp [(List.getElem?_eq_some_iff.1 ht).1]⟩)
          · have h3 := hasOk_give hto.has x.k.toNat x.body (by rw [hxs, hxt]; congr 1; have := hxo.k0; omega)
            exact h3
      · rcases List.mem_or_eq_of_mem_set hy with hy | rfl
        · exact h.cache y hy
        · exact hxs
    · exact ⟨h.inv.mono (by omega), h.ts, h.nj, h.nl, h.lat, h.jobs, h.cache⟩
  · exact ⟨h.inv.mono (by omega), h.ts, h.nj, h.nl, h.lat, h.jobs, h.cache⟩

theorem fold_good {α : Type} (f : Pr → α → Pr) (D : Int) (hf : ∀ s a C, Good s C → Good (f s a) (C + D)) (l : List α) (s : Pr) (C : Int) (h : Good s C) : Good (l.foldl f s) (C + D * l.length) := by
  induction l generalizing s C with
  | nil => simpa using h
  | cons a l ih =>
    have := ih (f s a) (C + D) (hf s a C h)
    rw [List.foldl_cons]
    refine this.mono ?_
    rw [List.length_cons, Int.natCast_add, Int.mul_add]; simp; omega
theorem lookK_good (i : Nat) (s : Pr) (k : Int) (C : Int) (h : Good s C) : Good (lookK i s k) (C + 256) := by
  have := fold_good (lookC i k) 1 (fun s c C h => lookC_good i k s c C h) (List.range s.cache.length) s C h
  refine this.mono ?_
  have := h.inv.nc; simp; omega
theorem lookT_good (s : Pr) (i : Nat) (C : Int) (h : Good s C) : Good (lookT s i) (C + 1024) := by
  unfold lookT; split
  · rename_i t ht
    have := fold_good (lookK i) 256 (fun s k C h => lookK_good i s k C h) (wantsL s.blk s.win t) s C h
    refine this.mono ?_
    have := wants_len s.blk s.win t h.inv.fair.W2; omega
  · exact h.mono (by omega)
theorem lookL_good (s : Pr) (C : Int) (h : Good s C) : Good (lookL s) (C + 8192) := by
  have := fold_good lookT 1024 lookT_good (List.range s.ts.length) s C h
  refine this.mono ?_
  have := h.inv.nts; simp; omega

/-- A lost transfer wants nothing. -/
theorem lost_wants (B W : Int) (m : Mv) (j : Jb) (h : wantingL B W m j = true) : m.lost = false := by
  cases hl : m.lost
  · rfl
  · exfalso
    unfold wantingL wantsL winL at h
    rw [hl] at h
    simp at h
theorem failT_good (B W tri : Int) (j : Jb) (m : Mv) (ht : 1 ≤ tri) (ht2 : tri ≤ 4) (h : MvGood B tri m) : MvGood B tri (failT B W tri j m) := by
  have hok := failT_ok B W tri j m h.ok
  unfold failT at hok ⊢
  split
  · rename_i hw
    have hl := lost_wants B W m j hw
    have hf := h.f2 hl
    have hf0 := h.f0
    rw [if_pos hw] at hok
    split
    · rename_i e
      rw [if_pos e] at hok
      exact ⟨hok, by show 0 ≤ m.fails + 1; omega, by show m.fails + 1 ≤ 4; omega, fun e2 => by simp at e2, h.p0, h.p1, hasOk_nil _ _ rfl, h.tk, h.sh, fun _ e2 => by simp at e2⟩
    · rename_i e
      rw [if_neg e] at hok
      exact ⟨hok, by show 0 ≤ m.fails + 1; omega, by show m.fails + 1 ≤ 4; omega, fun _ => by show m.fails + 1 < tri; omega, h.p0, h.p1, h.has, h.tk, h.sh, h.op⟩
  · exact h
theorem failsL_good (s : Pr) (j : Jb) (C : Int) (h : Good s C) : Good (failsL s j) C :=
  ⟨failsL_inv s j C h.inv, fun m hm => by
    unfold failsL at hm ⊢
    rw [List.mem_map] at hm
    obtain ⟨x, hx, rfl⟩ := hm
    exact failT_good _ _ _ _ _ h.inv.fair.t1 h.inv.fair.t2 (h.ts x hx), h.nj, h.nl, h.lat, h.jobs, h.cache⟩

theorem len_nonneg (m : Mv) : 0 ≤ lenL m := (cnt_bd m.sp m.tot m.tot.toNat).1
theorem newsT_good (B tri path tag tot : Int) (m : Mv) (hg : 1 ≤ tag) (h0 : 0 ≤ tot) (h1 : tot ≤ 1000) (ht : 1 ≤ tri) (h : MvGood B tri m) : MvGood B tri (newsT path tag tot m) := by
  have hok := newsT_ok path tag tot m h0 h1 h.ok
  unfold newsT at hok ⊢
  split
  · rename_i hit
    rw [if_pos hit] at hok
    have htk : m.taken = 0 := by
      unfold newsHit at hit
      simp at hit
      rcases hit.2 with e | e
      · exact h.sh (h.op e hit.1.1.2)
      · exact h.sh e
    refine ⟨hok, by simp, by simp, fun _ => by show 0 < tri; omega, h.p0, h.p1, hasOk_nil _ _ rfl, ?_, h.sh, fun e => by simp at e; omega⟩
    show m.taken ≤ _
    rw [htk]; exact len_nonneg _
  · exact h
theorem newsL_good (s : Pr) (pth : Nat) (tag tot : Int) (C : Int) (hg : 1 ≤ tag) (h0 : 0 ≤ tot) (h1 : tot ≤ 1000) (h : Good s C) : Good (newsL s pth tag tot) C :=
  ⟨newsL_inv s pth tag tot C h0 h1 h.inv, fun m hm => by
    unfold newsL at hm ⊢
    rw [List.mem_map] at hm
    obtain ⟨x, hx, rfl⟩ := hm
    exact newsT_good _ _ _ _ _ _ hg h0 h1 h.inv.fair.t1 (h.ts x hx), h.nj, by show (s.latest.set pth (tag, tot)).length = 4; rw [List.length_set]; exact h.nl, fun v hv => by
    rcases List.mem_or_eq_of_mem_set hv with hv | rfl
    · exact h.lat v hv
    · exact ⟨h0, h1⟩, h.jobs, h.cache⟩
theorem delT_good (B W tri : Int) (j : Jb) (body : ByteArray) (m : Mv) (ht : 1 ≤ tri) (hk0 : 0 ≤ j.k) (hk : j.k ≤ 100000) (hb : body.size ≤ 16) (hs : (body.size : Int) = sizeL B j.tot j.k) (h : MvGood B tri m) : MvGood B tri (delT B W j body m) := by
  have hok := delT_ok B W j body m hk hb h.ok
  unfold delT at hok ⊢
  split
  · rename_i hw
    rw [if_pos hw] at hok
    have htt : m.tot = j.tot := by unfold wantingL at hw; simp at hw; exact hw.1.2
    refine ⟨hok, by simp, by simp, fun _ => by show 0 < tri; omega, h.p0, h.p1, ?_, h.tk, h.sh, h.op⟩
    exact hasOk_give h.has j.k.toNat body (by rw [htt, hs]; congr 1; omega)
  · exact h
theorem delTs_good (s : Pr) (j : Jb) (body : ByteArray) (C : Int) (hk0 : 0 ≤ j.k) (hk : j.k ≤ 100000) (hb : body.size ≤ 16) (hs : (body.size : Int) = sizeL s.blk j.tot j.k) (h : Good s C) : Good (delTs s j body) C :=
  ⟨delTs_inv s j body C hk hb h.inv, fun m hm => by
    unfold delTs at hm ⊢
    rw [List.mem_map] at hm
    obtain ⟨x, hx, rfl⟩ := hm
    exact delT_good _ _ _ _ _ _ h.inv.fair.t1 hk0 hk hb hs (h.ts x hx), h.nj, h.nl, h.lat, h.jobs, h.cache⟩
theorem keepL_good (s : Pr) (j : Jb) (body : ByteArray) (C : Int) (hk0 : 0 ≤ j.k) (hk : j.k ≤ 100000) (hb0 : 1 ≤ body.size) (hb : body.size ≤ 16) (hs : (body.size : Int) = sizeL s.blk j.tot j.k) (h : Good s C) : Good (keepL s j body) (C + 1) := by
  have hi := keepL_inv s j body C h.inv hk0 hk hb0 hb
  unfold keepL at hi ⊢
  split
  · exact h.mono (by omega)
  · rename_i hn
    rw [if_neg hn] at hi
    refine ⟨hi, h.ts, h.nj, h.nl, h.lat, h.jobs, fun x hx => ?_⟩
    have h1 := (evict_sub s.cap (keepAll s j body).length (keepAll s j body)).1 x hx
    unfold keepAll at h1
    rcases List.mem_append.1 h1 with h2 | h2
    · exact h.cache x ((rmTo_sub j s.cache 0).2 x h2)
    · simp at h2; subst h2; exact hs
theorem deliverL_good (s : Pr) (j : Jb) (body : ByteArray) (C : Int) (hk0 : 0 ≤ j.k) (hk : j.k ≤ 100000) (hb : body.size ≤ 16) (hs : (body.size : Int) = sizeL s.blk j.tot j.k) (h : Good s C) : Good (deliverL s j body) (C + 1) := by
  unfold deliverL
  split
  · exact h.mono (by omega)
  · rename_i hem
    have hb0 : 1 ≤ body.size := by
      rcases Nat.eq_zero_or_pos body.size with h0 | h0
      · have : body = ByteArray.empty := by
          cases body with | mk d => cases d with | mk l => cases l with
            | nil => rfl
            | cons a l => simp [ByteArray.size] at h0
        rw [this, ByteArray.toList_eq] at hem; exact absurd rfl hem
      · exact h0
    exact keepL_good (delTs s j body) j body C hk0 hk hb0 hb hs (delTs_good s j body C hk0 hk hb hs h)
theorem jobs_good (s : Pr) (i : Nat) (j : Jb) (C : Int) (hj : 0 ≤ j.path ∧ j.path < 4 ∧ 0 ≤ j.k ∧ j.k ≤ 100000) (h : Good s C) : Good { s with jobs := s.jobs.set i j } C :=
  ⟨jobs_inv s _ C h.inv, h.ts, by show (s.jobs.set i j).length = _; rw [List.length_set]; exact h.nj, h.nl, h.lat, fun x hx => by
    rcases List.mem_or_eq_of_mem_set hx with hx | rfl
    · exact h.jobs x hx
    · exact hj, h.cache⟩
theorem replyS_good (s : Pr) (j : Jb) (pth : Nat) (tag tot off : Int) (body : ByteArray) (C : Int) (hk0 : 0 ≤ j.k) (hk : j.k ≤ 100000) (h : Good s C) : Good (replyS s j pth tag tot off body) (C + 8193) := by
  unfold replyS
  split
  · exact (lookL_good _ _ (failsL_good s j C h)).mono (by omega)
  · rename_i hb
    have hb2 : badR s.blk j tag tot off body = false := by simpa using hb
    unfold badR at hb2
    simp only [Bool.or_eq_false_iff, decide_eq_false_iff_not, bne_eq_false_iff_eq] at hb2
    obtain ⟨⟨⟨⟨⟨g1, g2⟩, g3⟩, g4⟩, g5⟩, g6⟩ := hb2
    have hsz := sizeL_le s.blk tot j.k h.inv.fair.B1 h.inv.fair.B2
    have hm : Good (replyMid s j pth tag tot) C ∧ (replyMid s j pth tag tot).blk = s.blk := by
      unfold replyMid
      split
      · exact ⟨h, rfl⟩
      · split
        · exact ⟨newsL_good s pth tag tot C (by omega) (by omega) (by omega) h, rfl⟩
        · exact ⟨failsL_good _ _ _ (newsL_good s pth tag tot C (by omega) (by omega) (by omega) h), rfl⟩
    have hd := deliverL_good (replyMid s j pth tag tot) { j with tag := tag, tot := tot } body C hk0 hk (by omega) (by rw [hm.2]; exact g6) hm.1
    exact (lookL_good _ _ hd).mono (by omega)
end Go.Proofs.YtjhihliciadipabGreat

namespace Go.Proofs.YtjhihliciadipabGreat

theorem newMv_good (s : Pr) (C : Int) (path : Nat) (r : ByteArray) (hp : path < 4) (h : Good s C) : MvGood s.blk s.tri (newMv s path r) := by
  have hx : s.latest[path]? = some (s.latest[path]'(by rw [h.nl]; exact hp)) := by simp
  have hv := h.lat _ (List.getElem_mem (show path < s.latest.length by rw [h.nl]; exact hp))
  have e : ((s.latest[path]?).getD (0, 0)).2 = (s.latest[path]'(by rw [h.nl]; exact hp)).2 := by rw [hx]; rfl
  have ht := h.inv.fair.t1
  refine ⟨⟨readL_ok r, ?_, ?_, by simp [newMv], by simp [newMv], by simp [newMv], by simp [newMv]⟩, by simp [newMv], by simp [newMv], fun _ => by simp [newMv]; omega, by simp [newMv], by simp [newMv]; omega, hasOk_nil _ _ rfl, ?_, fun _ => rfl, fun _ _ => rfl⟩
  · show 0 ≤ ((s.latest[path]?).getD (0, 0)).2; rw [e]; exact hv.1
  · show ((s.latest[path]?).getD (0, 0)).2 ≤ 1000; rw [e]; exact hv.2
  · show (0 : Int) ≤ lenL _; exact len_nonneg _
theorem ask_good (s : Pr) (C : Int) (path : Nat) (r : ByteArray) (hp : path < 4) (hn : s.ts.length < 8) (h : Good s C) : Good (lookL { s with ts := s.ts ++ [newMv s path r] }) (C + 8192) := by
  refine lookL_good _ _ ⟨⟨⟨h.inv.fair.m1, h.inv.fair.m2, h.inv.fair.B1, h.inv.fair.B2, h.inv.fair.W1, h.inv.fair.W2, h.inv.fair.c1, h.inv.fair.c2, h.inv.fair.t1, h.inv.fair.t2⟩, by simp; omega, fun m hm => ?_, h.inv.cache, h.inv.nc, h.inv.c0, h.inv.c1⟩, fun m hm => ?_, h.nj, h.nl, h.lat, h.jobs, h.cache⟩
  · rcases List.mem_append.1 hm with h1 | h1
    · exact h.inv.ts m h1
    · simp at h1; subst h1; exact (newMv_good s C path r hp h).ok
  · rcases List.mem_append.1 hm with h1 | h1
    · exact h.ts m h1
    · simp at h1; subst h1; exact newMv_good s C path r hp h
theorem setT_good (s : Pr) (C : Int) (i : Nat) (m : Mv) (hm : MvGood s.blk s.tri m) (h : Good s C) : Good { s with ts := s.ts.set i m } C :=
  ⟨set_inv s i m C h.inv hm.ok, fun x hx => by
    rcases List.mem_or_eq_of_mem_set hx with hx | rfl
    · exact h.ts x hx
    · exact hm, h.nj, h.nl, h.lat, h.jobs, h.cache⟩
theorem show_good (B tri : Int) (t : Mv) (hop : ¬ (t.tag = 0 ∧ t.lost = false)) (h : MvGood B tri t) : MvGood B tri (showT t) :=
  ⟨⟨h.ok.sp, h.ok.t0, h.ok.t1, h.ok.k0, h.ok.k1, h.ok.hl, h.ok.hb⟩, h.f0, h.f1, h.f2, h.p0, h.p1, h.has, h.tk, fun e => by simp [showT] at e, fun e1 e2 => absurd ⟨e1, e2⟩ hop⟩
theorem take_good (s : Pr) (C : Int) (i : Nat) (t : Mv) (n : Int) (ht : s.ts[i]? = some t) (hop : ¬ (t.tag = 0 ∧ t.lost = false)) (h0 : 0 ≤ (takeEnd s t n).1) (h1 : (takeEnd s t n).1 ≤ lenL t) (h : Good s C) : Good (takeS s i t n) (C + 8192) := by
  have hg := h.ts t (List.mem_of_getElem? ht)
  have hl : lenL t ≤ 1000 := by
    have := cnt_bd t.sp t.tot t.tot.toNat
    have := hg.ok.t0; have := hg.ok.t1
    unfold lenL; omega
  unfold takeS
  refine lookL_good _ _ (setT_good s C i _ ⟨⟨hg.ok.sp, hg.ok.t0, hg.ok.t1, h0, by show (takeEnd s t n).1 ≤ 1000; omega, ?_, ?_⟩, hg.f0, hg.f1, hg.f2, hg.p0, hg.p1, ?_, h1, fun e => by simp [takenT] at e, fun e1 e2 => absurd ⟨e1, e2⟩ hop⟩ h)
  · show (dropL s.blk s.win _).length ≤ _; unfold dropL; rw [dropTo_len]; exact hg.ok.hl
  · intro b hb
    rcases dropTo_mem _ _ _ b hb with h2 | h2
    · exact hg.ok.hb b h2
    · rw [h2]; decide
  · exact hasOk_drop (m := takenT s t n) hg.has _ _
theorem nextK_some (js : List Jb) (m : Mv) (l : List Int) (j : Jb) (h : nextK js m l = some j) : j.path = m.path ∧ j.k ∈ l := by
  induction l with
  | nil => simp [nextK] at h
  | cons k ks ih =>
    simp only [nextK] at h
    split at h
    · have := ih h; exact ⟨this.1, List.mem_cons_of_mem _ this.2⟩
    · simp at h; subst h; exact ⟨rfl, List.mem_cons_self ..⟩
theorem nextT_some (B W : Int) (js : List Jb) (ts : List Mv) (j : Jb) (h : nextT B W js ts = some j) : ∃ m ∈ ts, j.path = m.path ∧ j.k ∈ wantsL B W m := by
  induction ts with
  | nil => simp [nextT] at h
  | cons m ms ih =>
    simp only [nextT] at h
    split at h
    · rename_i j2 hj2
      simp at h; subst h
      exact ⟨m, List.mem_cons_self .., nextK_some js m _ _ hj2⟩
    · obtain ⟨m2, h1, h2⟩ := ih h
      exact ⟨m2, List.mem_cons_of_mem _ h1, h2⟩
theorem next_good (s : Pr) (C : Int) (mr : Nat) (j : Jb) (hj : nextJ s = some j) (h : Good s C) : Good { s with jobs := s.jobs.set mr j } C := by
  obtain ⟨m, hm, h1, h2⟩ := nextT_some _ _ _ _ _ hj
  have hg := h.ts m hm
  have hb := wants_bd m h.inv.fair hg.ok j.k h2
  exact jobs_good s mr j C ⟨by rw [h1]; exact hg.p0, by rw [h1]; exact hg.p1, hb.1, hb.2⟩ h
theorem new_good (m b wi c t : Int) (f1 : 1 ≤ m) (f2 : m ≤ 3) (f3 : 1 ≤ b) (f4 : b ≤ 16) (f5 : 1 ≤ wi) (f6 : wi ≤ 4) (f7 : 0 ≤ c) (f8 : c ≤ 256) (f9 : 1 ≤ t) (f10 : t ≤ 4) : Good (newPr m b wi c t) 0 :=
  ⟨⟨⟨f1, f2, f3, f4, f5, f6, f7, f8, f9, f10⟩, by simp [newPr], by simp [newPr], by simp [newPr], by simp [newPr], by simp [newPr], by simp [newPr]⟩, by simp [newPr], by simp [newPr], by simp [newPr], by
    intro v hv; simp [newPr] at hv; subst hv; simp, by
    intro j hj; simp [newPr] at hj; rw [hj.2]; simp, by simp [newPr]⟩
theorem nojob_good (s : Pr) (C : Int) (mr : Nat) (h : Good s C) : Good { s with jobs := s.jobs.set mr noJob } C := jobs_good s mr noJob C (by simp [noJob]) h
end Go.Proofs.YtjhihliciadipabGreat

namespace Go.Proofs.YtjhihliciadipabGreat
open Go.RowKit

theorem failsL_nts (s : Pr) (j : Jb) : (failsL s j).ts.length = s.ts.length := by unfold failsL; simp
theorem newsL_nts (s : Pr) (pth : Nat) (tag tot : Int) : (newsL s pth tag tot).ts.length = s.ts.length := by unfold newsL; simp
theorem keepL_nts (s : Pr) (j : Jb) (body : ByteArray) : (keepL s j body).ts.length = s.ts.length := by unfold keepL; split <;> rfl
theorem delTs_nts (s : Pr) (j : Jb) (body : ByteArray) : (delTs s j body).ts.length = s.ts.length := by unfold delTs; simp
theorem deliverL_nts (s : Pr) (j : Jb) (body : ByteArray) : (deliverL s j body).ts.length = s.ts.length := by
  unfold deliverL; split
  · rfl
  · rw [keepL_nts, delTs_nts]
theorem replyMid_nts (s : Pr) (j : Jb) (pth : Nat) (tag tot : Int) : (replyMid s j pth tag tot).ts.length = s.ts.length := by
  unfold replyMid; split
  · rfl
  · split
    · exact newsL_nts _ _ _ _
    · rw [failsL_nts, newsL_nts]
theorem replyS_nts (s : Pr) (j : Jb) (pth : Nat) (tag tot off : Int) (body : ByteArray) : (replyS s j pth tag tot off body).ts.length = s.ts.length := by
  unfold replyS; split
  · rw [(lookL_same _).nts, failsL_nts]
  · rw [(lookL_same _).nts, deliverL_nts, replyMid_nts]

theorem AskR_any (p : Nat) (s : Pr) (L : Lay) (C : Int) (path : Int) (r : ByteArray) (w : World) (h : PrAt w p s L) (hg : Good s C) (hC : C ≤ 20000000000000000) (hr : r.size ≤ 9223372036854775807) :
    Calls Tryz.prog 19 #[.pointer (some ⟨p, 0, none⟩), .int .i64 path, .string r] w fun e w' =>
      e = .returned (.tuple #[.int .i64 (ansA s.ts.length path).1, .int .i64 (ansA s.ts.length path).2]) ∧ RStep w w' p s L (cntA s.ts.length path) C := by
  unfold ansA cntA
  by_cases hp : path < 0 ∨ 4 ≤ path
  · rw [if_pos hp, if_pos hp]
    refine (Ask_no p path r w hp).mono ?_
    rintro e w' ⟨rfl, rfl⟩
    exact ⟨rfl, RStep.ext h hg (Below.refl _ _)⟩
  · rw [if_neg hp, if_neg hp]
    by_cases h8 : s.ts.length = 8
    · rw [if_pos h8, if_pos h8]
      refine (Ask_full p s L path r w h (by omega) (by omega) h8).mono ?_
      rintro e w' ⟨rfl, rfl⟩
      exact ⟨rfl, RStep.ext h hg (Below.refl _ _)⟩
    · rw [if_neg h8, if_neg h8]
      obtain ⟨k, rfl⟩ := Int.eq_ofNat_of_zero_le (show 0 ≤ path by omega)
      have hn8 : s.ts.length < 8 := by have := hg.inv.nts; omega
      refine (Ask_new p s L C k r w h hg.inv (by omega) hg.nl hg.lat hr (by omega) hn8).mono ?_
      rintro e w' ⟨rfl, L', hP, hM⟩
      exact ⟨rfl, _, L', by rw [(lookL_same _).nts]; simp, hP, hM, (ask_good s C k r (by omega) hn8 hg).mono (by omega)⟩

theorem job_of {s : Pr} {C : Int} (hg : Good s C) {mr : Int} (h : ¬ (mr < 0 ∨ s.mir ≤ mr)) : ∃ (k : Nat) (j : Jb), mr = k ∧ s.jobs[k]? = some j := by
  obtain ⟨k, rfl⟩ := Int.eq_ofNat_of_zero_le (show 0 ≤ mr by omega)
  have hk : k < s.jobs.length := by rw [hg.nj]; omega
  exact ⟨k, s.jobs[k], rfl, by simp [hk]⟩

theorem NextR_any (p : Nat) (s : Pr) (L : Lay) (C : Int) (mr : Int) (w : World) (h : PrAt w p s L) (hg : Good s C) :
    Calls Tryz.prog 21 #[.pointer (some ⟨p, 0, none⟩), .int .i64 mr] w fun e w' => NextRet e ∧ RStep w w' p s L s.ts.length C := by
  by_cases hm : mr < 0 ∨ s.mir ≤ mr
  · refine (Next_none p s L mr w h hg.inv.fair hm).mono ?_
    rintro e w' ⟨rfl, hE⟩
    exact ⟨⟨_, _, _, _, _, _, _, rfl⟩, RStep.ext h hg hE⟩
  · obtain ⟨k, j, rfl, hj⟩ := job_of hg hm
    cases hon : j.on
    · refine (Next_idle p s L C k j w h hg.inv hg.nj hj hon).mono ?_
      rintro e w' (⟨-, rfl, hE⟩ | ⟨j2, hj2, rfl, hP, hM⟩)
      · exact ⟨⟨_, _, _, _, _, _, _, rfl⟩, RStep.ext h hg hE⟩
      · exact ⟨⟨_, _, _, _, _, _, _, rfl⟩, { s with jobs := s.jobs.set k j2 }, L, rfl, hP, hM, (next_good s C k j2 hj2 hg).mono (by omega)⟩
    · refine (Next_busy p s L k j w h hg.inv.fair hg.nj hj hon).mono ?_
      rintro e w' ⟨rfl, hE⟩
      exact ⟨⟨_, _, _, _, _, _, _, rfl⟩, RStep.ext h hg hE⟩

theorem FailR_any (p : Nat) (s : Pr) (L : Lay) (C : Int) (mr : Int) (w : World) (h : PrAt w p s L) (hg : Good s C) (hC : C ≤ 20000000000000000) :
    Calls Tryz.prog 25 #[.pointer (some ⟨p, 0, none⟩), .int .i64 mr] w fun e w' => IntRet e ∧ RStep w w' p s L s.ts.length C := by
  by_cases hm : mr < 0 ∨ s.mir ≤ mr
  · refine (Fail_none p s L mr w h hg.inv.fair hm).mono ?_
    rintro e w' ⟨rfl, hE⟩
    exact ⟨⟨_, rfl⟩, RStep.ext h hg hE⟩
  · obtain ⟨k, j, rfl, hj⟩ := job_of hg hm
    refine (Fail_some p s L C k j w h hg.inv (by omega) hg.nj hj hg.fl).mono ?_
    rintro e w' (⟨-, rfl, hE⟩ | ⟨-, rfl, L', hP, hM⟩)
    · exact ⟨⟨_, rfl⟩, RStep.ext h hg hE⟩
    · exact ⟨⟨_, rfl⟩, _, L', by rw [(lookL_same _).nts, failsL_nts], hP, hM, (lookL_good _ _ (failsL_good _ j C (nojob_good s C k hg))).mono (by omega)⟩

theorem ReplyR_any (p : Nat) (s : Pr) (L : Lay) (C : Int) (mr tag tot off : Int) (body : ByteArray) (w : World) (h : PrAt w p s L) (hg : Good s C) (hC : C ≤ 20000000000000000) (hb : body.size ≤ 9223372036854775807) :
    Calls Tryz.prog 23 #[.pointer (some ⟨p, 0, none⟩), .int .i64 mr, repAgg tag tot off body] w fun e w' => IntRet e ∧ RStep w w' p s L s.ts.length C := by
  by_cases hm : mr < 0 ∨ s.mir ≤ mr
  · refine (Reply_none p s L mr tag tot off body w h hg.inv.fair hm).mono ?_
    rintro e w' ⟨rfl, hE⟩
    exact ⟨⟨_, rfl⟩, RStep.ext h hg hE⟩
  · obtain ⟨k, j, rfl, hj⟩ := job_of hg hm
    have hjo := hg.jobs j (List.mem_of_getElem? hj)
    obtain ⟨pth, hpt⟩ := Int.eq_ofNat_of_zero_le hjo.1
    refine (Reply_some p s L C k pth j tag tot off body w h hg.inv (by omega) hg.nj hj hg.fl hg.nl (by omega) hpt hjo.2.2.1 hjo.2.2.2 hb).mono ?_
    rintro e w' (⟨-, rfl, hE⟩ | ⟨-, rfl, L', hP, hM⟩)
    · exact ⟨⟨_, rfl⟩, RStep.ext h hg hE⟩
    · exact ⟨⟨_, rfl⟩, _, L', by rw [replyS_nts], hP, hM, replyS_good _ j pth tag tot off body C hjo.2.2.1 hjo.2.2.2 (nojob_good s C k hg)⟩

theorem StateR_any (p : Nat) (s : Pr) (L : Lay) (C : Int) (id : Int) (w : World) (h : PrAt w p s L) (hg : Good s C) :
    Calls Tryz.prog 27 #[.pointer (some ⟨p, 0, none⟩), .int .i64 id] w fun e w' => (∃ a b : Int, e = .returned (.tuple #[.int .i64 a, .int .i64 b])) ∧ RStep w w' p s L s.ts.length C := by
  refine (State_any p id s L C w h hg.inv).mono ?_
  rintro e w' ⟨rfl, hE⟩
  exact ⟨⟨_, _, rfl⟩, RStep.ext h hg hE⟩
theorem HeldR_any (p : Nat) (s : Pr) (L : Lay) (C : Int) (id : Int) (w : World) (h : PrAt w p s L) (hg : Good s C) :
    Calls Tryz.prog 29 #[.pointer (some ⟨p, 0, none⟩), .int .i64 id] w fun e w' => (∃ a b : Int, e = .returned (.tuple #[.int .i64 a, .int .i64 b])) ∧ RStep w w' p s L s.ts.length C := by
  refine (Held_any p id s L C w h hg.inv).mono ?_
  rintro e w' ⟨rfl, rfl⟩
  exact ⟨⟨_, _, rfl⟩, RStep.ext h hg (Below.refl _ _)⟩

theorem headOf_form (t : Mv) : ∃ a b c d f, headOf t = headAgg a b c d f := by unfold headOf; split <;> exact ⟨_, _, _, _, _, rfl⟩
theorem HeadR_any (p : Nat) (s : Pr) (L : Lay) (C : Int) (id : Int) (w : World) (h : PrAt w p s L) (hg : Good s C) :
    Calls Tryz.prog 31 #[.pointer (some ⟨p, 0, none⟩), .int .i64 id] w fun e w' => HeadRet e ∧ RStep w w' p s L s.ts.length C := by
  cases hI : isL s id
  · refine (Head_no p id s L w h hg.inv.nts hI).mono ?_
    rintro e w' ⟨rfl, hE⟩
    exact ⟨⟨_, _, _, _, _, _, rfl⟩, RStep.ext h hg hE⟩
  · obtain ⟨i, rfl, hi⟩ := isL_yes hI
    have ht : s.ts[i]? = some s.ts[i] := by simp [hi]
    have hm := hg.ts _ (List.mem_of_getElem? ht)
    by_cases hop : s.ts[i].tag = 0 ∧ s.ts[i].lost = false
    · refine (Head_open p i s L _ w h hg.inv.nts ht hop).mono ?_
      rintro e w' ⟨rfl, hE⟩
      exact ⟨⟨_, _, _, _, _, _, rfl⟩, RStep.ext h hg hE⟩
    · refine (Head_ok p i s L _ w h hg.inv.nts ht hm.ok hop).mono ?_
      rintro e w' ⟨rfl, hP, hM⟩
      obtain ⟨a, b, c, d, f, hf⟩ := headOf_form s.ts[i]
      exact ⟨⟨a, b, c, d, f, 0, by rw [hf]⟩, _, L, by simp, hP, hM, (setT_good s C i _ (show_good _ _ _ hop hm) hg).mono (by omega)⟩

theorem TakeR_any (p : Nat) (s : Pr) (L : Lay) (C : Int) (id n : Int) (w : World) (h : PrAt w p s L) (hg : Good s C) (hC : C ≤ 20000000000000000) (hn1 : n ≤ 9223372036854775807) :
    Calls Tryz.prog 33 #[.pointer (some ⟨p, 0, none⟩), .int .i64 id, .int .i64 n] w fun e w' => TakeRet e ∧ RStep w w' p s L s.ts.length C := by
  cases hI : isL s id
  · refine (Take_no p id n s L w h hg.inv.nts hI).mono ?_
    rintro e w' ⟨rfl, hE⟩
    exact ⟨⟨_, _, rfl⟩, RStep.ext h hg hE⟩
  · by_cases hneg : n < 0
    · refine (Take_arg p id n s L w h hg.inv.nts hI hneg).mono ?_
      rintro e w' ⟨rfl, hE⟩
      exact ⟨⟨_, _, rfl⟩, RStep.ext h hg hE⟩
    · obtain ⟨i, rfl, hi⟩ := isL_yes hI
      have ht : s.ts[i]? = some s.ts[i] := by simp [hi]
      have hm := hg.ts _ (List.mem_of_getElem? ht)
      by_cases hop : s.ts[i].tag = 0 ∧ s.ts[i].lost = false
      · refine (Take_open p i n s L _ w h hg.inv.nts ht hop (by omega)).mono ?_
        rintro e w' ⟨rfl, hE⟩
        exact ⟨⟨_, _, rfl⟩, RStep.ext h hg hE⟩
      · refine (Take_ok p i s L _ C n w h hg.inv (by omega) ht hop hm.has hm.tk (by omega) hn1).mono ?_
        rintro e w' ⟨rfl, ⟨h0, h1⟩, L', hP, hM⟩
        exact ⟨⟨_, _, rfl⟩, _, L', by unfold takeS; rw [(lookL_same _).nts]; simp, hP, hM, (take_good s C i _ n ht hop h0 h1 hg).mono (by omega)⟩

theorem UsedR_any (p : Nat) (s : Pr) (L : Lay) (C : Int) (w : World) (h : PrAt w p s L) (hg : Good s C) :
    Calls Tryz.prog 35 #[.pointer (some ⟨p, 0, none⟩)] w fun e w' => IntRet e ∧ RStep w w' p s L s.ts.length C := by
  refine (Used_any p s L w (h.blk.cell 8) h.cache hg.inv.cache (by have := hg.inv.nc; omega)).mono ?_
  rintro e w' ⟨rfl, rfl⟩
  exact ⟨⟨_, rfl⟩, RStep.ext h hg (Below.refl _ _)⟩
theorem EntriesR_any (p : Nat) (s : Pr) (L : Lay) (C : Int) (w : World) (h : PrAt w p s L) (hg : Good s C) (hC : C ≤ 20000000000000000) :
    Calls Tryz.prog 37 #[.pointer (some ⟨p, 0, none⟩)] w fun e w' => (∃ v, e = .returned v ∧ w'.ownsRow w.heap.size 42 4 v (entL s).length ((entL s).map entV).flatten) ∧ Ext w w' ∧ RStep w w' p s L s.ts.length C := by
  refine (Entries_any p s L w h (by have := hg.inv.nc; omega) hg.inv.c0 (by have := hg.inv.c1; omega)).mono ?_
  rintro e w' ⟨v, rfl, hE, ho⟩
  exact ⟨⟨v, rfl, ho⟩, hE, RStep.ext h hg hE⟩
end Go.Proofs.YtjhihliciadipabGreat
