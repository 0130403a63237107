import Derived.Test.YtjhihliciadipabKP
import Derived.Test.YtjhihliciadipabKB
import Derived.Test.YtjhihliciadipabKR
set_option linter.unusedVariables false
set_option linter.unusedSimpArgs false
set_option linter.unnecessarySimpa false
namespace Go.Proofs.Ytjhihliciadipab
open Go.RowKit

/-! The cache holds all blocks of one small object. -/
theorem nd_len : ∀ (n : Nat) (l : List Nat), l.Nodup → (∀ x ∈ l, x < n) → l.length ≤ n := by
  intro n
  induction n with
  | zero =>
    intro l _ h
    cases l with
    | nil => simp
    | cons a l => have := h a (List.mem_cons_self ..); omega
  | succ n ih =>
    intro l hnd h
    by_cases hm : n ∈ l
    · have h1 := ih (l.erase n) (hnd.erase n) (fun x hx => by
        have h2 := (List.Nodup.mem_erase_iff hnd).1 hx
        have := h x h2.2
        have := h2.1
        omega)
      have h2 := List.length_erase_of_mem hm
      omega
    · have := ih l hnd (fun x hx => by
        have h1 := h x hx
        have : x ≠ n := fun e => hm (e ▸ hx)
        omega)
      omega
theorem used_le {B : Int} (l : List (Er × ByteArray)) (h : ∀ x ∈ l, (x.2.size : Int) ≤ B) : usedC l ≤ B * l.length := by
  induction l with
  | nil => simp [usedC]
  | cons a l ih =>
    have h1 := h a (List.mem_cons_self ..)
    have h2 := ih (fun x hx => h x (List.mem_cons_of_mem _ hx))
    rw [usedC_cons, List.length_cons]
    push_cast
    rw [Int.mul_add, Int.mul_one]; omega
def KnC (B v p : Int) (S : Er → Prop) : Kn := ⟨fun e b => (KnV B v).D e b ∧ (e.path = p ∧ e.tag = v ∧ e.tot = totK p v) ∧ S e, fun p' tag tot => (KnV B v).V p' tag tot ∧ p' = p⟩
theorem KnC_ok (B v p : Int) (S : Er → Prop) : KnOk (KnC B v p S) B := ⟨fun _ _ h => (KnV_ok B v).d _ _ h.1, fun _ _ _ h => (KnV_ok B v).v _ _ _ h.1⟩
theorem blk_lt {B tot k : Int} (h : 1 ≤ blkLen tot k B) : k * B < tot := by
  unfold blkLen atM at h
  split at h
  · omega
  · split at h <;> omega
theorem small {B v p : Int} {S : Er → Prop} (hB : 1 ≤ B) (hB2 : B ≤ 16) (l : List (Er × ByteArray)) (hn : (l.map Prod.fst).Nodup) (h : ∀ x ∈ l, (KnC B v p S).D x.1 x.2) : usedC l ≤ 74 := by
  have ht := totK_bd p v
  have hfm : ∀ x ∈ l, x.1 = ⟨p, v, totK p v, x.1.blk⟩ ∧ 0 ≤ x.1.blk ∧ x.1.blk * B < totK p v ∧ (x.2.size : Int) ≤ B := by
    intro x hx
    obtain ⟨hD, ⟨a1, a2, a3⟩, -⟩ := h x hx
    have hd := (KnV_ok B v).d _ _ hD
    have h0 : 0 ≤ x.1.blk := hD.1.2
    have hle := (blkLen_le x.1.tot x.1.blk B (by omega)).2
    have hlt : x.1.blk * B < x.1.tot := blk_lt (by rw [← hd.1]; have := hd.2.1; omega)
    refine ⟨?_, h0, by rw [← a3]; exact hlt, by rw [hd.1]; exact hle⟩
    cases hx1 : x.1
    rw [hx1] at a1 a2 a3
    simp only at a1 a2 a3
    rw [a1, a2, a3]
  have hnb : ((totK p v + B - 1) / B) * B ≤ totK p v + B - 1 := Int.ediv_mul_le _ (by omega)
  have hl : l.length ≤ ((totK p v + B - 1) / B).toNat := by
    have := nd_len ((totK p v + B - 1) / B).toNat (l.map (fun x => x.1.blk.toNat)) ?_ ?_
    · simpa using this
    · have e : l.map (fun x => x.1.blk.toNat) = (l.map Prod.fst).map (fun e => e.blk.toNat) := by rw [List.map_map]; rfl
      rw [e]
      rw [List.nodup_iff_pairwise_ne] at hn ⊢
      rw [List.pairwise_map]
      refine hn.imp_of_mem ?_
      intro a b ha hb hab hc
      rw [List.mem_map] at ha hb
      obtain ⟨x, hx, rfl⟩ := ha
      obtain ⟨z, hz, rfl⟩ := hb
      apply hab
      have hx1 := hfm x hx
      have hz1 := hfm z hz
      rw [hx1.1, hz1.1]
      have : x.1.blk = z.1.blk := by have := hx1.2.1; have := hz1.2.1; omega
      rw [this]
    · intro k hk
      rw [List.mem_map] at hk
      obtain ⟨x, hx, rfl⟩ := hk
      obtain ⟨-, h0, hlt, -⟩ := hfm x hx
      have : x.1.blk + 1 ≤ (totK p v + B - 1) / B := (Int.le_ediv_iff_mul_le (by omega)).2 (by rw [Int.add_mul, Int.one_mul]; omega)
      omega
  have hu := used_le (B := B) l (fun x hx => (hfm x hx).2.2.2)
  have h1 : B * (l.length : Int) ≤ B * ((totK p v + B - 1) / B) := Int.mul_le_mul_of_nonneg_left (by
    have : 0 ≤ (totK p v + B - 1) / B := Int.ediv_nonneg (by omega) (by omega)
    omega) (by omega)
  rw [Int.mul_comm B ((totK p v + B - 1) / B)] at h1
  omega
theorem evict_id {cap : Int} (l : List (Er × ByteArray)) (h : usedC l ≤ cap) : evictC cap l = l := by
  cases l with
  | nil => rfl
  | cons a l => rw [evictC, if_neg (by omega)]
theorem erase_in {c : List (Er × ByteArray)} {e e' : Er} (hne : e' ≠ e) (h : inC c e') : inC (c.eraseIdx (findC c e)) e' := by
  obtain ⟨x, hx, he⟩ := h
  obtain ⟨i, hi⟩ := List.getElem?_of_mem hx
  refine ⟨x, ?_, he⟩
  rw [List.mem_eraseIdx_iff_getElem?]
  refine ⟨i, ?_, hi⟩
  intro hie
  subst hie
  exact hne (by rw [← he]; exact findC_eq hi)
theorem put_all {B v p : Int} {S : Er → Prop} (hB : 1 ≤ B) (hB2 : B ≤ 16) {c : List (Er × ByteArray)} (hn : CN c) (h : ∀ x ∈ c, (KnC B v p S).D x.1 x.2) (e : Er) (b : ByteArray) (hD : (KnC B v p S).D e b) :
    inC (putC 256 c e b) e ∧ ∀ e', inC c e' → inC (putC 256 c e b) e' := by
  have hsz : (b.size : Int) ≤ 16 := by
    have := (blkLen_le e.tot e.blk B (by omega)).2
    have := ((KnC_ok B v p S).d _ _ hD).1
    omega
  have hall : ∀ x ∈ c.eraseIdx (findC c e) ++ [(e, b)], (KnC B v p S).D x.1 x.2 := by
    intro x hx
    rcases List.mem_append.1 hx with h1 | h1
    · exact h x ((List.eraseIdx_sublist ..).subset h1)
    · simp at h1; subst h1; exact hD
  have hnd : ((c.eraseIdx (findC c e) ++ [(e, b)]).map Prod.fst).Nodup := by
    rw [List.map_append, List.nodup_append]
    refine ⟨(CN_sub hn (List.eraseIdx_sublist ..)).nd, by simp, ?_⟩
    intro x hx y hy hxy
    simp at hy
    subst hy hxy
    exact erase_key hn.nd _ hx
  have hput : putC 256 c e b = c.eraseIdx (findC c e) ++ [(e, b)] := by
    unfold putC
    rw [if_neg (by omega)]
    exact evict_id _ (by have := small hB hB2 _ hnd hall; omega)
  rw [hput]
  refine ⟨⟨(e, b), by simp, rfl⟩, fun e' he' => ?_⟩
  by_cases hne : e' = e
  · exact ⟨(e, b), by simp, hne.symm⟩
  · obtain ⟨x, hx, hxe⟩ := erase_in hne he'
    exact ⟨x, List.mem_append_left _ hx, hxe⟩
theorem look_lat (s : Px) : (plookS s).lat = s.lat := (plookTo_same s _).2.2.2.2.2.1
theorem look_cap (s : Px) : (plookS s).cap = s.cap := (plookTo_same s _).2.2.2.1

/-- One transfer of one version, with a great cache. -/
structure A1 (B v : Int) (p : Nat) (n : Nat) (P : Pl) : Prop where
  pi : PI (KnC B v p (inC P.g.s.cac)) n P
  cn : CN P.g.s.cac
  cap : P.g.s.cap = 256
  lt : (∀ t ∈ P.g.s.trs, openT t = true) ∨ P.g.s.lat.getD p (0, 0) = (v, totK p v)
theorem A1.up {B v : Int} {p n n' : Nat} {P : Pl} (h : A1 B v p n P) (hn : n ≤ n') : A1 B v p n' P := ⟨h.pi.up hn, h.cn, h.cap, h.lt⟩
theorem A1.mid {B v : Int} {p n k : Nat} {P : Pl} (h : A1 B v p n P) (hC : Cl B v k P) (hv : 1 ≤ v) (hv2 : v ≤ 99) (hp : p < 4) {t : Tr} (ht : P.g.s.trs = [t]) (hpt : t.path = p) (pk1 : POk (nextPl P 0).1.g.s) : A1 B v p (n + 1) (midPl P v) := by
  have hm1 := hC.pi.si.fair.m1
  have hBb := hC.bl
  have hK : KnOk (KnC B v p (inC P.g.s.cac)) P.g.s.blk := by rw [hBb]; exact KnC_ok B v p _
  have hb : P.g.s.busy = allF := by rw [← hC.pi.j.aw]; exact hC.aw
  cases hE : nextE P.g.s with
  | none =>
    have e2 : midPl P v = P := (mid_idle v hC.aw hE).2
    rw [e2]; exact h.up (by omega)
  | some e =>
    have hw : e ∈ wantedL P.g.s.blk P.g.s.win t := by
      have := nextE_one hb ht
      rw [hE] at this
      exact List.mem_of_mem_head? this.symm
    obtain ⟨T, hT⟩ : ∃ T, P.taken[0]? = some T := ⟨_, List.getElem?_eq_getElem (by rw [hC.pi.si.n, ht]; simp)⟩
    have hTI := h.pi.si.ts 0 t T (by rw [ht]; rfl) hT
    obtain ⟨-, -, wp, wv⟩ := wanted_ok h.pi.si.fair hK hTI hw
    rw [hpt] at wp
    have e1 : nextPl P 0 = (sentPl P 0 e, true) := by unfold nextPl; rw [hC.aw, allF_get, hE]; rfl
    obtain ⟨-, e2, e3⟩ := mid_sent hC hv hE
    have hst : P.st.b = B := by rw [h.pi.j.st.2.1, hBb]
    rw [hst, hBb, hon_eq] at e3
    have hpi := nextPl_PI h.pi hC.pk hK 0 (by omega)
    rw [e1] at hpi pk1
    simp only at hpi pk1
    have haw : (sentPl P 0 e).away.getD 0 false = true := by
      show (P.away.set 0 true).getD 0 false = true
      rw [hC.aw]; rfl
    have hee : (sentPl P 0 e).g.s.ers[0]? = some e := by
      show (P.g.s.ers.set 0 e)[0]? = some e
      rw [List.getElem?_set, if_pos rfl, if_pos (by rw [hC.pk.ne]; omega)]
    have hpe := pk1.ers e (List.mem_of_getElem? hee)
    obtain ⟨s1, -, -, -⟩ := rpPl_s hpi pk1 0 (by show ((0 : Nat) : Int) < P.g.s.mir; omega) ⟨v, totK e.path v, e.blk * B, honB B e v⟩ haw hee
    rw [← e3] at s1
    simp only at s1
    obtain ⟨s0, hs0⟩ : ∃ s0, s0 = freeS (sentPl P 0 e).g.s 0 := ⟨_, rfl⟩
    rw [← hs0] at s1
    have z1 : s0.cac = P.g.s.cac := by rw [hs0]; rfl
    have z2 : s0.cap = 256 := by rw [hs0]; exact h.cap
    have z3 : s0.lat = P.g.s.lat := by rw [hs0]; rfl
    have z4 : s0.blk = B := by rw [hs0]; exact hBb
    have hB1 := h.pi.si.fair.B1
    have hB2 := h.pi.si.fair.B2
    rw [hBb] at hB1 hB2
    have hse := hon_sens (B := B) hB1 hpe.2.2.1 hv hv2
    -- what the answer does to the cache and to the latest version
    obtain ⟨s2, hs2⟩ : ∃ s2, s2 = (if v = e.tag ∧ totK e.path v = e.tot then s0 else failedS (renewS s0 e.path (v, totK e.path v)) e) := ⟨_, rfl⟩
    have hans : answS s0 e v (totK e.path v) (e.blk * B) (honB B e v) = delivS s2 ⟨e.path, v, totK e.path v, e.blk⟩ (honB B e v) := by
      unfold answS
      rw [z4, hse, if_pos rfl, hs2]
    have y1 : s2.cac = P.g.s.cac := by rw [hs2]; split <;> exact z1
    have y2 : s2.cap = 256 := by rw [hs2]; split <;> exact z2
    have y3 : s2.lat.getD p (0, 0) = (v, totK p v) := by
      rw [hs2]
      split
      · rename_i hx
        rw [z3]
        rcases h.lt with h1 | h1
        · exfalso
          have ho := h1 t (by rw [ht]; simp)
          have h0 := (hTI.op ho).1
          have : e.tag = 0 := by rw [(wanted_in e hw).1]; show t.hd.tag = 0; rw [h0]
          omega
        · exact h1
      · show (s0.lat.set e.path.toNat (v, totK e.path v)).getD p (0, 0) = _
        rw [z3, wp, Int.toNat_natCast, List.getD_eq_getElem?_getD, List.getElem?_set, if_pos rfl, if_pos (by rw [hC.pk.nl]; exact hp)]; rfl
    have x3 : (delivS s2 ⟨e.path, v, totK e.path v, e.blk⟩ (honB B e v)).lat = s2.lat := by unfold delivS; split <;> rfl
    have x2 : (delivS s2 ⟨e.path, v, totK e.path v, e.blk⟩ (honB B e v)).cap = s2.cap := by unfold delivS; split <;> rfl
    have hkey : ∀ S : Er → Prop, (S ⟨e.path, v, totK e.path v, e.blk⟩) → (honB B e v).toList.isEmpty = false → (KnC B v p S).D ⟨e.path, v, totK e.path v, e.blk⟩ (honB B e v) := by
      intro S hS hne
      refine ⟨⟨⟨⟨honB_size hB1 hpe.2.2.1 v, ba_pos _ hne, hv⟩, hpe.2.2.1⟩, rfl⟩, ⟨wp, rfl, by rw [wp]⟩, hS⟩
    have hcacD : ∀ x ∈ P.g.s.cac, (KnC B v p (fun _ => True)).D x.1 x.2 := fun x hx => by
      have := (h.pi.si.cac x hx).1
      exact ⟨this.1, this.2.1, trivial⟩
    have hin : ((honB B e v).toList.isEmpty = false → inC (midPl P v).g.s.cac ⟨e.path, v, totK e.path v, e.blk⟩) ∧ ∀ e', inC P.g.s.cac e' → inC (midPl P v).g.s.cac e' := by
      rw [s1, hans]
      unfold delivS
      cases hem : (honB B e v).toList.isEmpty
      · simp only [Bool.false_eq_true, if_false]
        have hp2 := put_all hB1 hB2 (S := fun _ => True) (c := P.g.s.cac) h.cn hcacD ⟨e.path, v, totK e.path v, e.blk⟩ (honB B e v) (hkey _ trivial hem)
        refine ⟨fun _ => ?_, fun e' he' => ?_⟩
        · rw [look_in]
          show inC (putC s2.cap s2.cac _ _) _
          rw [y1, y2]; exact hp2.1
        · rw [look_in]
          show inC (putC s2.cap s2.cac _ _) _
          rw [y1, y2]; exact hp2.2 e' he'
      · simp only [if_true]
        refine ⟨fun x => by simp at x, fun e' he' => ?_⟩
        rw [look_in, y1]; exact he'
    have hpiS : PI (KnC B v p (inC (midPl P v).g.s.cac)) n (sentPl P 0 e) := hpi.mono (Nat.le_refl _) (fun e' b' x => ⟨x.1, x.2.1, hin.2 e' x.2.2⟩) (fun _ _ _ x => x)
    have hfin := rpPl_PI hpiS pk1 (by show KnOk _ P.g.s.blk; rw [hBb]; exact KnC_ok B v p _) 0 (by show ((0 : Nat) : Int) < P.g.s.mir; omega) ⟨v, totK e.path v, e.blk * B, honB B e v⟩ (fun _ e' he' hs => by
      rw [hee] at he'; simp at he'; subst he'
      have hw := weak_D hs hpe.2.2.1
      have e0 : (sentPl P 0 e).g.s.blk = B := hBb
      rw [e0] at hw
      exact ⟨⟨⟨⟨hw.1, rfl⟩, Or.inr rfl⟩, wp⟩, fun hne => hkey _ (hin.1 hne) hne⟩)
    rw [← e3] at hfin
    refine ⟨hfin, ?_, ?_, Or.inr ?_⟩
    · rw [e3]
      exact CN_rp (P := sentPl P 0 e) h.cn 0 _
    · rw [s1, hans, look_cap, x2]; exact y2
    · rw [s1, hans, look_lat, x3]; exact y3
theorem tk_cac (P : Pl) (ix n : Int) : (∀ e, inC (takePl P ix n).g.s.cac e ↔ inC P.g.s.cac e) ∧ (takePl P ix n).g.s.lat = P.g.s.lat ∧ (takePl P ix n).g.s.cap = P.g.s.cap ∧ (CN P.g.s.cac → CN (takePl P ix n).g.s.cac) := by
  unfold takePl
  split
  · exact ⟨fun _ => Iff.rfl, rfl, rfl, id⟩
  · split
    · split
      · exact ⟨fun _ => Iff.rfl, rfl, rfl, id⟩
      · show (∀ e, inC (ptakeS P.g.s _ _).cac e ↔ inC P.g.s.cac e) ∧ (ptakeS P.g.s _ _).lat = P.g.s.lat ∧ (ptakeS P.g.s _ _).cap = P.g.s.cap ∧ (CN P.g.s.cac → CN (ptakeS P.g.s _ _).cac)
        unfold ptakeS
        split
        · split
          · exact ⟨fun _ => Iff.rfl, rfl, rfl, id⟩
          · split
            · exact ⟨fun _ => Iff.rfl, rfl, rfl, id⟩
            · split
              · exact ⟨fun _ => Iff.rfl, rfl, rfl, id⟩
              · exact ⟨fun e => look_in _ e, look_lat _, look_cap _, fun h => CN_look (s := setT P.g.s _ _) h⟩
        · exact ⟨fun _ => Iff.rfl, rfl, rfl, id⟩
    · exact ⟨fun _ => Iff.rfl, rfl, rfl, id⟩
theorem A1.take {B v : Int} {p n : Nat} {P : Pl} (h : A1 B v p n P) (hB : P.g.s.blk = B) (ix c : Int) (hop : (∀ t ∈ P.g.s.trs, openT t = true) → takePl P ix c = P) : A1 B v p (n + 1) (takePl P ix c) := by
  have ht := tk_cac P ix c
  have hpi := takePl_PI h.pi (by rw [hB]; exact KnC_ok B v p _) ix c
  refine ⟨hpi.mono (Nat.le_refl _) (fun e b x => ⟨x.1, x.2.1, (ht.1 e).2 x.2.2⟩) (fun _ _ _ x => x), ht.2.2.2 h.cn, ht.2.2.1.trans h.cap, ?_⟩
  rcases h.lt with h1 | h1
  · left; rw [hop h1]; exact h1
  · right; rw [ht.2.1]; exact h1
theorem takePl_open {P : Pl} (ix c : Int) (h : ∀ t ∈ P.g.s.trs, openT t = true) : takePl P ix c = P := by
  unfold takePl
  split
  · rfl
  · split
    · rename_i t ht
      have := h t (List.mem_of_getElem? ht)
      unfold openT at this
      simp at this
      rw [if_pos (by unfold stT; rw [this.1, this.2]; rfl)]
    · rfl
theorem A1.round {B v : Int} {p n k : Nat} {P : Pl} (h : A1 B v p n P) (hC : Cl B v k P) (hv : 1 ≤ v) (hv2 : v ≤ 99) (hp : p < 4) {t : Tr} (ht : P.g.s.trs = [t]) (hpt : t.path = p) (pk1 : POk (nextPl P 0).1.g.s) : A1 B v p (n + 2) (roundPl P v) := by
  have hn1 : P.paths.length = 1 := by rw [← hC.pi.ok.n1, ht]; rfl
  rw [round_one v hn1]
  have hM := mid_rel hC (by omega) hv2
  exact (h.mid hC hv hv2 hp ht hpt pk1).take hM.bl 0 99 (takePl_open 0 99)
/-- All blocks are there. -/
def Full (B v p : Int) (c : List (Er × ByteArray)) : Prop := ∀ k : Int, 0 ≤ k → k * B < totK p v → inC c ⟨p, v, totK p v, k⟩
theorem A1.full {B v : Int} {p n : Nat} {P : Pl} (h : A1 B v p n P) {r : Int × Int × Int} (hr : r = (0, 0, 0)) (hB : P.g.s.blk = B) {t : Tr} {T : ByteArray} (hE : RE B v p r P t T) (hpt : t.path = p) : Full B v p P.g.s.cac ∧ P.g.s.lat.getD p (0, 0) = (v, totK p v) := by
  have hB1 := h.pi.si.fair.B1
  rw [hB] at hB1
  have ht := hE.tr
  have hTI := h.pi.si.ts 0 t T (by rw [ht]; rfl) (by rw [hE.tk]; rfl)
  rw [hB] at hTI
  have hhd : t.hd = ⟨200, v, totK p v, 0, totK p v⟩ := by rw [hE.hd, hr]; rfl
  have hst := hE.st
  have hop : openT t = false := open_st (by omega)
  have htk : t.taken = totK p v := by
    have h3 := hst
    unfold stT at h3
    split at h3
    · omega
    · split at h3
      · omega
      · split at h3
        · rename_i hx; rw [hx, hhd]
        · omega
  refine ⟨fun k hk hkb => ?_, h.lt.resolve_left (fun x => by have := x t (by rw [ht]; simp); rw [hop] at this; simp at this)⟩
  have hkn : 0 ≤ k * B := Int.mul_nonneg hk (by omega)
  obtain ⟨b, hD, -⟩ := hTI.tk (k * B).toNat (by omega)
  have e1 : (t.hd.frm + ((k * B).toNat : Int)) / B = k := by
    rw [hhd]
    show (0 + ((k * B).toNat : Int)) / B = k
    rw [show (0 + ((k * B).toNat : Int)) = k * B by omega, Int.mul_ediv_cancel _ (by omega)]
  rw [e1] at hD
  have e2 : ofT t k = ⟨p, v, totK p v, k⟩ := by unfold ofT; rw [hhd, hpt]
  rw [e2] at hD
  exact hD.2.2

/-! The second transfer: all it wants is in the cache. -/
structure A2 (B v : Int) (p : Nat) (r : Int × Int × Int) (n j : Nat) (T0 : ByteArray) (P : Pl) : Prop where
  cl : Cl B v (n + j) P
  nw : NW P.g.s
  fu : Full B v p P.g.s.cac
  tr : ∃ t0 t1, P.g.s.trs = [t0, t1] ∧ stT t0 = 3 ∧ t1.lost = false ∧ t1.bound = true ∧ t1.path = p ∧ (t1.kind, t1.fst, t1.lst) = r ∧ (muT t1 = 0 ∨ muT t1 + j ≤ 61)
  tk : P.taken[0]? = some T0
theorem done_win {B W : Int} {t : Tr} (h : stT t = 3) : wantedL B W t = [] := by
  have hw : winT B W t = (0, 0) := by
    unfold stT at h
    unfold winT
    split at h
    · omega
    · split at h
      · omega
      · split at h
        · rename_i a b c; rw [if_neg a, if_neg b, if_pos c]
        · omega
  unfold wantedL; rw [hw]; rfl
theorem full_win {B v : Int} {p : Nat} {s : Px} {t : Tr} {T : ByteArray} (hf : Fair s) (hBb : s.blk = B) (hv : 1 ≤ v) (hnw : NW s) (hfu : Full B v p s.cac) (ht : t ∈ s.trs) (hTI : TI (KnV B v) B s.win t T) (hl : t.lost = false) (hb : t.bound = true) (hp : t.path = p) : wantedL B s.win t = [] := by
  rw [List.eq_nil_iff_forall_not_mem]
  intro e he
  have he2 := he
  rw [← hBb] at he2
  refine hnw t ht e he2 ?_
  have hB1 := hf.B1
  rw [hBb] at hB1
  obtain ⟨hV, hhd⟩ := hTI.bd hl hb
  have htag : t.hd.tag = v := by rcases hV.2 with h | h; omega; exact h
  have htot : t.hd.tot = totK p v := by have := hV.1.2; rw [htag, hp] at this; exact this
  obtain ⟨-, -, -, wv⟩ := wanted_ok hf (by rw [hBb]; exact KnV_ok B v) (by rw [hBb]; exact hTI) he2
  obtain ⟨w1, w2, -⟩ := wanted_in e he
  have hn := win_nn (W := s.win) hB1 hTI.ok
  have hlt : e.blk * B < totK p v := by
    rcases wv with h0 | ⟨-, h1⟩
    · have : e.tag = v := by rw [w1]; exact htag
      omega
    · rw [hBb] at h1
      have : e.tot = totK p v := by rw [w1]; exact htot
      rw [← this]; exact h1
  have := hfu e.blk (by omega) hlt
  rw [w1]
  unfold ofT
  rw [hp, htag, htot]; exact this
theorem A2.idle {B v : Int} {p : Nat} {r : Int × Int × Int} {n j : Nat} {T0 : ByteArray} {P : Pl} (h : A2 B v p r n j T0 P) (hv : 1 ≤ v) : (∀ t ∈ P.g.s.trs, wantedL B P.g.s.win t = []) ∧ nextE P.g.s = none := by
  obtain ⟨t0, t1, ht, h0, hl, hb, hp, hr, hmu⟩ := h.tr
  have hC := h.cl
  obtain ⟨T1, hT1⟩ : ∃ T, P.taken[1]? = some T := ⟨_, List.getElem?_eq_getElem (by rw [hC.pi.si.n, ht]; simp)⟩
  have hTI := hC.pi.si.ts 1 t1 T1 (by rw [ht]; rfl) hT1
  rw [hC.bl] at hTI
  have key : ∀ t ∈ P.g.s.trs, wantedL B P.g.s.win t = [] := by
    intro t hm
    rw [ht] at hm
    simp at hm
    rcases hm with rfl | rfl
    · exact done_win h0
    · exact full_win hC.pi.si.fair hC.bl hv h.nw h.fu (by rw [ht]; simp) hTI hl hb hp
  refine ⟨key, ?_⟩
  unfold nextE
  rw [List.findSome?_eq_none_iff]
  intro t hm
  unfold errOf
  rw [hC.bl, key t hm]; rfl
theorem Hm.st {t t' : Tr} (h : Hm t t') : stT t' = stT t := by obtain ⟨a, b, rfl⟩ := h.e; rfl
theorem A2.step {B v : Int} {p : Nat} {r : Int × Int × Int} {n j : Nat} {T0 : ByteArray} {P : Pl} (h : A2 B v p r n j T0 P) (hv : 1 ≤ v) (pk : POk (takePl P 1 99).g.s) : A2 B v p r n (j + 1) T0 (takePl P 1 99) := by
  obtain ⟨hw, -⟩ := h.idle hv
  obtain ⟨t0, t1, ht, h0, hl, hb, hp, hr, hmu⟩ := h.tr
  have hC := h.cl
  have hK : KnOk (KnV B v) P.g.s.blk := by rw [hC.bl]; exact KnV_ok B v
  have hB1 := hC.pi.si.fair.B1
  have hW1 := hC.pi.si.fair.W1
  rw [hC.bl] at hB1
  have hn2 : P.paths.length = 2 := by rw [← hC.pi.ok.n1, ht]; rfl
  have hpi := takePl_PI hC.pi hK 1 99
  have htk := tk_cac P 1 99
  obtain ⟨T1, hT1⟩ : ∃ T, P.taken[1]? = some T := ⟨_, List.getElem?_eq_getElem (by rw [hC.pi.si.n, ht]; simp)⟩
  have ht1 : P.g.s.trs[1]? = some t1 := by rw [ht]; rfl
  have hTI := hC.pi.si.ts 1 t1 T1 ht1 hT1
  rw [hC.bl] at hTI
  have hst : ¬ stT t1 = 1 := by
    unfold stT; rw [hl, hb, if_neg (by simp), if_neg (by simp)]
    split <;> omega
  have ho := open_st hst
  have hpk1 : pickK 1 P.paths.length = 1 := by rw [hn2]; rfl
  have hp99 : pickK 99 100 = 99 := by decide
  have hform : takePl P 1 99 = tookPl P 1 99 := by
    unfold takePl
    rw [if_neg (by omega), hpk1, hp99]
    have : P.g.s.trs[(1 : Int).toNat]? = some t1 := ht1
    rw [this]
    simp only [hst, if_false]
    rfl
  have hs : (takePl P 1 99).g.s = plookS (setT P.g.s 1 (takeT B P.g.s.win 99 (pshowT t1)).2) := by
    rw [hform]
    show ptakeS P.g.s (1 : Nat) 99 = _
    rw [ptakeS_yes ht1 (by omega) ho, hC.bl]
  have hd := take_dn hC.bl hC.pi.si.fair hTI ho
  have hlk := look_hm (setT P.g.s 1 (takeT B P.g.s.win 99 (pshowT t1)).2)
  rw [← hs] at hlk
  have hset : (setT P.g.s 1 (takeT B P.g.s.win 99 (pshowT t1)).2).trs = [t0, (takeT B P.g.s.win 99 (pshowT t1)).2] := by
    show P.g.s.trs.set 1 _ = _
    rw [ht]; rfl
  rw [hset] at hlk
  obtain ⟨u0, hu0, r0⟩ := hlk.get (i := 0) rfl
  obtain ⟨u1, hu1, r1⟩ := hlk.get (i := 1) rfl
  have hlen : (takePl P 1 99).g.s.trs.length = 2 := hlk.n
  have htr : (takePl P 1 99).g.s.trs = [u0, u1] := by
    cases hx : (takePl P 1 99).g.s.trs with
    | nil => rw [hx] at hlen; simp at hlen
    | cons a l =>
      cases l with
      | nil => rw [hx] at hlen; simp at hlen
      | cons b l =>
        rw [hx] at hlen hu0 hu1
        simp at hlen hu0 hu1
        subst hlen hu0 hu1; rfl
  have d := hd.hm r1
  refine ⟨⟨hpi.up (by omega), pk, by rw [tk_blk]; exact hC.bl, by rw [hform]; exact hC.aw⟩, take_NW hC.pi hK h.nw 1 99, fun k a b => (htk.1 _).2 (h.fu k a b), ⟨u0, u1, htr, by rw [r0.1.st]; exact h0, by rw [d.ls]; exact hl, by rw [d.bd]; exact hb, by rw [d.pa.1]; exact hp, by rw [d.pa.2.1, d.pa.2.2.1, d.pa.2.2.2]; exact hr, ?_⟩, ?_⟩
  · have e1 : muT u1 = (t1.hd.len - u1.taken).toNat := by unfold muT; rw [d.ls, d.bd, d.hd, hl, hb]; rfl
    have e2 : muT t1 = (t1.hd.len - t1.taken).toNat := by unfold muT; rw [hl, hb]; rfl
    have hle := d.le
    by_cases hz : muT t1 = 0
    · left; omega
    · have hrun : Run t1 := ⟨hl, hb, by omega⟩
      have hh := wanted_nil (hw t1 (by rw [ht]; simp)) _ (Int.le_refl _) (hrun.lt hB1 hW1)
      have := hrun.strict hB1 d hh
      have hk := hrun.k
      omega
  · rw [hform]
    show (P.taken.set 1 _)[0]? = some T0
    rw [List.getElem?_set, if_neg (by omega)]; exact h.tk
theorem A2.start {B v : Int} {p n : Nat} {P : Pl} {T0 : ByteArray} (hC : Cl B v n P) (hv : 1 ≤ v) (hp : p < 4) {t : Tr} (ht : P.g.s.trs = [t]) (hst : stT t = 3) (hT : P.taken = [T0]) (hfu : Full B v p P.g.s.cac) (hlat : P.g.s.lat.getD p (0, 0) = (v, totK p v)) (b : ByteArray) (pk : POk (askPl P p b).g.s) : A2 B v p (readP b) n 0 T0 (askPl P p b) := by
  have hK : KnOk (KnV B v) P.g.s.blk := by rw [hC.bl]; exact KnV_ok B v
  have hn1 : P.paths.length = 1 := by rw [← hC.pi.ok.n1, ht]; rfl
  have hpi := askPl_PI hC.pi hC.pk hK p hp b
  have hform : askPl P p b = { P with g := ⟨askSt P.g.s p b, P.g.v⟩, paths := P.paths ++ [(p : Int)], texts := P.texts ++ [b], taken := P.taken ++ [ByteArray.empty] } := by unfold askPl; rw [if_pos (by omega)]
  obtain ⟨s0, hs0⟩ : ∃ s0 : Px, s0 = { P.g.s with trs := P.g.s.trs ++ [askT p (readP b) (v, totK p v)] } := ⟨_, rfl⟩
  have hs : (askPl P p b).g.s = plookS s0 := by
    rw [hform]
    show askSt P.g.s p b = _
    unfold askSt
    rw [hlat, hs0]
  have hask : askT p (readP b) (v, totK p v) = bindT (rawT p (readP b)) (v, totK p v) := by rw [askT_eq, if_neg (by show ¬ v = 0; omega)]
  have hset : s0.trs = [t, bindT (rawT p (readP b)) (v, totK p v)] := by rw [hs0, hask, ht]; rfl
  have hlk := look_hm s0
  rw [← hs, hset] at hlk
  obtain ⟨u0, hu0, r0⟩ := hlk.get (i := 0) rfl
  obtain ⟨u1, hu1, r1⟩ := hlk.get (i := 1) rfl
  have hlen : (askPl P p b).g.s.trs.length = 2 := hlk.n
  have htr : (askPl P p b).g.s.trs = [u0, u1] := by
    cases hx : (askPl P p b).g.s.trs with
    | nil => rw [hx] at hlen; simp at hlen
    | cons a l =>
      cases l with
      | nil => rw [hx] at hlen; simp at hlen
      | cons b l =>
        rw [hx] at hlen hu0 hu1
        simp at hlen hu0 hu1
        subst hlen hu0 hu1; rfl
  obtain ⟨x, y, e1⟩ := r1.1.e
  have hTIu : ∃ T, TI (KnV B v) B (askPl P p b).g.s.win u1 T := by
    obtain ⟨T, hT⟩ : ∃ T, (askPl P p b).taken[1]? = some T := ⟨_, List.getElem?_eq_getElem (by rw [hpi.si.n, htr]; simp)⟩
    have := hpi.si.ts 1 u1 T (by rw [htr]; rfl) hT
    rw [ask_blk, hC.bl] at this
    exact ⟨T, this⟩
  obtain ⟨TT, hTIu⟩ := hTIu
  refine ⟨⟨hpi.up (by omega), pk, by rw [ask_blk]; exact hC.bl, by rw [hform]; exact hC.aw⟩, ?_, ?_, ⟨u0, u1, htr, by rw [r0.1.st]; exact hst, by rw [e1]; rfl, by rw [e1]; rfl, by rw [e1]; rfl, by rw [e1]; rfl, Or.inr (muT_le hTIu)⟩, ?_⟩
  · rw [hs]
    refine look_NW s0 (fun z hz => ?_) (fun z hz => ?_)
    · rw [hs0] at hz
      exact hC.pi.cac1 hK z hz
    · rw [hset] at hz
      simp at hz
      rcases hz with rfl | rfl
      · exact hC.pi.si.held4 _ (by rw [ht]; simp)
      · rfl
  · intro k a c
    rw [hs, look_in, hs0]
    exact hfu k a c
  · rw [hform]
    show (P.taken ++ [ByteArray.empty])[0]? = some T0
    rw [hT]; rfl
structure AE (B v : Int) (p : Nat) (r : Int × Int × Int) (T0 : ByteArray) (P : Pl) (t1 : Tr) (T1 : ByteArray) : Prop where
  tr : P.g.s.trs[1]? = some t1
  st : stT t1 = 3
  hd : t1.hd = headR r.1 r.2.1 r.2.2 v (totK p v)
  tk : P.taken = [T0, T1]
  T : T1 = objK p v t1.hd.frm.toNat t1.hd.len.toNat
theorem A2.done {B v : Int} {p : Nat} {r : Int × Int × Int} {n : Nat} {T0 : ByteArray} {P : Pl} (h : A2 B v p r n 70 T0 P) (hv : 1 ≤ v) : ∃ t1 T1, AE B v p r T0 P t1 T1 := by
  obtain ⟨t0, t1, ht, h0, hl, hb, hp, hr, hmu⟩ := h.tr
  have hmu : muT t1 = 0 := by omega
  have hC := h.cl
  have hB1 := hC.pi.si.fair.B1
  rw [hC.bl] at hB1
  have hn2 : P.taken.length = 2 := by rw [hC.pi.si.n, ht]; rfl
  obtain ⟨T1, hT⟩ : ∃ T1, P.taken = [T0, T1] := by
    have h00 := h.tk
    cases hx : P.taken with
    | nil => rw [hx] at hn2; simp at hn2
    | cons a l =>
      cases l with
      | nil => rw [hx] at hn2; simp at hn2
      | cons b l =>
        rw [hx] at hn2 h00
        simp at hn2 h00
        subst hn2 h00; exact ⟨b, rfl⟩
  have ht1 : P.g.s.trs[1]? = some t1 := by rw [ht]; rfl
  have hTI := hC.pi.si.ts 1 t1 T1 ht1 (by rw [hT]; rfl)
  rw [hC.bl] at hTI
  have hk : t1.taken = t1.hd.len := by
    have := hTI.ok.k1
    unfold muT at hmu; rw [hl, hb] at hmu
    simp at hmu
    omega
  have hst : stT t1 = 3 := by unfold stT; rw [hl, hb, if_neg (by simp), if_neg (by simp), if_pos hk]
  have ho : openT t1 = false := open_st (by omega)
  obtain ⟨hV, hhd⟩ := hTI.bd hl hb
  have htag : t1.hd.tag = v := by rcases hV.2 with h | h; omega; exact h
  have htot : t1.hd.tot = totK p v := by have := hV.1.2; rw [htag, hp] at this; exact this
  have hkk : t1.kind = r.1 ∧ t1.fst = r.2.1 ∧ t1.lst = r.2.2 := by rw [← hr]; exact ⟨rfl, rfl, rfl⟩
  have hH : TI (KnH B) B P.g.s.win t1 T1 := by
    have := hC.pi.toH.si.ts 1 t1 T1 ht1 (by rw [hT]; rfl)
    rw [hC.bl] at this; exact this
  have hrd := (honest_round hB1 hH ho).dn hst
  exact ⟨t1, T1, ht1, hst, by rw [hhd, htag, htot, hkk.1, hkk.2.1, hkk.2.2], hT, by rw [hrd, hp, htag]⟩
end Go.Proofs.Ytjhihliciadipab

namespace Go.Proofs.Ytjhihliciadipab
open Go.RowKit

/-- The first transfer, by rounds. -/
structure B1 (B v : Int) (p : Nat) (j : Nat) (P : Pl) : Prop where
  ri : RI B v p (0, 0, 0) 0 j P
  a : A1 B v p (2 * j) P
theorem B1.at {B v : Int} {p j : Nat} {P : Pl} (h : B1 B v p j P) (q : Nat) (u : Vs) : B1 B v p j (P.at q u) := ⟨h.ri.at q u, ⟨h.a.pi.at q u, h.a.cn, h.a.cap, h.a.lt⟩⟩
theorem B1.step {B v : Int} {p j : Nat} {P : Pl} (h : B1 B v p j P) (hv : 1 ≤ v) (hv2 : v ≤ 99) (hp : p < 4) (pk1 : POk (nextPl P 0).1.g.s) (pk : POk (roundPl P v).g.s) : B1 B v p (j + 1) (roundPl P v) := by
  obtain ⟨t, ht, hpt, -⟩ := h.ri.tr
  exact ⟨h.ri.step (by omega) hv2 pk, (h.a.round h.ri.cl hv hv2 hp ht hpt pk1).up (by omega)⟩
theorem b1_start {B v : Int} {q : Nat} {l : List Int} (hB : (setK l).b = B) (hc : (setK l).c = 256) (p : Nat) (hp : p < 4) (pk : POk (newPl q (setK l)).g.s) (pk2 : POk (askPl (newPl q (setK l)) p ByteArray.empty).g.s) : B1 B v p 0 (askPl (newPl q (setK l)) p ByteArray.empty) := by
  have hr0 : readP ByteArray.empty = (0, 0, 0) := read4
  have hri := ri_start (v := v) hB p hp ByteArray.empty pk pk2
  rw [hr0] at hri
  refine ⟨hri, ?_⟩
  have hform : (askPl (newPl q (setK l)) p ByteArray.empty).g.s = askSt (newPl q (setK l)).g.s p ByteArray.empty := by unfold askPl; rw [if_pos (by show ([] : List Int).length < 8; simp)]
  have hlat : (newPl q (setK l)).g.s.lat.getD p (0, 0) = (0, 0) := by
    show ([(0, 0), (0, 0), (0, 0), (0, 0)] : List (Int × Int)).getD p (0, 0) = (0, 0)
    rcases p with _ | _ | _ | _ | p <;> first | rfl | omega
  have hK : ∀ S, KnOk (KnC B v p S) (newPl q (setK l)).g.s.blk := fun S => by show KnOk _ (setK l).b; rw [hB]; exact KnC_ok B v p S
  refine ⟨askPl_PI (new_PI _ q l) pk (hK _) p hp ByteArray.empty, ?_, ?_, Or.inl ?_⟩
  · rw [hform]
    unfold askSt
    exact CN_look (s := { (newPl q (setK l)).g.s with trs := _ }) ⟨by simp [newPl, newG, newS], by simp [newPl, newG, newS]⟩
  · rw [hform]
    unfold askSt
    rw [look_cap]; exact hc
  · obtain ⟨t, ht, -, -, -, -, -, hop⟩ := hri.tr
    have hs0 : (askPl (newPl q (setK l)) p ByteArray.empty).sent.length = 0 := by unfold askPl; split <;> rfl
    intro u hu
    rw [ht] at hu
    simp at hu; subst hu
    have hlk := look_hm { (newPl q (setK l)).g.s with trs := (newPl q (setK l)).g.s.trs ++ [askT p (readP ByteArray.empty) ((newPl q (setK l)).g.s.lat.getD p (0, 0))] }
    have e0 : askT p (readP ByteArray.empty) (0, 0) = rawT p (readP ByteArray.empty) := by rw [askT_eq, if_pos rfl]
    have h1 : (askPl (newPl q (setK l)) p ByteArray.empty).g.s.trs[0]? = some u := by rw [ht]; rfl
    rw [hform] at h1
    unfold askSt at h1
    rw [hlat, e0] at hlk h1
    obtain ⟨a, ha, r⟩ := hlk.old h1
    have ha2 : ([rawT p (readP ByteArray.empty)] : List Tr)[0]? = some a := ha
    simp at ha2
    subst ha2
    obtain ⟨x, y, e⟩ := r.1.e
    rw [e]; rfl
theorem B1.done {B v : Int} {p : Nat} {P : Pl} (h : B1 B v p 70 P) (hv : 1 ≤ v) : ∃ t T, P.g.s.trs = [t] ∧ stT t = 3 ∧ P.taken = [T] ∧ T = objK p v 0 (totK p v).toNat ∧ Full B v p P.g.s.cac ∧ P.g.s.lat.getD p (0, 0) = (v, totK p v) := by
  obtain ⟨t, T, hE⟩ := h.ri.done hv
  obtain ⟨t', ht', hpt, -⟩ := h.ri.tr
  have e : t' = t := by rw [hE.tr] at ht'; simp at ht'; exact ht'.symm
  subst e
  have hf := h.a.full rfl h.ri.cl.bl hE hpt
  refine ⟨t', T, hE.tr, hE.st, hE.tk, ?_, hf.1, hf.2⟩
  have := hE.T
  rw [hE.hd] at this
  exact this
theorem A2.at {B v : Int} {p : Nat} {r : Int × Int × Int} {n j : Nat} {T0 : ByteArray} {P : Pl} (h : A2 B v p r n j T0 P) (q : Nat) (u : Vs) : A2 B v p r n j T0 (P.at q u) := ⟨h.cl.at q u, h.nw, h.fu, h.tr, h.tk⟩
/-- The calls of a round of the second transfer. -/
def AgC (y : Nat) (w : World) (ix : Int) (F : World → Prop) : Prop :=
  Calls Try.prog 11 #[.pointer (some ⟨y, 0, none⟩), .int .i64 ix] w fun e w2 => e = .returned (.bool false) ∧
    Calls Try.prog 14 #[.pointer (some ⟨y, 0, none⟩), .int .i64 1, .int .i64 99] w2 fun e w3 => e = .returned (.tuple #[]) ∧ F w3
theorem again_calls (y : Nat) (col : Nat → Nat) (k : Nat) (B v : Int) (n : Nat) (Q : Pl) (V : Pv) (w : World) (ix : Int) (hix : I64 ix) (hL : PlAt w y col k Q V) (hC : Cl B v n Q) (hE : nextE Q.g.s = none) (hn : n ≤ 900000) (hk : 1 ≤ k) :
    AgC y w ix (fun w' => PlTo w w' y col k (takePl Q 1 99)) := by
  have hK : KnOk (KnV B v) Q.g.s.blk := by rw [hC.bl]; exact KnV_ok _ _
  have HN := next_any y col k _ _ Q V ix w hL hC.pi hK hix
  rw [next_none _ hC.aw hE] at HN
  simp only at HN
  refine HN.mono ?_
  rintro e w2 ⟨rfl, col2, V2, v2, hL2, hS2⟩
  refine ⟨rfl, (ytake_PI y col2 k _ _ _ V2 1 99 w2 hL2 (hC.pi.at Q.q v2) (by omega) ⟨by omega, by omega⟩ i64_99).mono ?_⟩
  rintro e w3 ⟨rfl, hT3⟩
  rw [lay_at, takePl_at] at hT3
  exact ⟨rfl, PlTo.trans hS2 (hT3.unat (take_q _ _ _))⟩
end Go.Proofs.Ytjhihliciadipab

namespace Go.Proofs.Ytjhihliciadipab
open Go.RowKit

theorem ints5 (w : World) (a b c d e : Int) (T : TypeId) : IntsAt (w.alloc (.cells #[.int .i64 a, .int .i64 b, .int .i64 c, .int .i64 d, .int .i64 e] T)) (.slice (some ⟨w.heap.size, 0, none⟩) 5 5) [a, b, c, d, e] := by
  refine ⟨_, 5, rfl, by simp, fun _ => ⟨_, rfl, fun j x hj => ?_⟩⟩
  have := news_new w [.int .i64 a, .int .i64 b, .int .i64 c, .int .i64 d, .int .i64 e] T j (.int .i64 x)
  refine this ?_
  rcases j with _ | _ | _ | _ | _ | j <;> simp at hj <;> first | (subst hj; rfl) | skip

set_option maxRecDepth 100000 in
set_option maxHeartbeats 8000000 in
theorem Again_walk (l : List Int) (x1 x2 x3 x4 x5 : Int) (v : Value) (w : World) (hv : IntsAt w v l) (hl : l.length ≤ 17592186044416) (hi : ∀ x ∈ l, I64 x) (h1 : I64 x1) (h2 : I64 x2) (h3 : I64 x3) (h4 : I64 x4) (h5 : I64 x5) :
    Calls Try.prog 4 #[v, .int .i64 x1, .int .i64 x2, .int .i64 x3, .int .i64 x4, .int .i64 x5] w fun e w' => e = .returned (.bool true) ∧ Ext w w' := by
  obtain ⟨f, hf⟩ : ∃ f : Int → Int, ∀ i : Nat, f i = numK l i := ⟨fun ix => numK l ix.toNat, fun i => by simp⟩
  have HN : Hid (∀ ix, 0 ≤ ix → ix ≤ 1000 → Calls Try.prog 8 #[v, .int .i64 ix] w fun e w' => e = .returned (.int .i64 (f ix)) ∧ w' = w) := fun ix h0 h9 => by
    obtain ⟨i, rfl⟩ := Int.eq_ofNat_of_zero_le h0
    rw [hf i]
    exact numK_any l v i w hv (by omega) (by omega)
  have hN : ∀ i : Nat, I64 (f i) := fun i => by
    rw [hf i]
    unfold numK
    rw [List.getD_eq_getElem?_getD]
    cases hx : l[i]? with
    | none => exact ⟨by simp, by simp⟩
    | some x => exact hi x (List.mem_of_getElem? hx)
  have hi5 : ∀ x ∈ [f 0, f 1, f 2, 256, f 4], I64 x := by
    intro x hx
    simp at hx
    rcases hx with rfl | rfl | rfl | rfl | rfl
    · exact hN 0
    · exact hN 1
    · exact hN 2
    · exact ⟨by omega, by omega⟩
    · exact hN 4
  obtain ⟨l5, hl5⟩ : ∃ l5 : List Int, l5 = [f 0, f 1, f 2, 256, f 4] := ⟨_, rfl⟩
  have HE0 := hide (Ext.new w (.cells #[.int .i64 (f 0), .int .i64 (f 1), .int .i64 (f 2), .int .i64 256, .int .i64 (f 4)] 3))
  have HB := begin_any l5 (.slice (some ⟨w.heap.size, 0, none⟩) 5 5) zCol 1 (w.alloc (.cells #[.int .i64 (f 0), .int .i64 (f 1), .int .i64 (f 2), .int .i64 256, .int .i64 (f 4)] 3)) (by rw [hl5]; exact ints5 w (f 0) (f 1) (f 2) 256 (f 4) _) (by rw [hl5]; simp) (by rw [hl5]; exact hi5)
  have hc5 : (setK l5).c = 256 := by rw [hl5]; rfl
  have hpb := pickK_bd x1 4 (by omega)
  have htb := pickK_bd x2 99 (by omega)
  have PK1 := hide (fun w' => pickK_any x1 4 w' h1 (by omega) (by omega))
  have PK2 := hide (fun w' => pickK_any x2 99 w' h2 (by omega) (by omega))
  have RG := hide (fun w' => ranges_any x3 x4 x5 w' h3 h4 h5)
  have hrl : (txt (rangeL x3 x4 x5)).size ≤ 100 := by rw [txt_size]; exact rangeL_len _ _ _
  have HEx := hide (fun n (hn : 0 ≤ n) (hn2 : n ≤ 1000) w' => expected_any x3 x4 x5 n w' h3 h4 h5 hn hn2)
  have HHd := hide (head_exp x3 x4 x5)
  obtain ⟨p, hp⟩ := Int.eq_ofNat_of_zero_le hpb.1
  rw [hp] at PK1 hpb
  generalize hc : pickK x2 99 = c at *
  generalize htx : txt (rangeL x3 x4 x5) = text at *
  have hB := setK_ok l5
  obtain ⟨B, hBe⟩ : ∃ B, B = (setK l5).b := ⟨_, rfl⟩
  have HPI0 := hide (new_PI (KnV B (1 + c)))
  clear hp hc htx hl5 hi5 hN hi hv hl hf
  go_enter Try.func4, Try.ntmps4
  go_upto_region 2 with (first | (go_at_call 8; refine (HN.out _ (by omega) (by omega)).mono ?_; rintro e wz ⟨rfl, hwz⟩; have hwz := hwz.symm; subst hwz) | (go_at_call 5; refine HB.mono ?_; rintro e w1 ⟨y, q, rfl, hL1, hE1⟩))
  generalize w.alloc (.cells #[.int .i64 (f 0), .int .i64 (f 1), .int .i64 (f 2), .int .i64 256, .int .i64 (f 4)] 3) = w0 at *
  have PK1' := PK1.out w1
  go_upto_region 3 with (go_at_call 9; refine PK1'.mono ?_; rintro e w2 ⟨rfl, hw2⟩; have hw2 := hw2.symm; subst hw2)
  have PK2' := PK2.out w1
  go_upto_region 4 with (go_at_call 9; refine PK2'.mono ?_; rintro e w2 ⟨rfl, hw2⟩; have hw2 := hw2.symm; subst hw2)
  have HA := yask_any y _ 1 _ newPv p ByteArray.empty w1 hL1 (HPI0.out q l5).ok (by omega) (by simp)
  have pk0 := (hL1.pg id).1.ok
  go_upto_region 5 with (go_at_call 10; refine HA.mono ?_; rintro e w2 ⟨rfl, hT2⟩)
  have HST : Hid (∃ P', B1 B (1 + c) p 0 P' ∧ PlTo w1 w2 y (colY w0 zCol y 1) 1 P') :=
    ⟨_, b1_start hBe.symm hc5 p (by omega) pk0 hT2.pk, hT2⟩
  have HE1 := hide hE1
  have hB1 := hB.f3
  have hB16 := hB.f4
  rw [← hBe] at hB1 hB16
  clear hL1 hT2 pk0 HA HB PK1 PK1' PK2 PK2' hE1 hB hBe hc5 HN HPI0
  go_wp2_with fail
  go_loopw [16] (fun i wr => ∃ m : Nat, m ≤ 70 ∧ i = .int .i64 m ∧ Hid (∃ P', B1 B (1 + c) p (70 - m) P' ∧ PlTo w1 wr y (colY w0 zCol y 1) 1 P')) (fun i _ => (intOf i).toNat)
  case atStart => exact ⟨70, by omega, rfl, HST.out⟩
  case round =>
    obtain ⟨m, hm, rfl, HP⟩ := hrel
    obtain ⟨Q0, hQ0, colQ, V, vq, hL, hS⟩ := HP.out
    have hRI := hQ0.at Q0.q vq
    obtain ⟨Q, hQ⟩ : ∃ Q, Q = Q0.lay vq := ⟨_, rfl⟩
    rw [← lay_at, ← hQ] at hRI
    rw [← hQ] at hL
    clear hQ0 hQ HP HST
    have hC := hRI.ri.cl
    have c29 : wr.cell? ⟨y, 29, none⟩ = some (.bool false) := by rw [← hC.pi.ok.bad]; exact hL.cEnd 5
    by_cases hm0 : 0 < m
    · obtain ⟨m', rfl⟩ : ∃ m', m = m' + 1 := ⟨m - 1, by omega⟩
      have hn1 : Q.paths.length = 1 := by obtain ⟨t, ht, -⟩ := hRI.ri.tr; rw [← hC.pi.ok.n1, ht]; rfl
      have hRC := round_calls y colQ 1 B (1 + c) _ Q V wr hL hC (by omega) (by omega) hn1 (by omega) (by omega)
      have hj : 70 - m' = 70 - (m' + 1) + 1 := by omega
      have HF : Hid (∀ w3, POk (nextPl Q 0).1.g.s → PlTo wr w3 y colQ 1 (roundPl Q (1 + c)) → ∃ P', B1 B (1 + c) p (70 - m') P' ∧ PlTo w1 w3 y (colY w0 zCol y 1) 1 P') := fun w3 a hT => by
        rw [hj]; exact ⟨_, hRI.step (by omega) (by omega) (by omega) a hT.pk, PlTo.trans hS hT⟩
      clear hL hS hRI hC
      rcases hRC with H1 | ⟨f, r, H1⟩
      · unfold RdIdle at H1
        go_upto_region 9 with (go_at_call 11; refine H1.mono ?_; rintro e w2 ⟨rfl, H2⟩)
        clear H1
        go_wp2_with fail
        refine H2.mono ?_
        rintro e w3 ⟨rfl, hpk, hT3⟩
        have HG : Hid (∃ P', B1 B (1 + c) p (70 - m') P' ∧ PlTo w1 w3 y (colY w0 zCol y 1) 1 P') := HF.out w3 hpk hT3
        clear HF hT3 H2
        go_wp2_with fail
        exact ⟨⟨m', by omega, by go_num, HG⟩, by simp [intOf]⟩
      · unfold RdSent at H1
        go_upto_region 9 with (go_at_call 11; refine H1.mono ?_; rintro e w2 ⟨rfl, hJ, H2⟩)
        obtain ⟨j0, j1, j2, j3, j4, hyl2⟩ := hJ
        obtain ⟨fp, ft, fo, ff, fl⟩ := f
        obtain ⟨rt, ro, rf, rb⟩ := r
        unfold feAgg fetAgg rpAgg repAgg at H2
        simp only at H2 j0 j1 j2 j3 j4
        clear H1 c29
        go_upto_region 11 with (first | (go_at_call 13; refine H2.mono ?_; rintro e w3 ⟨rfl, H3⟩) | (go_at_call 12; refine H3.mono ?_; rintro e w4 ⟨rfl, H4⟩))
        clear H2 H3 j0 j1 j2 j3 j4
        go_wp2_with fail
        refine H4.mono ?_
        rintro e w5 ⟨rfl, hpk, hT5⟩
        have HG : Hid (∃ P', B1 B (1 + c) p (70 - m') P' ∧ PlTo w1 w5 y (colY w0 zCol y 1) 1 P') := HF.out w5 hpk hT5
        clear H4 hT5 HF
        go_wp2_with fail
        exact ⟨⟨m', by omega, by go_num, HG⟩, by simp [intOf]⟩
    · obtain rfl : m = 0 := by omega
      obtain ⟨t, T0, ht, hst, hTk, hT0, hfu, hlat⟩ := hRI.done (by omega)
      have RG' := RG.out wr
      have HA := yask_any y _ 1 _ V p text wr hL hC.pi.ok (by omega) (by omega)
      have HF0 : Hid (∀ w3, PlTo wr w3 y colQ 1 (askPl Q p text) → ∃ P', A2 B (1 + c) p (readP text) (0 + 2 * (70 - 0)) 0 T0 P' ∧ PlTo w1 w3 y (colY w0 zCol y 1) 1 P') := fun w3 hT =>
        ⟨_, A2.start hC (by omega) (by omega) ht hst hTk hfu hlat text hT.pk, PlTo.trans hS hT⟩
      clear hL hS hC hRI ht hst hTk hfu hlat
      go_upto_region 13 with (go_at_call 15; refine RG'.mono ?_; rintro e wz ⟨rfl, hwz⟩; have hwz := hwz.symm; subst hwz)
      go_upto_region 14 with (go_at_call 10; refine HA.mono ?_; rintro e w3 ⟨rfl, hT3⟩)
      have HST2 : Hid (∃ P', A2 B (1 + c) p (readP text) (0 + 2 * (70 - 0)) 0 T0 P' ∧ PlTo w1 w3 y (colY w0 zCol y 1) 1 P') := HF0.out w3 hT3
      clear HF0 hT3 HA RG RG' c29
      go_wp2_with fail
      obtain ⟨wo, hwo⟩ : ∃ wo : World, wo = wr := ⟨_, rfl⟩
      clear hwo
      go_loopw [19] (fun i wx => ∃ m : Nat, m ≤ 70 ∧ i = .int .i64 m ∧ Hid (∃ P', A2 B (1 + c) p (readP text) (0 + 2 * (70 - 0)) (70 - m) T0 P' ∧ PlTo w1 wx y (colY w0 zCol y 1) 1 P')) (fun i _ => (intOf i).toNat)
      case atStart => exact ⟨70, by omega, rfl, HST2.out⟩
      case round =>
        obtain ⟨m, hm, rfl, HP⟩ := hrel
        obtain ⟨R0, hR0, colR, VR, vr, hL, hS⟩ := HP.out
        have hRA := hR0.at R0.q vr
        obtain ⟨R, hR⟩ : ∃ R, R = R0.lay vr := ⟨_, rfl⟩
        rw [← lay_at, ← hR] at hRA
        rw [← hR] at hL
        clear hR0 hR HP HST2
        have hC := hRA.cl
        have c29 : wr.cell? ⟨y, 29, none⟩ = some (.bool false) := by rw [← hC.pi.ok.bad]; exact hL.cEnd 5
        by_cases hm0 : 0 < m
        · obtain ⟨m', rfl⟩ : ∃ m', m = m' + 1 := ⟨m - 1, by omega⟩
          have H1 := again_calls y colR 1 B (1 + c) _ R VR wr ((m' + 1 : Nat) : Int) ⟨by omega, by omega⟩ hL hC (hRA.idle (by omega)).2 (by omega) (by omega)
          have hj : 70 - m' = 70 - (m' + 1) + 1 := by omega
          have HF : Hid (∀ w3, PlTo wr w3 y colR 1 (takePl R 1 99) → ∃ P', A2 B (1 + c) p (readP text) (0 + 2 * (70 - 0)) (70 - m') T0 P' ∧ PlTo w1 w3 y (colY w0 zCol y 1) 1 P') := fun w3 hT => by
            rw [hj]; exact ⟨_, hRA.step (by omega) hT.pk, PlTo.trans hS hT⟩
          clear hL hS hRA hC
          unfold AgC at H1
          go_upto_region 18 with (go_at_call 11; refine H1.mono ?_; rintro e w2 ⟨rfl, H2⟩)
          clear H1
          go_wp2_with fail
          refine H2.mono ?_
          rintro e w3 ⟨rfl, hT3⟩
          have HG : Hid (∃ P', A2 B (1 + c) p (readP text) (0 + 2 * (70 - 0)) (70 - m') T0 P' ∧ PlTo w1 w3 y (colY w0 zCol y 1) 1 P') := HF.out w3 hT3
          clear HF hT3 H2
          go_wp2_with fail
          first | exact ⟨⟨m', by omega, by go_num, HG⟩, by simp [intOf]⟩ | exact ⟨by (repeat apply Exists.intro); exact ⟨⟨m', by omega, by go_num, HG⟩, rfl⟩, by simp [intOf]⟩
        · obtain rfl : m = 0 := by omega
          obtain ⟨t1, T1, hE⟩ := hRA.done (by omega)
          have htt := totK_bd p (1 + c)
          have hEq := HHd.out (1 + c) (totK p (1 + c)) htt.1
          have hhd := hE.hd
          rw [hEq] at hhd
          have hTI := hC.pi.si.ts 1 t1 T1 hE.tr (by rw [hE.tk]; rfl)
          have o1 := hTI.ok.r0
          have o2 := hTI.ok.n0
          have o3 := hTI.ok.n1
          have hTT := hE.T
          rw [hhd] at o1 o2 o3 hTT
          simp only at o1 o2 o3 hTT
          have hEx := hide (HEx.out (totK p (1 + c)) htt.1 (by omega))
          have hst1 := hE.st
          have hts := hE.tr
          have hTk := hE.tk
          have HTt := hide (fun w' => totK_any p (1 + c) w' (by omega) (by omega) (by omega) (by omega))
          obtain ⟨O, hO⟩ : ∃ O : Int → Int → ByteArray, ∀ a n : Nat, O a n = objK p (1 + c) a n := ⟨fun a n => objK p (1 + c) a.toNat n.toNat, fun a n => by simp⟩
          have HOb : Hid (∀ a n w', 0 ≤ a → a ≤ 1000 → 0 ≤ n → n ≤ 1000 → Calls Try.prog 19 #[.int .i64 p, .int .i64 (1 + c), .int .i64 a, .int .i64 n] w' fun e w'' => e = .returned (.string (O a n)) ∧ Ext w' w'') := fun a n w' ha ha2 hn hn2 => by
            obtain ⟨a, rfl⟩ := Int.eq_ofNat_of_zero_le ha
            obtain ⟨n, rfl⟩ := Int.eq_ofNat_of_zero_le hn
            rw [hO a n]
            exact object_any p (1 + c) a n w' (by omega) (by omega) (by omega) (by omega) (by omega) (by omega)
          have hT0' : T0 = O 0 (totK p (1 + c)) := by
            have h9 := hO 0 (totK p (1 + c)).toNat
            rw [hT0, ← h9]
            congr 1
            omega
          have hT1' : T1 = O (expK x3 x4 x5 (totK p (1 + c))).2.1 (expK x3 x4 x5 (totK p (1 + c))).2.2 := by
            have h9 := hO (expK x3 x4 x5 (totK p (1 + c))).2.1.toNat (expK x3 x4 x5 (totK p (1 + c))).2.2.toNat
            rw [hTT, ← h9]
            congr 1 <;> omega
          obtain ⟨aK, capK, hvK, hgK⟩ := own_form (hL.kk id).1
          have hlK : R.taken.length = 2 := by rw [hTk]; rfl
          obtain ⟨gK, rfl⟩ := hgK (by omega)
          have HC : Hid (∀ w', Ext wr w' → w'.cell? ⟨y, 0, none⟩ = some (.pointer (some ⟨R.q, 0, none⟩)) ∧ w'.cell? ⟨y, 26, none⟩ = some (.slice (some ⟨gK, 0, none⟩) 2 capK) ∧ w'.cell? ⟨gK, 0, none⟩ = some (.string T0) ∧ w'.cell? ⟨gK, 1, none⟩ = some (.string T1) ∧ y < w'.heap.size) := by
            intro w' hE'
            have ho := (hL.kk id).1
            rw [hvK] at ho
            refine ⟨ext_cell hE' (hL.cSt 0 (by omega)), ext_cell hE' (by rw [← hlK, ← hvK]; exact hL.cEnd 2), ext_cell hE' ?_, ext_cell hE' ?_, Nat.lt_of_lt_of_le hL.lt hE'.size⟩
            · rw [ho.cellAt 0 (by omega)]; simp [hTk]
            · rw [ho.cellAt 1 (by omega)]; simp [hTk]
          have HSt := hide (fun w' (hE' : Ext wr w') => StateP_any R.q (1 : Nat) R.g w' ((hL.pg id).1.ext hE'))
          rw [ansT_yes (hasT_of hts) hts, hst1] at HSt
          simp only at HSt
          have HW := hide (Ext.trans' HE0.out (play_ext HE1.out hS))
          rw [hT0', hT1'] at HC
          generalize (expK x3 x4 x5 (totK p (1 + c))).1 = E1 at *
          generalize (expK x3 x4 x5 (totK p (1 + c))).2.1 = E2 at *
          generalize (expK x3 x4 x5 (totK p (1 + c))).2.2 = E3 at *
          generalize totK p (1 + c) = tot at *
          obtain ⟨a0, a26, aK0, aK1, hyl⟩ := HC.out wr (Below.refl _ _)
          have hTt4 := HTt.out wr
          have hEx4 := hEx.out wr
          have hSt4 := HSt.out wr (Below.refl _ _)
          clear hL hS hC hRA hE hTI hT0' hT1' hTT hT0 hhd hEq hvK hgK hlK hts hTk hst1 HEx HHd hO HE0 HE1
          go_upto_region 23 with (fail)
          go_upto_region 24 with (first | (go_at_call 17; refine hTt4.mono ?_; rintro e wz ⟨rfl, hwz⟩; have hwz := hwz.symm; subst hwz) | (go_at_call 16; refine hEx4.mono ?_; rintro e wz ⟨rfl, hwz⟩; have hwz := hwz.symm; subst hwz))
          go_upto_region 25 with (go_at_call 18; refine hSt4.mono ?_; rintro e w5 ⟨rfl, hE5⟩)
          clear a0 a26 aK0 aK1 hyl
          obtain ⟨a0, a26, aK0, aK1, hyl⟩ := HC.out w5 hE5
          have HX := hide hE5
          clear hE5 hTt4 hEx4 hSt4 HSt hEx
          go_region_held3 (fun w' => w'.cell? ⟨y, 26, none⟩ = some (.slice (some ⟨gK, 0, none⟩) 2 capK) ∧ w'.cell? ⟨gK, 0, none⟩ = some (.string (O 0 tot)) ∧ w'.cell? ⟨gK, 1, none⟩ = some (.string (O E2 E3))) (go_keep)
            ((first
              | (go_at_call 17
                 refine (HTt.out _).mono ?_
                 rintro e wz ⟨rfl, hwz⟩
                 have hwz := hwz.symm
                 subst hwz)
              | (go_at_call 19
                 refine (HOb.out _ _ _ (by omega) (by omega) (by omega) (by omega)).mono ?_
                 rintro e w8 ⟨rfl, hE8⟩
                 have HX : Hid (Ext wr w8) := (by first | exact Ext.trans' HX.out hE8.undrewN | exact Ext.trans' HX.out hE8.undrew | exact Ext.trans' HX.out hE8)
                 obtain ⟨d0, d26, dK0, dK1, hyl8⟩ := HC.out w8 HX.out)))
          all_goals go_wp2_with fail
          all_goals go_ret
          all_goals exact ⟨by simp, Ext.trans' HW.out HX.out⟩
end Go.Proofs.Ytjhihliciadipab
