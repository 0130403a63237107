import Derived.Test.YtjhihliciadipabGreatPcac
import Derived.Test.YtjhihliciadipabGreatPbind
import Derived.Test.YtjhihliciadipabGreatPnext
import Derived.Deep.RegionHeld3
set_option linter.unusedVariables false
set_option linter.unusedSimpArgs false
set_option linter.unnecessarySimpa false
namespace Go.Proofs.YtjhihliciadipabGreat
open Go.RowKit

theorem usedC_cons (x : Er × ByteArray) (l : List (Er × ByteArray)) : usedC (x :: l) = x.2.size + usedC l := by
  have key : ∀ (l : List (Er × ByteArray)) (a : Int), l.foldl (fun n x => n + (x.2.size : Int)) a = a + l.foldl (fun n x => n + (x.2.size : Int)) 0 := by
    intro l
    induction l with
    | nil => intro a; simp
    | cons y l ih => intro a; simp only [List.foldl_cons]; rw [ih (a + y.2.size), ih (0 + y.2.size)]; omega
  unfold usedC
  rw [List.foldl_cons, key]; omega
theorem usedC_erase (l : List (Er × ByteArray)) (i : Nat) (x : Er × ByteArray) (h : l[i]? = some x) : usedC (l.eraseIdx i) + x.2.size = usedC l := by
  induction l generalizing i with
  | nil => simp at h
  | cons a l ih =>
    cases i with
    | zero => simp at h; subst h; simp only [List.eraseIdx_cons_zero, usedC_cons]; omega
    | succ i =>
      have := ih i (by simpa using h)
      simp only [List.eraseIdx_cons_succ, usedC_cons]; omega
theorem useC_mem {l : List (Er × ByteArray)} {e : Er} : usedC (useC l e).2 = usedC l ∧ (∀ x ∈ (useC l e).2, x ∈ l) ∧ (useC l e).2.length = l.length ∧ ((useC l e).1 = ByteArray.empty ∨ ∃ x ∈ l, (useC l e).1 = x.2) := by
  cases h : l[findC l e]? with
  | none => unfold useC; rw [h]; exact ⟨rfl, fun x hx => hx, rfl, Or.inl rfl⟩
  | some x =>
    rw [useC_some h]
    have hx := List.mem_of_getElem? h
    refine ⟨?_, fun y hy => ?_, ?_, Or.inr ⟨x, hx, rfl⟩⟩
    · rw [usedC_snoc]; exact usedC_erase l _ x h
    · rcases List.mem_append.1 hy with h1 | h1
      · exact (List.eraseIdx_sublist ..).subset h1
      · simp at h1; subst h1; exact hx
    · have := (List.getElem?_eq_some_iff.1 h).1
      rw [List.length_append, List.length_eraseIdx, if_pos this]; simp; omega
theorem puse_any (q : Nat) (e : Er) (g : Pg) (w : World) (h : PgAt w q g) :
    Calls Tryz.prog 76 #[.pointer (some ⟨q, 29, none⟩), entAgg e] w fun r w' => r = .returned (.string (useC g.s.cac e).1) ∧ CPo w w' q g (useC g.s.cac e).2 := by
  refine (use_any' q e g w h.toPgW).mono ?_
  rintro r w' ⟨rfl, c, hP, hM⟩
  have hu := useC_mem (l := g.s.cac) (e := e)
  exact ⟨rfl, c, ⟨hP, ⟨fun x hx => h.cok.c1 x (hu.2.1 x hx), by show usedC (useC g.s.cac e).2 ≤ g.s.cap; rw [hu.1]; exact h.cok.cu⟩⟩, hM⟩

/-- The transfer number n has looked. -/
def lookN (s : Px) (n : Nat) (ct : List (Er × ByteArray) × Tr) : Px := { s with cac := ct.1, trs := s.trs.set n ct.2 }
theorem plookTo_same (s : Px) (n : Nat) : (plookTo s n).mir = s.mir ∧ (plookTo s n).blk = s.blk ∧ (plookTo s n).win = s.win ∧ (plookTo s n).cap = s.cap ∧ (plookTo s n).tri = s.tri ∧ (plookTo s n).lat = s.lat ∧ (plookTo s n).busy = s.busy ∧ (plookTo s n).ers = s.ers ∧ (plookTo s n).trs.length = s.trs.length := by
  induction n with
  | zero => exact ⟨rfl, rfl, rfl, rfl, rfl, rfl, rfl, rfl, rfl⟩
  | succ n ih =>
    obtain ⟨h1, h2, h3, h4, h5, h6, h7, h8, h9⟩ := ih
    simp only [plookTo]
    split
    · exact ⟨h1, h2, h3, h4, h5, h6, h7, h8, by simpa using h9⟩
    · exact ⟨h1, h2, h3, h4, h5, h6, h7, h8, h9⟩
theorem plookTo_succ (s : Px) (n : Nat) (t : Tr) (h : (plookTo s n).trs[n]? = some t) : plookTo s (n + 1) = lookN (plookTo s n) n (plookT s.blk s.win (plookTo s n).cac t) := by
  rw [plookTo, h]; rfl
theorem plookT_snoc (c : List (Er × ByteArray)) (t : Tr) (l : List Er) (m : Nat) (e : Er) (h : l[m]? = some e) : (l.take (m + 1)).foldl plookE (c, t) = plookE ((l.take m).foldl plookE (c, t)) e := by
  obtain ⟨hm, he⟩ := List.getElem?_eq_some_iff.1 h
  rw [List.take_succ_eq_append_getElem hm, List.foldl_append, he]; rfl
theorem pm_own {w w' : World} {q : Nat} {g g' : Pg} {base : Nat} {e : TypeId} {sz : Nat} {v : Value} {n : Nat} {xs : List Value} (hM : PMvs w w' q g g') (h : w.ownsRow base e sz v n xs)
    (hd : ∀ x, v.ownBlock = some x → ¬ PFoot q g x) : w'.ownsRow base e sz v n xs ∧ (∀ x, v.ownBlock = some x → ¬ PFoot q g' x) :=
  ⟨own_chg h hM.chg hd, fun x hx hf => by
    rcases hM.foot x hf with h1 | h1
    · exact hd x hx h1
    · have := (h.lt x hx).2; omega⟩
theorem holdB_ok {t : Tr} (ok : TrOk t) (k : Int) (body : ByteArray) (hb : body.size ≤ 16) : TrOk (holdT t k body) :=
  ⟨ok.p0, ok.p1, ok.f0, ok.f1, ok.l0, ok.l1, by simp [holdT, ok.hl], fun b hx => by
    rcases List.mem_or_eq_of_mem_set hx with h1 | rfl
    · exact ok.hb b h1
    · exact hb, ok.r0, ok.n0, ok.n1, ok.k0, ok.k1, ok.a0, ok.a1, ok.a2, ok.sh, ok.op, ok.o0, ok.o1⟩
theorem wantedL_bd {t : Tr} {s : Px} (ok : TrOk t) (hf : Fair s) : ∀ e ∈ wantedL s.blk s.win t, 0 ≤ e.blk ∧ e.blk ≤ 1000 ∧ e.path = t.path ∧ e.tag = t.hd.tag ∧ e.tot = t.hd.tot := by
  intro e he
  have hb := winT_bd ok hf
  unfold wantedL at he
  simp only [List.mem_map, List.mem_filter, List.mem_range] at he
  obtain ⟨j, ⟨h1, -⟩, rfl⟩ := he
  refine ⟨?_, ?_, rfl, rfl, rfl⟩
  · show 0 ≤ (winT s.blk s.win t).1 + (j : Int); omega
  · show (winT s.blk s.win t).1 + (j : Int) ≤ 1000; omega
theorem lookN_again (s : Px) (n : Nat) (ct ct' : List (Er × ByteArray) × Tr) : lookN (lookN s n ct) n ct' = lookN s n ct' := by unfold lookN; simp
theorem lookN_self (s : Px) (n : Nat) (t : Tr) (h : s.trs[n]? = some t) : lookN s n (s.cac, t) = s := by
  unfold lookN
  have : s.trs.set n t = s.trs := by
    apply List.ext_getElem?
    intro j
    rw [List.getElem?_set]
    split
    · rename_i e; subst e; rw [h]; simp [(List.getElem?_eq_some_iff.1 h).1]
    · rfl
  rw [this]

theorem PTo.trans {w w1 w2 : World} {q : Nat} {g : Pg} {s1 s2 : Px} {v1 : Vs} (h1 : PMvs w w1 q g ⟨s1, v1⟩) (h2 : PTo w1 w2 q ⟨s1, v1⟩ s2) : PTo w w2 q g s2 := by
  obtain ⟨v2, a, b⟩ := h2; exact ⟨v2, a, h1.trans b⟩
structure LkI (w wr : World) (q : Nat) (g : Pg) (s' : Px) (v1 : Value) (l : List Er) : Prop where
  ex : ∃ vs, PgAt wr q ⟨s', vs⟩ ∧ PMvs w wr q g ⟨s', vs⟩ ∧ ∀ x, v1.ownBlock = some x → ¬ PFoot q ⟨s', vs⟩ x
  own : wr.ownsRow 0 94 4 v1 l.length (l.map perV).flatten

set_option maxRecDepth 100000 in
set_option maxHeartbeats 4000000 in
theorem plook_any (q : Nat) (g : Pg) (w : World) (h : PgAt w q g) :
    Calls Tryz.prog 44 #[.pointer (some ⟨q, 0, none⟩)] w fun r w' => r = .returned (.tuple #[]) ∧ PTo w w' q g (plookS g.s) := by
  have hn8 := h.ok.nt
  have hf := h.ok.fair
  have HLS : Hid (plookS g.s = plookTo g.s g.s.trs.length) := rfl
  generalize plookS g.s = res at *
  go_enter Tryz.func44, Tryz.ntmps44
  go_wp2_with fail
  go_loopw [2] (fun v wr => ∃ n : Nat, n ≤ g.s.trs.length ∧ v = .int .i64 n ∧ PTo w wr q g (plookTo g.s n)) (fun v _ => g.s.trs.length - (intOf v).toNat)
  case atStart => exact ⟨0, by omega, rfl, PTo.refl h⟩
  case round =>
    obtain ⟨n, hn, rfl, vs, hP, hM⟩ := hrel
    obtain ⟨-, eB, eW, -, -, -, -, -, eL⟩ := plookTo_same g.s n
    have c13 : wr.cell? ⟨q, 13, none⟩ = some vs.t := hP.cV
    obtain ⟨aT, capT, hT, hT0⟩ := own_form hP.ts
    simp only at hT
    rw [eL] at hT hT0
    rw [hT] at c13
    by_cases hlt : n < g.s.trs.length
    · obtain ⟨t, ht⟩ : ∃ t, (plookTo g.s n).trs[n]? = some t := ⟨_, List.getElem?_eq_getElem (by omega)⟩
      have HSu := hide (plookTo_succ g.s n t ht)
      have HTn := hide ht
      obtain ⟨b, cap', hT', hTr, hbq⟩ := hP.row ht
      simp only at hT'
      obtain ⟨b2, rfl⟩ := hT0 (by omega)
      have hbb : b = b2 := by have := hT.symm.trans hT'; simp at this; exact this.1.symm
      subst hbb
      have ok := hP.ok.ts t (List.mem_of_getElem? ht)
      have hf' : Fair (plookTo g.s n) := hP.ok.fair
      have HW := hide (wanted_any b (n * 18) t (plookTo g.s n))
      have hl4 := wantedL_len ok hf'
      have HWB := hide (wantedL_bd ok hf')
      rw [eB, eW] at *
      have HLT : Hid (plookT g.s.blk g.s.win (plookTo g.s n).cac t = (wantedL g.s.blk g.s.win t).foldl plookE ((plookTo g.s n).cac, t)) := rfl
      generalize plookT g.s.blk g.s.win (plookTo g.s n).cac t = fin at *
      generalize wantedL g.s.blk g.s.win t = l at *
      generalize plookTo g.s n = sn at *
      obtain ⟨m0, m1, m2, m3, m4⟩ := hP.setC
      simp only at m0 m1 m2 m3 m4
      have hlt' : (n : Int) < g.s.trs.length := by omega
      rw [setAgg_eq] at HW
      clear ht hT' hT0
      have HT1 := hide hT
      clear hT
      have HM := hide hM
      have hPl : ∀ x, PFoot q ⟨sn, vs⟩ x → x < wr.heap.size := hP.lt
      have HPx := hide hP
      clear hM
      go_wp2_with fail
      go_cut [3] (fun v wx => ∃ a1 cap1, v = .slice a1 l.length cap1 ∧ Hid (LkI w wx q g sn (.slice a1 l.length cap1) l) ∧ True)
      case first =>
        go_region_held3 (fun w' => w'.cell? ⟨q, 13, none⟩ = some (.slice (some ⟨b, 0, none⟩) g.s.trs.length capT) ∧ w'.cell? ⟨q, 0, none⟩ = some (.int .i64 sn.mir) ∧ w'.cell? ⟨q, 1, none⟩ = some (.int .i64 sn.blk) ∧ w'.cell? ⟨q, 2, none⟩ = some (.int .i64 sn.win) ∧ w'.cell? ⟨q, 3, none⟩ = some (.int .i64 sn.cap) ∧ w'.cell? ⟨q, 4, none⟩ = some (.int .i64 sn.tri)) (go_keep)
          ((go_at_call 75
            refine (HW.out _ (hTr.ext (Below.drew (Below.refl _ _))) ok hf').mono ?_
            rintro r w4 ⟨⟨v4, rfl, ho4⟩, hE4⟩
            have m0' := ext_cell hE4.undrew m0
            have m1' := ext_cell hE4.undrew m1
            have m2' := ext_cell hE4.undrew m2
            have m3' := ext_cell hE4.undrew m3
            have m4' := ext_cell hE4.undrew m4
            have c13' := ext_cell hE4.undrew c13
            obtain ⟨a4, cap4, rfl, hg4⟩ := own_form ho4))
        all_goals go_wp2_with fail
        all_goals go_meet
        all_goals exact ⟨_, _, rfl, ⟨⟨vs, HPx.out.ext hE4.undrew, HM.out.ext hE4.undrew, fun x hx hf => by have h5 := hPl x hf; have h6 := (ho4.lt x hx).1; simp at h6; omega⟩, own_base ho4 (Nat.zero_le _)⟩, trivial⟩
      case rest =>
        obtain ⟨a1, cap1, rfl, HI, -⟩ := hcut
        have hg1 : 0 < l.length → ∃ g, a1 = some ⟨g, 0, none⟩ := by
          obtain ⟨a2, cap2, he, hg2⟩ := own_form HI.out.own
          simp at he; obtain ⟨rfl, -⟩ := he; exact hg2
        clear HW m0 m1 m2 m3 m4 c13 hP hTr
        generalize wc = w1 at *
        go_wp2_with fail
        go_loopw [4] (fun i wr2 => ∃ m : Nat, m ≤ l.length ∧ i = .int .i64 m ∧ Hid (LkI w wr2 q g (lookN sn n ((l.take m).foldl plookE (sn.cac, t))) (.slice a1 l.length cap1) l)) (fun i _ => l.length - (intOf i).toNat)
        case atStart => exact ⟨0, Nat.zero_le _, rfl, by show LkI _ _ _ _ _ _ _; rw [List.take_zero, List.foldl_nil, lookN_self sn n t HTn.out]; exact HI.out⟩
        case round =>
          obtain ⟨m, hm, rfl, HJ⟩ := hrel
          by_cases hlt3 : m < l.length
          · obtain ⟨g1, rfl⟩ := hg1 (by omega)
            obtain ⟨e, he⟩ : ∃ e, l[m]? = some e := ⟨_, List.getElem?_eq_getElem hlt3⟩
            have HSn := hide (plookT_snoc sn.cac t l m e he)
            obtain ⟨heb0, heb1, -⟩ := HWB.out e (List.mem_of_getElem? he)
            generalize (l.take m).foldl plookE (sn.cac, t) = ct at *
            obtain ⟨c, tm⟩ := ct
            obtain ⟨⟨vs2, hP2, hM2, hnf⟩, ho⟩ := HJ.out
            obtain ⟨e0, e1, e2, e3⟩ := ers_own ho rfl he
            have HU : Hid (∀ w, PgAt w q ⟨lookN sn n (c, tm), vs2⟩ → Calls Tryz.prog 76 #[.pointer (some ⟨q, 29, none⟩), entAgg e] w fun r w' => r = .returned (.string (useC c e).1) ∧ CPo w w' q ⟨lookN sn n (c, tm), vs2⟩ (useC c e).2) := puse_any q e ⟨lookN sn n (c, tm), vs2⟩
            have HEn := hide (entry_any e)
            have HPE : Hid (plookE (c, tm) e = ((useC c e).2, if (useC c e).1.toList.isEmpty then tm else holdT tm e.blk (useC c e).1)) := rfl
            have HUB : Hid ((useC c e).1.size ≤ 16) := by
              rcases (useC_mem (l := c) (e := e)).2.2.2 with h5 | ⟨x, hx, h5⟩
              · show _ ≤ _; rw [h5]; simp
              · show _ ≤ _; rw [h5]; exact hP2.ok.cb x hx
            generalize (useC c e).1 = body at *
            generalize (useC c e).2 = c' at *
            rw [erAgg_eq] at HEn
            rw [entAgg_eq] at HEn HU
            have HE := hide he
            have hlt3' : (m : Int) < l.length := by omega
            have hg1l := World.block_lt_of_cell? wr _ e0
            clear he hg1 HJ
            go_wp2_with fail
            go_cut [5] (fun v wx => v = .string body ∧ Hid (LkI w wx q g (lookN sn n (c', tm)) (.slice (some ⟨g1, 0, none⟩) l.length cap1) l))
            case first =>
              go_region_held3 (fun w' => w'.cell? ⟨g1, m * 4, none⟩ = some (.int .i64 e.path) ∧ w'.cell? ⟨g1, m * 4 + 1, none⟩ = some (.int .i64 e.tag) ∧ w'.cell? ⟨g1, m * 4 + 2, none⟩ = some (.int .i64 e.tot) ∧ w'.cell? ⟨g1, m * 4 + 3, none⟩ = some (.int .i64 e.blk)) (go_keep)
                ((first
                  | (go_at_call 77
                     refine (HEn.out _).mono ?_
                     rintro r w4 ⟨rfl, hE4⟩
                     have e0' := ext_cell hE4.undrew e0
                     have e1' := ext_cell hE4.undrew e1
                     have e2' := ext_cell hE4.undrew e2
                     have e3' := ext_cell hE4.undrew e3)
                  | (go_at_call 76
                     refine (HU.out _ (hP2.ext hE4.undrew)).mono ?_
                     rintro r w5 ⟨rfl, c5, hP5, hM5⟩
                     have ho5 := pm_own hM5 (own_ext ho hE4.undrew) hnf
                     obtain ⟨f0, f1, f2, f3⟩ := ers_own ho5.1 rfl HE.out)))
              all_goals go_wp2_with fail
              all_goals go_meet
              all_goals exact ⟨rfl, ⟨⟨_, hP5, (hM2.ext hE4.undrew).trans hM5, ho5.2⟩, ho5.1⟩⟩
            case rest =>
              obtain ⟨rfl, HK⟩ := hcut
              clear e0 e1 e2 e3 HU HEn hP2 hM2 hnf ho hg1l
              generalize wc = w5 at *
              cases hem : body.toList.isEmpty
              · have HS2 : Hid ((l.take (m + 1)).foldl plookE (sn.cac, t) = (c', holdT tm e.blk body)) := by show _ = _; rw [HSn.out, HPE.out, hem]; rfl
                obtain ⟨⟨vs3, hP3, hM3, hnf3⟩, ho3⟩ := HK.out
                have htm : (lookN sn n (c', tm)).trs[n]? = some tm := by show (sn.trs.set n tm)[n]? = _; simp [(List.getElem?_eq_some_iff.1 HTn.out).1]
                obtain ⟨b3, cap3, hT3, hTr3, hbq3⟩ := hP3.row htm
                simp only at hT3
                have hln : (lookN sn n (c', tm)).trs.length = g.s.trs.length := by show (sn.trs.set n tm).length = _; rw [List.length_set]; exact eL
                have c13 : w5.cell? ⟨q, 13, none⟩ = some (.slice (some ⟨b3, 0, none⟩) g.s.trs.length cap3) := by rw [← hln, ← hT3]; exact hP3.cV
                have okm : TrOk tm := hP3.ok.ts tm (List.mem_of_getElem? htm)
                obtain ⟨e0, e1, e2, e3⟩ := ers_own ho3 rfl HE.out
                have HH := hide (hold_any b3 (n * 18) tm e.blk body)
                have HT3 := hide hT3
                have HTM := hide htm
                have HAg : Hid ({ lookN sn n (c', tm) with trs := (lookN sn n (c', tm)).trs.set n (holdT tm e.blk body) } = lookN sn n (c', holdT tm e.blk body)) := by show _ = _; unfold lookN; simp
                have hg1b : g1 ≠ b3 := fun e => hnf3 g1 rfl (Or.inr (Or.inl (by rw [hT3, e]; rfl)))
                clear hT3 htm HK
                go_wp2_with fail
                go_region_held3 (fun w' => w'.cell? ⟨q, 13, none⟩ = some (.slice (some ⟨b3, 0, none⟩) g.s.trs.length cap3) ∧ w'.cell? ⟨g1, m * 4 + 3, none⟩ = some (.int .i64 e.blk)) (go_keep)
                  ((go_at_call 78
                    refine (HH.out _ (hTr3.ext (Below.drew (Below.refl _ _))) heb0 heb1).mono ?_
                    rintro r w6 ⟨rfl, hT6⟩
                    have e3' := chg_cell hT6.chg (show w5.drew.cell? ⟨g1, m * 4 + 3, none⟩ = _ from e3) hg1b
                    have c13' := chg_cell hT6.chg (show w5.drew.cell? ⟨q, 13, none⟩ = _ from c13) (fun e => hbq3 e.symm)))
                all_goals go_wp2_with fail
                all_goals
                  have hnew := hP3.upd HTM.out HT3.out ((TrTo.ext0 hTr3 (Below.drew (Below.refl _ _))).trans hT6) (holdB_ok okm e.blk body HUB.out)
                  have hpo := pm_own hnew.2 ho3 hnf3
                  have hP7 := hnew.1
                  have hM7 := hM3.trans hnew.2
                  have hx7 := hpo.2
                  simp only [HAg.out] at hP7 hM7 hx7
                  exact ⟨⟨m + 1, by omega, by go_num, by show LkI _ _ _ _ _ _ _; rw [HS2.out]; exact ⟨⟨_, hP7, hM7, hx7⟩, hpo.1⟩⟩, by simp [intOf]; omega⟩
              · have HS2 : Hid ((l.take (m + 1)).foldl plookE (sn.cac, t) = (c', tm)) := by show _ = _; rw [HSn.out, HPE.out, hem]; rfl
                go_wp2_with fail
                exact ⟨⟨m + 1, by omega, by go_num, by show LkI _ _ _ _ _ _ _; rw [HS2.out]; exact HK.out⟩, by simp [intOf]; omega⟩
          · have HEnd : Hid (lookN sn n ((l.take m).foldl plookE (sn.cac, t)) = plookTo g.s (n + 1)) := by
              show _ = _
              rw [HSu.out, HLT.out, List.take_of_length_le (by omega)]
            obtain ⟨⟨vs2, hP2, hM2, -⟩, -⟩ := HJ.out
            rw [HEnd.out] at hP2 hM2
            clear hg1
            go_wp2_with fail
            exact ⟨⟨n + 1, by omega, by go_num, vs2, hP2, hM2⟩, by simp [intOf]; omega⟩
    · have HEnd : Hid (res = plookTo g.s n) := by show _ = _; rw [HLS.out]; congr 1; omega
      clear hT0 hT
      go_wp2_with fail
      go_end0
      exact ⟨rfl, by rw [HEnd.out]; exact ⟨vs, hP, hM⟩⟩
end Go.Proofs.YtjhihliciadipabGreat
