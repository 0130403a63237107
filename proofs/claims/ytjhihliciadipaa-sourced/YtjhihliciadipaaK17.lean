import Derived.Test.YtjhihliciadipaaK16
set_option linter.unusedVariables false
set_option linter.unusedSimpArgs false
set_option linter.unnecessarySimpa false
namespace Go.Proofs.Ytjhihliciadipaa
open Go.RowKit

theorem PI.mono {K K' : Kn} {n n' : Nat} {P : Pl} (h : PI K n P) (hn : n ≤ n') (hD : ∀ e b, K.D e b → K'.D e b) (hV : ∀ p tag tot, K.V p tag tot → K'.V p tag tot) : PI K' n' P :=
  ⟨h.ok, h.j, h.si.mono hD hV, h.jo, h.nj, Nat.le_trans h.sn hn, Nat.le_trans h.dn hn, h.sd, Nat.le_trans h.an (Nat.mul_le_mul_left _ hn), fun i e a b => (h.ej i e a b).imp id (fun x => ⟨hV _ _ _ x.1, x.2⟩)⟩
theorem PI.up {K : Kn} {n n' : Nat} {P : Pl} (h : PI K n P) (hn : n ≤ n') : PI K n' P := h.mono hn (fun _ _ x => x) (fun _ _ _ x => x)
theorem PI.taken_le {K : Kn} {n : Nat} {P : Pl} (h : PI K n P) : ∀ x ∈ P.taken, x.size ≤ 1000000 := by
  intro x hx
  obtain ⟨i, hi⟩ := List.getElem?_of_mem hx
  have hil := (List.getElem?_eq_some_iff.1 hi).1
  obtain ⟨t, ht⟩ : ∃ t, P.g.s.trs[i]? = some t := ⟨_, List.getElem?_eq_getElem (by rw [← h.si.n]; exact hil)⟩
  have hT := h.si.ts i t x ht hi
  have a := hT.tz
  have b := hT.ok.k1
  have c := hT.ok.n1
  have d := hT.ok.r0
  omega
theorem PlJ.same {P P' : Pl} (h : PlJ P) (hS : SameJ P.g.s P'.g.s) (e1 : P'.st = P.st) (e2 : P'.away = P.away) (e3 : P'.jobs = P.jobs) (e4 : P'.paths = P.paths) : PlJ P' := by
  obtain ⟨a1, a2, a3, a4, a5⟩ := hS.a
  refine ⟨?_, by rw [e2, hS.b]; exact h.aw, fun i e hb he => ?_, by rw [e4, hS.p]; exact h.pt⟩
  · rw [e1, a1, a2, a3, a4, a5]; exact h.st
  · rw [hS.b] at hb; rw [hS.e] at he; rw [e3, a2]; exact h.jb i e hb he
theorem ask_path (p : Nat) (r : Int × Int × Int) (v : Int × Int) : (askT p r v).path = p := by rw [askT_eq]; split <;> rfl
theorem same_len {s s' : Px} (h : SameJ s s') : s'.trs.length = s.trs.length := by
  have := congrArg List.length h.p
  simpa using this
theorem askPl_PI {K : Kn} {n : Nat} {P : Pl} (h : PI K n P) (pk : POk P.g.s) (hK : KnOk K P.g.s.blk) (p : Nat) (hp : p < 4) (b : ByteArray) : PI K n (askPl P p b) := by
  unfold askPl
  split
  · rename_i h8
    have hS := same_look { P.g.s with trs := P.g.s.trs ++ [askT p (readP b) (P.g.s.lat.getD p (0, 0))] }
    obtain ⟨a1, a2, a3, a4, a5⟩ := hS.a
    have hl := same_len hS
    refine ⟨⟨h.ok.bad, ?_, by simp [h.ok.n2], by simp [h.ok.n3], by simp only [List.length_append, List.length_cons, List.length_nil]; omega⟩, ⟨?_, ?_, fun i e hb he => ?_, ?_⟩, SI_ask h.si hK pk p hp b, h.jo, h.nj, h.sn, h.dn, h.sd, h.an, fun i e hb he => ?_⟩
    · show (plookS _).trs.length = _
      rw [hl]; simp [h.ok.n1]
    · show P.st.m = (plookS _).mir ∧ P.st.b = (plookS _).blk ∧ P.st.wi = (plookS _).win ∧ P.st.c = (plookS _).cap ∧ P.st.t = (plookS _).tri
      rw [a1, a2, a3, a4, a5]; exact h.j.st
    · show P.away = (plookS _).busy
      rw [hS.b]; exact h.j.aw
    · have hb' : (plookS { P.g.s with trs := P.g.s.trs ++ [askT p (readP b) (P.g.s.lat.getD p (0, 0))] }).busy[i]? = some true := hb
      have he' : (plookS { P.g.s with trs := P.g.s.trs ++ [askT p (readP b) (P.g.s.lat.getD p (0, 0))] }).ers[i]? = some e := he
      rw [hS.b] at hb'; rw [hS.e] at he'
      show P.jobs[i]? = some (feF (fetchE (plookS _).blk e))
      rw [a2]; exact h.j.jb i e hb' he'
    · show P.paths ++ [(p : Int)] = (plookS _).trs.map Tr.path
      rw [hS.p, List.map_append, ← h.j.pt]; simp [ask_path]
    · have hb' : (plookS { P.g.s with trs := P.g.s.trs ++ [askT p (readP b) (P.g.s.lat.getD p (0, 0))] }).busy[i]? = some true := hb
      have he' : (plookS { P.g.s with trs := P.g.s.trs ++ [askT p (readP b) (P.g.s.lat.getD p (0, 0))] }).ers[i]? = some e := he
      rw [hS.b] at hb'; rw [hS.e] at he'
      show e.tag = 0 ∧ e.tot = 0 ∧ e.blk = 0 ∨ K.V e.path e.tag e.tot ∧ e.blk * (plookS _).blk < e.tot
      rw [a2]; exact h.ej i e hb' he'
  · exact h
theorem ptakeS_yes {s : Px} {i : Nat} {t : Tr} {n : Int} (ht : s.trs[i]? = some t) (hn : 0 ≤ n) (ho : openT t = false) : ptakeS s i n = plookS (setT s i (takeT s.blk s.win n (pshowT t)).2) := by
  unfold ptakeS
  rw [Int.toNat_natCast, ht]
  simp only
  rw [hasT_of ht, if_neg (by simp), if_neg (by omega), ho, if_neg (by simp)]
theorem same_PI {K : Kn} {n n' : Nat} {P : Pl} (h : PI K n P) (hn : n ≤ n') {s' : Px} {Tk : List ByteArray} {A : ByteArray} (hS : SameJ P.g.s s') (hI : SI K s' Tk) (hl : Tk.length = P.taken.length) (hA : A.size ≤ 101 * n') :
    PI K n' { P with g := ⟨s', P.g.v⟩, taken := Tk, ans := A } := by
  have hup := h.up hn
  refine ⟨⟨h.ok.bad, by show s'.trs.length = _; rw [same_len hS]; exact h.ok.n1, h.ok.n2, by show Tk.length = _; rw [hl]; exact h.ok.n3, h.ok.n8⟩, h.j.same (P' := { P with g := ⟨s', P.g.v⟩, taken := Tk, ans := A }) hS rfl rfl rfl rfl, hI, h.jo, h.nj, hup.sn, hup.dn, h.sd, hA, fun j e hb he => ?_⟩
  have hb' : s'.busy[j]? = some true := hb
  have he' : s'.ers[j]? = some e := he
  rw [hS.b] at hb'; rw [hS.e] at he'
  show e.tag = 0 ∧ e.tot = 0 ∧ e.blk = 0 ∨ K.V e.path e.tag e.tot ∧ e.blk * s'.blk < e.tot
  rw [hS.a.2.1]; exact h.ej j e hb' he'
theorem takePl_PI {K : Kn} {n : Nat} {P : Pl} (h : PI K n P) (hK : KnOk K P.g.s.blk) (ix c : Int) : PI K (n + 1) (takePl P ix c) := by
  have hup := h.up (Nat.le_succ n)
  unfold takePl
  split
  · exact hup
  · rename_i h0
    split
    · rename_i t ht
      split
      · exact hup
      · rename_i hst
        have ho := open_st hst
        generalize (pickK ix P.paths.length).toNat = i at *
        have hc := (pickK_bd c 100 (by omega))
        generalize pickK c 100 = d at *
        have hil := (List.getElem?_eq_some_iff.1 ht).1
        obtain ⟨T, hT⟩ : ∃ T, P.taken[i]? = some T := ⟨_, List.getElem?_eq_getElem (by rw [h.si.n]; exact hil)⟩
        have hTI := h.si.ts i t T ht hT
        have hsz := takeT_size (s := P.g.s) (pshowT_ok hTI.ok ho) h.si.fair d hc.1
        have hg : P.taken.getD i ByteArray.empty = T := by simp [hT]
        unfold tookPl
        rw [takeA_yes ht hc.1 ho, ptakeS_yes ht hc.1 ho, hg]
        simp only
        have hS : SameJ P.g.s (plookS (setT P.g.s i (takeT P.g.s.blk P.g.s.win d (pshowT t)).2)) := by
          refine SameJ.trans ?_ (same_look _)
          have hp : (takeT P.g.s.blk P.g.s.win d (pshowT t)).2.path = t.path := by rw [takeT_path]; rfl
          exact same_setT P.g.s i t _ ht hp
        have hI := SI_take h.si hK i t T d ht hT ho hc.1
        generalize plookS (setT P.g.s i (takeT P.g.s.blk P.g.s.win d (pshowT t)).2) = s' at *
        generalize (takeT P.g.s.blk P.g.s.win d (pshowT t)).1 = body at *
        refine same_PI h (Nat.le_succ n) hS hI (by simp) ?_
        have := h.an
        rw [app_size, app_size, show slash.size = 1 from rfl]; omega
    · exact hup
/-- A mirror comes back: what its answer brings about is some s'. -/
theorem back_PI {K : Kn} {n : Nat} {P : Pl} (h : PI K n P) (m : Nat) (s' : Px) (r : List Rp) (d : List Int) (hr : r.length = d.length) (hrn : r.length ≤ n + 1) (hS : SameJ (freeS P.g.s m) s') (hI : SI K s' P.taken) :
    PI K (n + 1) { P with away := P.away.set m false, sent := r, dst := d, g := ⟨s', P.g.v⟩ } := by
  have hup := h.up (Nat.le_succ n)
  obtain ⟨a1, a2, a3, a4, a5⟩ := hS.a
  have old : ∀ (i : Nat) e, s'.busy[i]? = some true → s'.ers[i]? = some e → P.g.s.busy[i]? = some true ∧ P.g.s.ers[i]? = some e := by
    intro i e hb he
    rw [hS.b] at hb; rw [hS.e] at he
    have hb2 : (P.g.s.busy.set m false)[i]? = some true := hb
    have he2 : (P.g.s.ers.set m noEr)[i]? = some e := he
    rw [List.getElem?_set] at hb2 he2
    by_cases hmi : m = i
    · rw [if_pos hmi] at hb2; split at hb2 <;> simp at hb2
    · rw [if_neg hmi] at hb2 he2; exact ⟨hb2, he2⟩
  refine ⟨⟨h.ok.bad, by show s'.trs.length = _; rw [same_len hS]; exact h.ok.n1, h.ok.n2, h.ok.n3, h.ok.n8⟩, ⟨?_, ?_, fun i e hb he => ?_, ?_⟩, hI, h.jo, h.nj, hrn, by show d.length ≤ _; omega, hr, hup.an, fun i e hb he => ?_⟩
  · show P.st.m = s'.mir ∧ P.st.b = s'.blk ∧ P.st.wi = s'.win ∧ P.st.c = s'.cap ∧ P.st.t = s'.tri
    rw [a1, a2, a3, a4, a5]; exact h.j.st
  · show P.away.set m false = s'.busy
    rw [hS.b, h.j.aw]; rfl
  · obtain ⟨hb', he'⟩ := old i e hb he
    show P.jobs[i]? = some (feF (fetchE s'.blk e))
    rw [a2]; exact h.j.jb i e hb' he'
  · show P.paths = s'.trs.map Tr.path
    rw [hS.p]; exact h.j.pt
  · obtain ⟨hb', he'⟩ := old i e hb he
    show e.tag = 0 ∧ e.tot = 0 ∧ e.blk = 0 ∨ K.V e.path e.tag e.tot ∧ e.blk * s'.blk < e.tot
    rw [a2]; exact h.ej i e hb' he'
theorem endA_of {K : Kn} {n : Nat} {P : Pl} (h : PI K n P) (pk : POk P.g.s) (m : Nat) (hm : (m : Int) < P.g.s.mir) (ha : P.away.getD m false = true) : endA P.g.s m = 0 := by
  have h2 := h.si.fair.m2
  obtain ⟨-, hb⟩ := away_get h pk m (by omega)
  rw [ha] at hb
  exact endA_yes (by unfold hasM; simp; omega) hb
theorem er_get {P : Pl} (pk : POk P.g.s) (m : Nat) (hm : m < 3) : P.g.s.ers[m]? = some (P.g.s.ers.getD m noEr) := by
  obtain ⟨e, he⟩ : ∃ e, P.g.s.ers[m]? = some e := ⟨_, List.getElem?_eq_getElem (by rw [pk.ne]; exact hm)⟩
  rw [List.getD_eq_getElem?_getD, he]; rfl
/-- The mirror that is away comes back; else nothing. -/
def flPl (P : Pl) (m : Nat) : Pl := if P.away.getD m false then failPl P m else P
def rpPl (P : Pl) (m : Nat) (r : Rp) : Pl := if P.away.getD m false then replyPl P m r else P
theorem flPl_PI {K : Kn} {n : Nat} {P : Pl} (h : PI K n P) (pk : POk P.g.s) (hK : KnOk K P.g.s.blk) (m : Nat) (hm : (m : Int) < P.g.s.mir) : PI K (n + 1) (flPl P m) := by
  unfold flPl
  cases ha : P.away.getD m false
  · simp only [Bool.false_eq_true, if_false]; exact h.up (Nat.le_succ n)
  · simp only [if_true]
    have hE := endA_of h pk m hm ha
    have hs : failP P.g.s m = plookS (failedS (freeS P.g.s m) (P.g.s.ers.getD m noEr)) := by unfold failP; rw [hE, if_pos rfl]; rfl
    have := back_PI h m (failP P.g.s m) P.sent P.dst h.sd (by have := h.sn; omega) (by rw [hs]; exact (same_failed _ _).trans (same_look _)) (by rw [hs]; exact SI_look (SI_failed (SI_setJ h.si _ _) _) hK)
    exact this
theorem rpPl_PI {K : Kn} {n : Nat} {P : Pl} (h : PI K n P) (pk : POk P.g.s) (hK : KnOk K P.g.s.blk) (m : Nat) (hm : (m : Int) < P.g.s.mir) (r : Rp)
    (hD : P.away.getD m false = true → ∀ e, P.g.s.ers[m]? = some e → sensible P.g.s.blk e r.tag r.tot r.off r.body.size = true → K.V e.path r.tag r.tot ∧ (r.body.toList.isEmpty = false → K.D ⟨e.path, r.tag, r.tot, e.blk⟩ r.body)) : PI K (n + 1) (rpPl P m r) := by
  unfold rpPl
  cases ha : P.away.getD m false
  · simp only [Bool.false_eq_true, if_false]; exact h.up (Nat.le_succ n)
  · simp only [if_true]
    have hE := endA_of h pk m hm ha
    have h2 := h.si.fair.m2
    have he := er_get pk m (by omega)
    obtain ⟨e, hee⟩ : ∃ e, e = P.g.s.ers.getD m noEr := ⟨_, rfl⟩
    rw [← hee] at he
    have hs : replyP P.g.s m r.tag r.tot r.off r.body = plookS (answS (freeS P.g.s m) e r.tag r.tot r.off r.body) := by unfold replyP; rw [hE, if_pos rfl, hee]; rfl
    have hpe := (pk.ers e (List.mem_of_getElem? he)).1
    obtain ⟨p, hp⟩ := Int.eq_ofNat_of_zero_le hpe
    have hfree : SI K (freeS P.g.s m) P.taken := SI_setJ h.si _ _
    have hans : SI K (answS (freeS P.g.s m) e r.tag r.tot r.off r.body) P.taken := SI_answ hfree hK e p hp r.tag r.tot r.off r.body (fun hse => by
      have := hD ha e he hse
      rw [hp] at this ⊢; exact this)
    have := back_PI h m (replyP P.g.s m r.tag r.tot r.off r.body) (P.sent ++ [r]) (P.dst ++ [(P.jobs.getD m noFe).path]) (by simp [h.sd]) (by have := h.sn; simp only [List.length_append, List.length_cons, List.length_nil]; omega)
      (by rw [hs]; exact (same_answ _ _ _ _ _ _).trans (same_look _))
      (by rw [hs]; exact SI_look hans (by rw [(same_answ _ _ _ _ _ _).a.2.1]; exact hK))
    exact this

set_option maxRecDepth 100000 in
set_option maxHeartbeats 2000000 in
theorem fail_no (y : Nat) (col : Nat → Nat) (k : Nat) (P : Pl) (V : Pv) (m : Nat) (w : World) (h : PlAt w y col k P V) (ok : PlOk P) (hm : m < 3) (ha : P.away[m]? = some false) :
    Calls Try.prog 22 #[.pointer (some ⟨y, 0, none⟩), .int .i64 m] w fun e w' => e = .returned (.tuple #[]) ∧ w' = w := by
  have c29 : w.cell? ⟨y, 29, none⟩ = some (.bool false) := by rw [← ok.bad]; exact h.cEnd 5
  have ca : w.cell? ⟨y, 21 + m, none⟩ = some (.bool false) := h.cAway m false ha
  have hm' : (m : Int) < 3 := by omega
  clear ha h ok
  go_enter Try.func22, Try.ntmps22
  go_wp2_with fail
  refine bodyPost_ret (v := .tuple #[]) (by simp [results, Try.results22, go_sem]) rfl ⟨rfl, rfl⟩
set_option maxRecDepth 100000 in
set_option maxHeartbeats 2000000 in
theorem reply_no (y : Nat) (col : Nat → Nat) (k : Nat) (P : Pl) (V : Pv) (m : Nat) (r : Rp) (w : World) (h : PlAt w y col k P V) (ok : PlOk P) (hm : m < 3) (ha : P.away[m]? = some false) :
    Calls Try.prog 14 #[.pointer (some ⟨y, 0, none⟩), .int .i64 m, rpAgg r] w fun e w' => e = .returned (.tuple #[]) ∧ Ext w w' := by
  obtain ⟨rt, ro, rf, rb⟩ := r
  unfold rpAgg repAgg
  have c29 : w.cell? ⟨y, 29, none⟩ = some (.bool false) := by rw [← ok.bad]; exact h.cEnd 5
  have ca : w.cell? ⟨y, 21 + m, none⟩ = some (.bool false) := h.cAway m false ha
  have hm' : (m : Int) < 3 := by omega
  have hyl := h.lt
  have hE0 := Ext.new w (.cells #[.int .i64 rt, .int .i64 ro, .int .i64 rf, .string rb] 42)
  clear ha h ok
  go_enter Try.func14, Try.ntmps14
  go_wp2_with fail
  refine bodyPost_ret (v := .tuple #[]) (by simp [results, Try.results14, go_sem]) rfl ⟨rfl, ?_⟩
  exact hE0
theorem yfail_any (y : Nat) (col : Nat → Nat) (k : Nat) (K : Kn) (n : Nat) (P : Pl) (V : Pv) (m : Nat) (w : World) (h : PlAt w y col k P V) (hI : PI K n P) (hm : (m : Int) < P.g.s.mir) :
    Calls Try.prog 22 #[.pointer (some ⟨y, 0, none⟩), .int .i64 m] w fun e w' => e = .returned (.tuple #[]) ∧ PlTo w w' y col k (flPl P m) := by
  have pk := (h.pg id).1.ok
  have h2 := hI.si.fair.m2
  have ha := (away_get hI pk m (by omega)).1
  unfold flPl
  cases hv : P.away.getD m false
  · rw [hv] at ha
    simp only [Bool.false_eq_true, if_false]
    refine (fail_no y col k P V m w h hI.ok (by omega) ha).mono ?_
    rintro e w' ⟨rfl, rfl⟩
    exact ⟨rfl, PlTo.refl h⟩
  · rw [hv] at ha
    simp only [if_true]
    exact fail_yes y col k P V m w h hI.ok (by omega) ha (endA_of hI pk m hm hv)
theorem yreply_any (y : Nat) (col : Nat → Nat) (k : Nat) (K : Kn) (n : Nat) (P : Pl) (V : Pv) (m : Nat) (r : Rp) (w : World) (h : PlAt w y col k P V) (hI : PI K n P) (hm : (m : Int) < P.g.s.mir) (hb : r.body.size ≤ 1000000000) (hs : P.sent.length ≤ 3000000000000) :
    Calls Try.prog 14 #[.pointer (some ⟨y, 0, none⟩), .int .i64 m, rpAgg r] w fun e w' => e = .returned (.tuple #[]) ∧ PlTo w w' y col k (rpPl P m r) := by
  have pk := (h.pg id).1.ok
  have h2 := hI.si.fair.m2
  have ha := (away_get hI pk m (by omega)).1
  unfold rpPl
  cases hv : P.away.getD m false
  · rw [hv] at ha
    simp only [Bool.false_eq_true, if_false]
    refine (reply_no y col k P V m r w h hI.ok (by omega) ha).mono ?_
    rintro e w' ⟨rfl, hE⟩
    exact ⟨rfl, PlTo.ext h hE⟩
  · rw [hv] at ha
    simp only [if_true]
    exact reply_yes y col k P V m _ r w h hI.ok (by omega) ha (List.getElem?_eq_getElem (by rw [hI.nj]; omega)) (endA_of hI pk m hm hv) hb hs (by rw [← hI.sd]; exact hs)
theorem yask_any (y : Nat) (col : Nat → Nat) (k : Nat) (P : Pl) (V : Pv) (path : Nat) (text : ByteArray) (w : World) (h : PlAt w y col k P V) (ok : PlOk P) (hp : path < 4) (ht : text.size ≤ 1000000000) :
    Calls Try.prog 12 #[.pointer (some ⟨y, 0, none⟩), .int .i64 path, .string text] w fun e w' => e = .returned (.tuple #[]) ∧ PlTo w w' y col k (askPl P path text) := by
  by_cases h8 : P.paths.length < 8
  · exact ask_new y col k P V path text w h ok h8 hp ht
  · have e : askPl P path text = P := by unfold askPl; rw [if_neg h8]
    rw [e]
    refine (ask_full y col k P V path text w h ok (by have := ok.n8; omega)).mono ?_
    rintro e w' ⟨rfl, rfl⟩
    exact ⟨rfl, PlTo.refl h⟩
end Go.Proofs.Ytjhihliciadipaa
