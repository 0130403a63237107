import Derived.Test.YtjhihliciadipaaK9
import Derived.Deep.DrawnRows
import Derived.Deep.RegionHeld3
set_option linter.unusedVariables false
set_option linter.unusedSimpArgs false
set_option linter.unnecessarySimpa false
namespace Go.Proofs.Ytjhihliciadipaa
open Go.RowKit

theorem infoReply : (Try.prog.info? 42).map (fun i => (i.zero, i.size, i.bytes)) = some (some (.agg #[.int .i64 0, .int .i64 0, .int .i64 0, .string ByteArray.empty]), 4, 40) := by kernel_rfl
theorem rpOne (r : Rp) : ∀ u ∈ rpV r, u.oneCell' = true := by intro u hu; simp [rpV] at hu; rcases hu with rfl | rfl | rfl | rfl <;> rfl
def rpAgg (r : Rp) : Value := repAgg r.tag r.tot r.off r.body

/-- A mirror that is away replies. -/
def replyPl (P : Pl) (m : Nat) (r : Rp) : Pl :=
  { P with away := P.away.set m false, sent := P.sent ++ [r], dst := P.dst ++ [(P.jobs.getD m noFe).path], g := ⟨replyP P.g.s m r.tag r.tot r.off r.body, P.g.v⟩ }

/-- One more element behind a long slice, as one step of a region that draws. -/
theorem step_appL {t e : TypeId} {z : Value} {sz bytes : Nat} (ht : Try.prog.underlying t = some (.slice e))
    (hinfo : (Try.prog.info? e).map (fun i => (i.zero, i.size, i.bytes)) = some (some z, sz, bytes)) (hzs : z.cells.size = sz) (hsz : 0 < sz)
    {w : World} {ops : Array Oper} {o : Oper} {a : Act} {K : Act → World → Prop} {Q : Exit → Act → World → Prop} {E : Prop} (hgd : o.guard = none) (s x : Operand)
    (ho : o.op = .call { callee := .builtin .append, args := #[s, x], argTypes := #[t, t] })
    {base : Nat} {v : Value} {n : Nat} {xs : List Value} (hs : a.eval s = v) (hown : w.ownsRow base e sz v n xs)
    {g : Nat} (news : List Value) (hx : a.eval x = .slice (some ⟨g, 0, none⟩) 1 1) (hl : news.length = sz) (hnews : ∀ j u, news[j]? = some u → w.cell? ((⟨g, 0, none⟩ : Addr).add j) = some u)
    (h1 : ∀ u ∈ news, u.oneCell' = true) (hn : n ≤ 10000000000000) (hb2 : (n + 1) * bytes ≤ 140737488355328) (hbase : base ≤ w.heap.size)
    (h : ∀ v' w', w'.ownsRow base e sz v' (n + 1) (xs ++ news) → w.grownBy w' v.ownBlock → (v'.ownBlock = v.ownBlock ∨ v'.ownBlock = some w.heap.size) → K (a.put o.dst v') w') :
    if Region.wanted o (yielded ops a.tmps) = true then Oper.wp Try.prog o a w K Q else E := by
  have hw : Region.wanted o (yielded ops a.tmps) = true := by simp [Region.wanted, hgd]
  rw [if_pos hw]
  obtain ⟨i, hi, hz0, hz1, hz2⟩ := info_parts hinfo
  obtain ⟨v', w', hr, h2, h3, h4⟩ := run_append_own (P := Try.prog) w base t o.type e i z sz bytes ht hi hz0 hz1 hz2 hzs hsz v n xs hown ⟨g, 0, none⟩ 1 1 news (by simpa using hl) hnews h1 (by unfold maxLen; omega) hb2 hbase
  have hwh := append_where w t o.type e i z ht hi hz0 v n xs (by rw [hz1]; exact own_base hown (Nat.zero_le _)) ⟨g, 0, none⟩ 1 1 news (by rw [hz1]; simpa using hl) hnews h1 (by omega) (by unfold maxLen; omega) (by rw [hz2]; exact hb2) hr
  unfold Oper.wp execOp
  simp only [ho, resolve, invoke, builtin, Sem.run_bind, Sem.run_pure, Result.andThen_ok, List.map_toArray, List.map_cons, List.map_nil, hs, hx, hr]
  exact h v' w' h2 h3 hwh

attribute [local go_sem ↓] Go.wp_at_zero Go.wp_at_succ
set_option maxRecDepth 100000 in
set_option maxHeartbeats 4000000 in
theorem reply_yes (y : Nat) (col : Nat → Nat) (k : Nat) (P : Pl) (V : Pv) (m : Nat) (f : Fe) (r : Rp) (w : World) (h : PlAt w y col k P V) (ok : PlOk P) (hm : m < 3) (ha : P.away[m]? = some true) (hf : P.jobs[m]? = some f) (he : endA P.g.s m = 0)
    (hb : r.body.size ≤ 1000000000) (hl1 : P.sent.length ≤ 3000000000000) (hl2 : P.dst.length ≤ 3000000000000) :
    Calls Try.prog 14 #[.pointer (some ⟨y, 0, none⟩), .int .i64 m, rpAgg r] w fun e w' => e = .returned (.tuple #[]) ∧ PlTo w w' y col k (replyPl P m r) := by
  obtain ⟨rt, ro, rf, rb⟩ := r
  unfold rpAgg repAgg
  simp only at *
  have c29 : w.cell? ⟨y, 29, none⟩ = some (.bool false) := by rw [← ok.bad]; exact h.cEnd 5
  have ca : w.cell? ⟨y, 21 + m, none⟩ = some (.bool true) := h.cAway m true ha
  have hfz := (h.blk id).frozen
  have hm' : (m : Int) < 3 := by omega
  have hyl := h.lt
  have hE0 := Ext.new w (.cells #[.int .i64 rt, .int .i64 ro, .int .i64 rf, .string rb] 42)
  obtain ⟨hL1, hS1⟩ := h.setAway m hm false
  have hW : (w.setCell ⟨y, 21 + m, none⟩ (.bool false)).heap.size = w.heap.size := by simp [World.setCell]
  have hB0 := Blk.new (w.setCell ⟨y, 21 + m, none⟩ (.bool false)) 42 #[.int .i64 rt, .int .i64 ro, .int .i64 rf, .string rb]
  rw [hW] at hB0
  have hL1' := hL1.ext (Ext.new _ (.cells #[.int .i64 rt, .int .i64 ro, .int .i64 rf, .string rb] 42)) (k + 7)
  have hS1' := hS1.trans (StK.ext (Ext.new _ (.cells #[.int .i64 rt, .int .i64 ro, .int .i64 rf, .string rb] 42)) (k + 7))
  have hcb : recolK (w.setCell ⟨y, 21 + m, none⟩ (.bool false)) (recolK w col 0) (k + 7) w.heap.size = k + 7 := recolK_new (by rw [hW]; exact Nat.le_refl _)
  have HFR := hide (fun (g' : Pg) (w' : World) (h' : PgAt w' P.q g') => ReplyP_any P.q m rt ro rf rb g' w' h' hb)
  unfold repAgg at HFR
  have hjf : P.jobs.getD m noFe = f := by simp [hf]
  go_enter Try.func14, Try.ntmps14
  go_upto_region 3 with (fail)
  generalize (w.setCell ⟨y, 21 + m, none⟩ (.bool false)).alloc (.cells #[.int .i64 rt, .int .i64 ro, .int .i64 rf, .string rb] 42) = w1 at *
  generalize recolK (w.setCell ⟨y, 21 + m, none⟩ (.bool false)) (recolK w col 0) (k + 7) = col1 at *
  clear hL1 hS1 c29 ca hfz hE0 hW
  obtain ⟨P1, hP1⟩ : ∃ P1 : Pl, P1 = { P with away := P.away.set m false } := ⟨_, rfl⟩
  rw [← hP1] at hL1'
  have f1 : P1.jobs[m]? = some f := by rw [hP1]; exact hf
  have n1 : P1.sent.length ≤ 3000000000000 := by rw [hP1]; exact hl1
  have n2 : P1.dst.length ≤ 3000000000000 := by rw [hP1]; exact hl2
  have hg1 : P1.g = P.g := by rw [hP1]
  have hq1 : P1.q = P.q := by rw [hP1]
  have HFin : Hid (∀ v, ({ P1 with sent := P1.sent ++ [⟨rt, ro, rf, rb⟩], dst := P1.dst ++ [f.path], g := ⟨replyP P1.g.s m rt ro rf rb, v⟩, bad := false } : Pl) = (replyPl P m ⟨rt, ro, rf, rb⟩).lay v) := by
    intro v; unfold replyPl Pl.lay; rw [hjf, hP1, ← ok.bad]
  have he1 : endA P1.g.s m = 0 := by rw [hg1]; exact he
  rw [← hq1] at HFR
  clear hP1 hf hl1 hl2 hg1 hq1 he ok h ha hjf
  have stayB : ∀ w' col', StK w1 w' col1 col' k → Blk w' w.heap.size 42 #[.int .i64 rt, .int .i64 ro, .int .i64 rf, .string rb] := fun w' col' hS => hB0.chg hS.chg (by rw [hcb]; omega)
  have HSB := hide stayB
  clear stayB
  go_cut [0] (fun u wx => u = .pointer (some ⟨y, 0, none⟩) ∧ ∃ col2 V2, PlAt wx y col2 k { P1 with sent := P1.sent ++ [⟨rt, ro, rf, rb⟩] } V2 ∧ StK w1 wx col1 col2 k)
  case first =>
    obtain ⟨a1, cap1, hv1, -⟩ := own_form (hL1'.ss id).1
    have hne := hL1'.neS
    have hB1 := hL1'.blk id
    have c27 : w1.cell? ⟨y, 27, none⟩ = some V.s := hL1'.cEnd 3
    have ho1 := (hL1'.ss id).1
    rw [hv1] at c27 hne ho1
    have r0 : w1.cell? ⟨w.heap.size, 0, none⟩ = some (.int .i64 rt) := hB0.cell 0
    have r1 : w1.cell? ⟨w.heap.size, 1, none⟩ = some (.int .i64 ro) := hB0.cell 1
    have r2 : w1.cell? ⟨w.heap.size, 2, none⟩ = some (.int .i64 rf) := hB0.cell 2
    have r3 : w1.cell? ⟨w.heap.size, 3, none⟩ = some (.string rb) := hB0.cell 3
    have hbl := hB0.lt
    have hyl1 := hL1'.lt
    have HV := hide hv1
    have HL := hide hL1'
    clear hv1 hL1' hB0
    go_region_law (
      refine step_appL Try.underlying36 infoReply rfl (by decide) rfl _ _ rfl (by rfl) (own_ext ho1 (Below.drew (Ext.new _ _))) (rpV ⟨rt, ro, rf, rb⟩) rfl rfl (news_new _ _ _) (rpOne _) (by omega) (by omega) (Nat.zero_le _) ?_
      intro v2 w2 ho2 hg2 hw2
      obtain ⟨a2, cap2, rfl, hx2⟩ := own_form ho2
      clear hx2
      have hB2 : Blk w2 y 38 _ := (hB1.ext (Below.drew (Ext.new _ _))).grown hg2 hne
      have c2 : w2.cell? ⟨y, 27, none⟩ = some (.slice a1 P1.sent.length cap1) := (by rw [hB2.cell, ← hB1.cell]; exact c27)
      have f2 := hB2.frozen)
    all_goals
      go_wp2_with fail
      go_meet
      have hadd := PlX.addS (HL.out.ext (Below.drew (Ext.new _ _)) 0) ⟨rt, ro, rf, rb⟩ ho2 (by rw [HV.out]; exact hg2) (by rw [HV.out]; exact hw2)
      exact ⟨rfl, _, _, hadd.1, (StK.ext (Below.drew (Ext.new _ _)) 0).trans hadd.2⟩
  case rest =>
    obtain ⟨rfl, col2, V2, hL2, hS2⟩ := hcut
    generalize wc = w2 at *
    clear hL1'
    go_upto_region 4 with (fail)
    go_cut [0] (fun u wx => u = .pointer (some ⟨y, 0, none⟩) ∧ ∃ col3 V3, PlAt wx y col3 k { P1 with sent := P1.sent ++ [⟨rt, ro, rf, rb⟩], dst := P1.dst ++ [f.path] } V3 ∧ StK w1 wx col1 col3 k)
    case first =>
      obtain ⟨a1, cap1, hv1, -⟩ := own_form (hL2.oo id).1
      have hne := hL2.neO
      have hB1 := hL2.blk id
      have c28 : w2.cell? ⟨y, 28, none⟩ = some V2.o := hL2.cEnd 4
      have cj : w2.cell? ⟨y, 6 + m * 5, none⟩ = some (.int .i64 f.path) := hL2.cJob m 0 f f1 (by omega)
      have ho1 := (hL2.oo id).1
      rw [hv1] at c28 hne ho1
      have hyl2 := hL2.lt
      have HV := hide hv1
      have HL := hide hL2
      clear hv1 hL2
      go_region_law (
        refine step_appL Try.underlying22 infoInt rfl (by decide) rfl _ _ rfl (by rfl) (own_ext ho1 (Below.drew (Ext.new _ _))) [.int .i64 f.path] rfl rfl (news_new _ _ _) (intOne _) (by simp only; omega) (by simp only; omega) (Nat.zero_le _) ?_
        intro v3 w3 ho3 hg3 hw3
        obtain ⟨a3, cap3, rfl, hx3⟩ := own_form ho3
        clear hx3
        have hB3 : Blk w3 y 38 _ := (hB1.ext (Below.drew (Ext.new _ _))).grown hg3 hne
        have c3 : w3.cell? ⟨y, 28, none⟩ = some (.slice a1 P1.dst.length cap1) := (by rw [hB3.cell, ← hB1.cell]; exact c28)
        have f3 := hB3.frozen)
      all_goals
        go_wp2_with fail
        go_meet
        have hadd := PlX.addO (HL.out.ext (Below.drew (Ext.new _ _)) 0) f.path ho3 (by rw [HV.out]; exact hg3) (by rw [HV.out]; exact hw3)
        exact ⟨rfl, _, _, hadd.1, (hS2.trans (StK.ext (Below.drew (Ext.new _ _)) 0)).trans hadd.2⟩
    case rest =>
      obtain ⟨rfl, col3, V3, hL3, hS3⟩ := hcut
      generalize wc = w3 at *
      clear hL2 hS2
      have hBr := HSB.out w3 col3 hS3
      have c0 : w3.cell? ⟨y, 0, none⟩ = some (.pointer (some ⟨P1.q, 0, none⟩)) := hL3.cSt 0 (by omega)
      have r0 : w3.cell? ⟨w.heap.size, 0, none⟩ = some (.int .i64 rt) := hBr.cell 0
      have r1 : w3.cell? ⟨w.heap.size, 1, none⟩ = some (.int .i64 ro) := hBr.cell 1
      have r2 : w3.cell? ⟨w.heap.size, 2, none⟩ = some (.int .i64 rf) := hBr.cell 2
      have r3 : w3.cell? ⟨w.heap.size, 3, none⟩ = some (.string rb) := hBr.cell 3
      go_upto_region 5 with (fail)
      go_cut [6] (fun u wx => u = .int .i64 0 ∧ ∃ col4 v4, PlAt wx y col4 k { P1 with sent := P1.sent ++ [⟨rt, ro, rf, rb⟩], dst := P1.dst ++ [f.path], g := ⟨replyP P1.g.s m rt ro rf rb, v4⟩ } V3 ∧ StK w1 wx col1 col4 k)
      case first =>
        have hP3 := (hL3.pg id).1
        have HL := hide hL3
        clear hL3
        go_region_with (go_at_call 37; refine (HFR.out P1.g _ (hP3.ext (Below.drew (Below.refl _ _)))).mono ?_; rintro e w4 ⟨rfl, v4, hP4, hM4⟩; rw [he1])
        all_goals go_wp2_with fail
        all_goals go_meet
        all_goals
          have hst := PlX.pgS (HL.out.ext (Below.drew (Below.refl _ _)) 0) hP4 hM4
          exact ⟨rfl, _, v4, hst.1, (hS3.trans (StK.ext (Below.drew (Below.refl _ _)) 0)).trans hst.2⟩
      case rest =>
        obtain ⟨rfl, col4, v4, hL4, hS4⟩ := hcut
        have d29 : wc.cell? ⟨y, 29, none⟩ = some (.bool P1.bad) := hL4.cEnd 5
        have f4 := (hL4.blk id).frozen
        obtain ⟨hL5, hS5⟩ := hL4.setBad false
        have HX : Hid (PlTo w (wc.setCell ⟨y, 29, none⟩ (.bool false)) y col k (replyPl P m ⟨rt, ro, rf, rb⟩)) := by
          refine ⟨_, V3, v4, ?_, (hS1'.trans hS4).trans hS5⟩
          rw [← HFin.out v4]; exact hL5
        clear hL4 hS4 hL5 hS5 hL3 hS3 c0 r0 r1 r2 r3 hBr
        go_wp2_with fail
        go_end0
        exact ⟨rfl, HX.out⟩
end Go.Proofs.Ytjhihliciadipaa
