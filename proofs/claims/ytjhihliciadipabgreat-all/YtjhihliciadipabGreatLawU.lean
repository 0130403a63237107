import Derived.Test.YtjhihliciadipabGreatLawQa
import Derived.Test.YtjhihliciadipabGreatLawQb
import Derived.Test.YtjhihliciadipabGreatLawQc
import Derived.ProofKit
import Derived.OpenShut
import Derived.JoinedCond
import Derived.Deep.Slices
import Derived.Carry
import Derived.SizedLaws
set_option linter.unusedVariables false
set_option linter.unusedSimpArgs false
set_option linter.unnecessarySimpa false
namespace Go.Proofs.YtjhihliciadipabGreat
open Go.RowKit

theorem plays_any (W : Nat) (col : Nat → Nat) (A : Lw) (C : Int) (kind K a b c d e : Int) (s : ByteArray) (w : World) (h : LwAt w W col A) (hf : Fit A C) (hn : A.xs.length ≤ 7999999999000) (hl : A.lists.length ≤ 7999999999000)
    (hC0 : 0 ≤ C) (hC : C ≤ 20000000000000000) (hs : s.size ≤ 9223372036854775807) (hb : b ≤ 9223372036854775807) (hK0 : -9223372036854775808 ≤ K) (hK1 : K ≤ 9223372036854775807) :
    Calls Tryz.prog 7 #[.pointer (some ⟨W, 0, none⟩), .agg #[.int .i64 kind, .int .i64 K, .int .i64 a, .int .i64 b, .int .i64 c, .int .i64 d, .int .i64 e, .string s]] w fun e w' =>
      LRet kind e ∧ LPost w w' W col A C := by
  by_cases h1 : kind = 1
  · subst h1; exact plays_new W col A C K a b c d e s w h hf hC0 hn
  · by_cases h2 : A.xs.length = 0 ∨ kind < 1 ∨ 11 < kind
    · exact plays_idle W col A C kind K a b c d e s w h hf h1 hn h2
    · by_cases h5 : kind ≤ 5
      · exact plays_moves W col A C kind K a b c d e s w h hf (by omega) h5 (by omega) hn hl hC hs hb hK0 hK1
      · by_cases h9 : kind ≤ 9
        · exact plays_tells W col A C kind K a b c d e s w h hf (by omega) h9 (by omega) hn hl hC hs hb hK0 hK1
        · exact plays_cache W col A C kind K a b c d e s w h hf (by omega) (by omega) (by omega) hn hl hC hs hb hK0 hK1
end Go.Proofs.YtjhihliciadipabGreat

namespace Go.Proofs.YtjhihliciadipabGreat
open Go.RowKit

/-- The script in memory. -/
structure ScAt (w : World) (a : Option Addr) (n : Nat) (ops : Nat → Op) : Prop where
  cell : ∀ i, i < n → ∃ ad, a = some ad ∧ ∀ r, r < 8 → w.cell? ((ad.add (i * 8)).add r) = (opV (ops i))[r]?
  ok : ∀ i, i < n → OpOk (ops i)

/-- Between two rounds. -/
def UInv (w wr : World) (W : Nat) (col : Nat → Nat) (k : Nat) : Prop := ∃ col' A', LwAt wr W col' A' ∧ Fit A' (8193 * (k : Int)) ∧ Stp w wr col col' ∧ A'.lists.length ≤ 4 * k ∧ A'.xs.length ≤ k

def col0 (w : World) (b : Nat) : Nat := if b < w.heap.size then 6 else 0
def lw0 : Lw := ⟨.slice none 0 0, .slice none 0 0, .slice none 0 0, .slice none 0 0, [], [], [], [], []⟩
theorem UInv.start (w : World) : UInv (w.alloc (.cells #[.slice none 0 0, .slice none 0 0, .slice none 0 0, .slice none 0 0] 31)) (w.alloc (.cells #[.slice none 0 0, .slice none 0 0, .slice none 0 0, .slice none 0 0] 31)) w.heap.size (col0 w) 0 := by
  have hB := Blk.new w 31 #[.slice none 0 0, .slice none 0 0, .slice none 0 0, .slice none 0 0]
  have hno : ∀ (d : Nat) b, (Value.slice none 0 0).ownBlock = some b → col0 w b = d := fun d b hb => by simp [Value.ownBlock] at hb
  refine ⟨col0 w, lw0, ⟨hB.lt, by unfold col0; simp, fun _ => hB, fun _ => ⟨World.ownsRow_nil _ _ _ _, hno 1⟩, fun _ => ⟨World.ownsRow_nil _ _ _ _, hno 2⟩, fun _ => ⟨World.ownsRow_nil _ _ _ _, hno 3⟩, fun _ => ⟨World.ownsRow_nil _ _ _ _, hno 4⟩,
    fun _ k v m hv => by simp [lw0] at hv, fun k x hx => by simp [lw0] at hx, fun k x hx => by simp [lw0] at hx⟩, ⟨rfl, rfl, rfl, by simp [lw0], by simp [lw0]⟩, Stp.refl _ _, by simp [lw0], by simp [lw0]⟩
/-- What came in is as it was. -/
theorem UInv.ext {w wr : World} {o : Obj} {W k : Nat} (h : UInv (w.alloc o) wr W (col0 w) k) : Ext w wr := by
  obtain ⟨col', A', -, -, hS, -, -⟩ := h
  have hE := Ext.new w o
  exact ⟨hS.chg.os.trans hE.os, hS.chg.tape.trans hE.tape, hS.chg.output.trans hE.output, Nat.le_trans hE.size hS.chg.size, fun b hb =>
    (hS.chg.block b (Nat.lt_of_lt_of_le hb hE.size) (fun hne => hne (by unfold col0; rw [if_pos hb]))).trans (hE.block b hb)⟩

theorem add_zero' (q : Addr) : q.add 0 = q := by simp [Addr.add]
theorem add_pos' (q : Addr) (r : Nat) (hr : r ≠ 0) : q.add r = ⟨q.block, q.off + r, none⟩ := by simp [Addr.add, hr]
theorem ops_get (o : Op) : ∀ r, r < 8 → ∃ v, (opV o)[r]? = some v := fun r hr => ⟨(opV o)[r]'(by simpa [opV] using hr), by simp⟩

set_option maxRecDepth 100000 in
set_option maxHeartbeats 2000000 in
theorem UpTo_any (a : Option Addr) (n cap : Nat) (lo hi : Int) (ops : Nat → Op) (w : World) (h : ScAt w a n ops) (hn : n ≤ 1954687338268) :
    Calls Tryz.prog 6 #[.slice a n cap, .int .i64 lo, .int .i64 hi] w fun e w' => e = .returned (.int .i64 (-1)) ∧ Ext w w' := by
  have HS := hide h
  clear h
  go_enter Tryz.func6, Tryz.ntmps6
  go_wp2_with fail
  go_loopw [8] (fun i wr => ∃ k : Nat, k ≤ n ∧ i = .int .i64 k ∧ Hid (UInv (w.alloc (.cells #[.slice none 0 0, .slice none 0 0, .slice none 0 0, .slice none 0 0] 31)) wr w.heap.size (col0 w) k)) (fun i _ => n - (intOf i).toNat)
  case atStart => exact ⟨0, Nat.zero_le _, rfl, UInv.start w⟩
  case round =>
    obtain ⟨k, hk, rfl, HI⟩ := hrel
    have hE := HI.out.ext
    by_cases hlt : k < n
    · obtain ⟨ad, rfl, hcell⟩ := HS.out.cell k hlt
      obtain ⟨kind, K, x1, x2, x3, x4, x5, s, hop⟩ : ∃ kind K x1 x2 x3 x4 x5 s, ops k = ⟨kind, K, x1, x2, x3, x4, x5, s⟩ := ⟨_, _, _, _, _, _, _, _, rfl⟩
      have hok := HS.out.ok k hlt
      rw [hop] at hcell hok
      have p0 : wr.cell? (ad.add (k * 8)) = some (.int .i64 kind) := ext_cell hE (by have := hcell 0 (by omega); rwa [add_zero'] at this)
      have p1 : wr.cell? ⟨(ad.add (k * 8)).block, (ad.add (k * 8)).off + 1, none⟩ = some (.int .i64 K) := ext_cell hE (by have := hcell 1 (by omega); rwa [add_pos' _ _ (by omega)] at this)
      have p2 : wr.cell? ⟨(ad.add (k * 8)).block, (ad.add (k * 8)).off + 2, none⟩ = some (.int .i64 x1) := ext_cell hE (by have := hcell 2 (by omega); rwa [add_pos' _ _ (by omega)] at this)
      have p3 : wr.cell? ⟨(ad.add (k * 8)).block, (ad.add (k * 8)).off + 3, none⟩ = some (.int .i64 x2) := ext_cell hE (by have := hcell 3 (by omega); rwa [add_pos' _ _ (by omega)] at this)
      have p4 : wr.cell? ⟨(ad.add (k * 8)).block, (ad.add (k * 8)).off + 4, none⟩ = some (.int .i64 x3) := ext_cell hE (by have := hcell 4 (by omega); rwa [add_pos' _ _ (by omega)] at this)
      have p5 : wr.cell? ⟨(ad.add (k * 8)).block, (ad.add (k * 8)).off + 5, none⟩ = some (.int .i64 x4) := ext_cell hE (by have := hcell 5 (by omega); rwa [add_pos' _ _ (by omega)] at this)
      have p6 : wr.cell? ⟨(ad.add (k * 8)).block, (ad.add (k * 8)).off + 6, none⟩ = some (.int .i64 x5) := ext_cell hE (by have := hcell 6 (by omega); rwa [add_pos' _ _ (by omega)] at this)
      have p7 : wr.cell? ⟨(ad.add (k * 8)).block, (ad.add (k * 8)).off + 7, none⟩ = some (.string s) := ext_cell hE (by have := hcell 7 (by omega); rwa [add_pos' _ _ (by omega)] at this)
      have hlt' : (k : Int) < n := by omega
      clear hcell hop
      go_wp2_with fail
      obtain ⟨colr, Ar, hLr, hFr, hSr, hll, hxl⟩ := HI.out
      have hB := Blk.new wr 33 #[.int .i64 kind, .int .i64 K, .int .i64 x1, .int .i64 x2, .int .i64 x3, .int .i64 x4, .int .i64 x5, .string s]
      have hEo := Ext.new wr (.cells #[.int .i64 kind, .int .i64 K, .int .i64 x1, .int .i64 x2, .int .i64 x3, .int .i64 x4, .int .i64 x5, .string s] 33)
      have h1 := hLr.stay (S := fun _ => False) (Chg.of_ext hEo) (fun _ _ f => f.elim) 6
      have t1 : Stp wr (wr.alloc (.cells #[.int .i64 kind, .int .i64 K, .int .i64 x1, .int .i64 x2, .int .i64 x3, .int .i64 x4, .int .i64 x5, .string s] 33)) colr (recol wr colr 6) := Stp.of (S := fun _ => False) (Chg.of_ext hEo) (fun _ _ f => f.elim) 6
      refine (plays_any w.heap.size _ Ar (8193 * (k : Int)) kind K x1 x2 x3 x4 x5 s _ h1 hFr (by omega) (by omega) (by omega) (by omega) hok.s hok.b1 hok.k0 hok.k1).mono ?_
      rintro e1 w2 ⟨rfl, col2, A2, h2, f2, t2, l2, x2'⟩
      have hB2 : Blk w2 wr.heap.size 33 #[.int .i64 kind, .int .i64 K, .int .i64 x1, .int .i64 x2, .int .i64 x3, .int .i64 x4, .int .i64 x5, .string s] := hB.chg t2.chg (fun hne => hne (recol_new (Nat.le_refl _)))
      have o0 : w2.cell? ⟨wr.heap.size, 0, none⟩ = some (.int .i64 kind) := hB2.cell 0
      have H2 := hide h2
      have F2 := hide f2
      have T2 := hide ((hSr.trans t1).trans t2)
      clear p0 p1 p2 p3 p4 p5 p6 p7 hB hEo h1 t1 hLr hFr hSr h2 f2 t2 hB2 HI HS hE hok
      go_wp2_with fail
      refine (whole_any w.heap.size A2.vP A2.vR A2.vL A2.vM A2.lists A2.marks col2 _ (H2.out.blk id) (H2.out.ls id).1 (H2.out.ms id).1 F2.out.lm (H2.out.ml id) F2.out.mb (by omega)).mono ?_
      rintro e2 w3 ⟨rfl, hE3⟩
      have HU : Hid (UInv (w.alloc (.cells #[.slice none 0 0, .slice none 0 0, .slice none 0 0, .slice none 0 0] 31)) w3 w.heap.size (col0 w) (k + 1)) := ⟨_, A2, H2.out.ext hE3, F2.out.mono (by omega), T2.out.trans (Stp.ext hE3), by omega, by omega⟩
      clear hE3 H2 F2 T2
      go_wp2_with fail
      exact ⟨⟨k + 1, by omega, by go_num, HU⟩, by simp [intOf]; omega⟩
    · go_wp2_with fail
      go_ret
      exact ⟨rfl, hE⟩
end Go.Proofs.YtjhihliciadipabGreat

namespace Go.Proofs.YtjhihliciadipabGreat
open Go.ChangeShapes Go.WideShapes Go.ChangeAt Go.RowKit Go.Deep

theorem own : ownKnob Tryz.prog.godebug = none := by kernel_rfl
theorem laidOut : laidOutB Tryz.prog = true := by kernel_rfl
theorem cells3 : Tryz.prog.cellsOf 3 = 1 := by kernel_rfl
theorem cells9 : Tryz.prog.cellsOf 9 = 1 := by kernel_rfl
theorem cells63 : Tryz.prog.cellsOf 33 = 8 := by kernel_rfl

theorem bulk_one {H : Type} (d : DataW H) : 1 ≤ Rows.uptoBulk d := by
  cases d with
  | lit l => cases l <;> simp [Rows.uptoBulk]
  | _ => simp [Rows.uptoBulk]
theorem bulk_len {H : Type} (l : List (DataW H)) : l.length ≤ Rows.uptoBulkAll l := by
  induction l with
  | nil => simp
  | cons d l ih => have := bulk_one d; rw [Rows.uptoBulkAll, List.length_cons]; omega
theorem bulk_mem {H : Type} (d : DataW H) (l : List (DataW H)) (h : d ∈ l) : Rows.uptoBulk d ≤ Rows.uptoBulkAll l := by
  induction l with
  | nil => simp at h
  | cons x l ih =>
    rw [Rows.uptoBulkAll]
    rcases List.mem_cons.1 h with rfl | h
    · omega
    · have := ih h; omega

theorem wf_bd {n : Int} (h : (Lit.int .i64 n).wf = true) : -9223372036854775808 ≤ n ∧ n ≤ 9223372036854775807 := by
  have h1 : IntKind.i64.min = -9223372036854775808 := rfl
  have h2 : IntKind.i64.max = 9223372036854775807 := rfl
  simp only [Lit.wf, Bool.and_eq_true, decide_eq_true_eq] at h
  omega

theorem list8 {α : Type} (l : List α) (h : l.length = 8) : ∃ a b c d e f g k, l = [a, b, c, d, e, f, g, k] := by
  rcases l with _ | ⟨a, _ | ⟨b, _ | ⟨c, _ | ⟨d, _ | ⟨e, _ | ⟨f, _ | ⟨g, _ | ⟨k, _ | ⟨m, l⟩⟩⟩⟩⟩⟩⟩⟩⟩ <;> simp at h
  exact ⟨a, b, c, d, e, f, g, k, rfl⟩

/-- The script, opened: its steps in memory. -/
theorem script_open {H : Type} {enc : TypeId × Value → H} {W : World} {fuel : Nat} {a0 : Option Addr} {len cap : Nat} {x : DataW H × List MemPlace}
    (hf : DataW.trod enc Tryz.prog W 0 (fun _ => true) true fuel 22 [.slice a0 len cap] = some x) (hk : Rows.uptoBulk x.1 ≤ 1048576) : ∃ ops, ScAt W a0 len ops ∧ len ≤ 1048576 := by
  rcases open_slice Tryz.underlying22 hf with ⟨hcs, hx⟩ | ⟨a, len', cap', m, n, D, Pl, hcs, -, hl, hm, hmm, hx, hel⟩
  · simp at hcs
    obtain ⟨rfl, rfl, rfl⟩ := hcs
    exact ⟨fun _ => ⟨0, 0, 0, 0, 0, 0, 0, ByteArray.empty⟩, ⟨fun i hi => absurd hi (by omega), fun i hi => absurd hi (by omega)⟩, by omega⟩
  · simp at hcs
    obtain ⟨rfl, rfl, rfl⟩ := hcs
    simp only [if_true] at hmm
    rw [hx] at hk
    have hk2 : Rows.uptoBulkAll ((List.range len).map D) ≤ 1048576 := by
      simp only [Rows.uptoBulk] at hk; omega
    have hlen : len ≤ 1048576 := by
      have := bulk_len ((List.range len).map D)
      simp at this; omega
    have each : ∀ i, i < len → ∃ o : Op, OpOk o ∧ ∀ r, r < 8 → W.cell? ((a.add (i * 8)).add r) = (opV o)[r]? := by
      intro i hi
      obtain ⟨cs', h1, h2⟩ := hel i (by omega)
      have hD : Rows.uptoBulk (D i) ≤ 1048576 := by
        have := bulk_mem (D i) ((List.range len).map D) (List.mem_map.2 ⟨i, List.mem_range.2 hi, rfl⟩)
        omega
      rw [cells63] at h1
      obtain ⟨_, hlen8, hcell⟩ := World.cells?_some h1
      obtain ⟨xs, k, hk', hxy, _, hxl, hfs⟩ := DataW.trod_struct Tryz.underlying33 h2
      have hxl8 : xs.length = 8 := hxl
      obtain ⟨y0, y1, y2, y3, y4, y5, y6, y7, rfl⟩ := list8 xs hxl8
      obtain ⟨v0, v1, v2, v3, v4, v5, v6, v7, rfl⟩ := list8 cs' hlen8
      have g0 := hfs 0 _ rfl
      have g1 := hfs 1 _ rfl
      have g2 := hfs 2 _ rfl
      have g3 := hfs 3 _ rfl
      have g4 := hfs 4 _ rfl
      have g5 := hfs 5 _ rfl
      have g6 := hfs 6 _ rfl
      have g7 := hfs 7 _ rfl
      simp [cells3, cells9] at g0 g1 g2 g3 g4 g5 g6 g7
      obtain ⟨n0, e0, z0, b0⟩ := DataW.trod_int Tryz.underlying3 g0
      obtain ⟨n1, e1, z1, b1⟩ := DataW.trod_int Tryz.underlying3 g1
      obtain ⟨n2, e2, z2, b2⟩ := DataW.trod_int Tryz.underlying3 g2
      obtain ⟨n3, e3, z3, b3⟩ := DataW.trod_int Tryz.underlying3 g3
      obtain ⟨n4, e4, z4, b4⟩ := DataW.trod_int Tryz.underlying3 g4
      obtain ⟨n5, e5, z5, b5⟩ := DataW.trod_int Tryz.underlying3 g5
      obtain ⟨n6, e6, z6, b6⟩ := DataW.trod_int Tryz.underlying3 g6
      obtain ⟨s, e7, z7, b7⟩ := DataW.trod_string Tryz.underlying9 g7
      simp at e0 e1 e2 e3 e4 e5 e6 e7
      subst e0 e1 e2 e3 e4 e5 e6 e7
      have hsz : s.size ≤ 1048576 := by
        have hd : D i = .agg [y0.1, y1.1, y2.1, y3.1, y4.1, y5.1, y6.1, y7.1] := by simpa using congrArg Prod.fst hxy
        rw [hd, z7] at hD
        simp only [Rows.uptoBulk, Rows.uptoBulkAll] at hD
        have e : s.data.toList.length = s.size := by rw [Array.length_toList]; rfl
        omega
      refine ⟨⟨n0, n1, n2, n3, n4, n5, n6, s⟩, ⟨(wf_bd b1).1, (wf_bd b1).2, (wf_bd b3).2, by show s.size ≤ _; omega⟩, fun r hr => ?_⟩
      rw [hcell r hr]; rfl
    have hin : Inhabited Op := ⟨⟨0, 0, 0, 0, 0, 0, 0, ByteArray.empty⟩⟩
    obtain ⟨ops, hops⟩ := choose_lt each
    exact ⟨ops, ⟨fun i hi => ⟨a, rfl, (hops i hi).2⟩, fun i hi => (hops i hi).1⟩, hlen⟩

theorem bytesOp : Tryz.prog.bytesOf 33 = 72 := by kernel_rfl
/-- The same, by what a slice may take. -/
theorem script_openF {H : Type} {enc : TypeId × Value → H} {W : World} {fuel : Nat} {a0 : Option Addr} {len cap : Nat} {x : DataW H × List MemPlace}
    (hf : DataW.trod enc Tryz.prog W 0 (fun _ => true) true fuel 22 [.slice a0 len cap] = some x) (hk : ∀ elems spare, x.1 = .slice elems spare → (elems.length + spare.length) * Tryz.prog.bytesOf 33 ≤ reachBytes) : ∃ ops, ScAt W a0 len ops ∧ len ≤ 1954687338268 := by
  rcases open_slice Tryz.underlying22 hf with ⟨hcs, hx⟩ | ⟨a, len', cap', m, n, D, Pl, hcs, -, hl, hm, hmm, hx, hel⟩
  · simp at hcs
    obtain ⟨rfl, rfl, rfl⟩ := hcs
    exact ⟨fun _ => ⟨0, 0, 0, 0, 0, 0, 0, ByteArray.empty⟩, ⟨fun i hi => absurd hi (by omega), fun i hi => absurd hi (by omega)⟩, by omega⟩
  · simp at hcs
    obtain ⟨rfl, rfl, rfl⟩ := hcs
    simp only [if_true] at hmm
    have hk2 := hk _ _ (by rw [hx])
    have hr := reachBytes_lt
    have hlen : len ≤ 1954687338268 := by
      rw [bytesOp, List.length_map, List.length_range] at hk2
      have : (2 : Nat) ^ 47 = 140737488355328 := by decide
      omega
    have each : ∀ i, i < len → ∃ o : Op, OpOk o ∧ ∀ r, r < 8 → W.cell? ((a.add (i * 8)).add r) = (opV o)[r]? := by
      intro i hi
      obtain ⟨cs', h1, h2⟩ := hel i (by omega)
      rw [cells63] at h1
      obtain ⟨_, hlen8, hcell⟩ := World.cells?_some h1
      obtain ⟨xs, k, hk', hxy, _, hxl, hfs⟩ := DataW.trod_struct Tryz.underlying33 h2
      have hxl8 : xs.length = 8 := hxl
      obtain ⟨y0, y1, y2, y3, y4, y5, y6, y7, rfl⟩ := list8 xs hxl8
      obtain ⟨v0, v1, v2, v3, v4, v5, v6, v7, rfl⟩ := list8 cs' hlen8
      have g0 := hfs 0 _ rfl
      have g1 := hfs 1 _ rfl
      have g2 := hfs 2 _ rfl
      have g3 := hfs 3 _ rfl
      have g4 := hfs 4 _ rfl
      have g5 := hfs 5 _ rfl
      have g6 := hfs 6 _ rfl
      have g7 := hfs 7 _ rfl
      simp [cells3, cells9] at g0 g1 g2 g3 g4 g5 g6 g7
      obtain ⟨n0, e0, z0, b0⟩ := DataW.trod_int Tryz.underlying3 g0
      obtain ⟨n1, e1, z1, b1⟩ := DataW.trod_int Tryz.underlying3 g1
      obtain ⟨n2, e2, z2, b2⟩ := DataW.trod_int Tryz.underlying3 g2
      obtain ⟨n3, e3, z3, b3⟩ := DataW.trod_int Tryz.underlying3 g3
      obtain ⟨n4, e4, z4, b4⟩ := DataW.trod_int Tryz.underlying3 g4
      obtain ⟨n5, e5, z5, b5⟩ := DataW.trod_int Tryz.underlying3 g5
      obtain ⟨n6, e6, z6, b6⟩ := DataW.trod_int Tryz.underlying3 g6
      obtain ⟨s, e7, z7, b7⟩ := DataW.trod_string Tryz.underlying9 g7
      simp at e0 e1 e2 e3 e4 e5 e6 e7
      subst e0 e1 e2 e3 e4 e5 e6 e7
      have hsz : s.size ≤ 9223372036854775807 := b7
      refine ⟨⟨n0, n1, n2, n3, n4, n5, n6, s⟩, ⟨(wf_bd b1).1, (wf_bd b1).2, (wf_bd b3).2, by show s.size ≤ _; omega⟩, fun r hr => ?_⟩
      rw [hcell r hr]; rfl
    have hin : Inhabited Op := ⟨⟨0, 0, 0, 0, 0, 0, 0, ByteArray.empty⟩⟩
    obtain ⟨ops, hops⟩ := choose_lt each
    exact ⟨ops, ⟨fun i hi => ⟨a, rfl, (hops i hi).2⟩, fun i hi => (hops i hi).1⟩, hlen⟩

end Go.Proofs.YtjhihliciadipabGreat
