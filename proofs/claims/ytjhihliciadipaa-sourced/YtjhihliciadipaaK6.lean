import Derived.Test.YtjhihliciadipaaK5
set_option linter.unusedVariables false
set_option linter.unusedSimpArgs false
set_option linter.unnecessarySimpa false
namespace Go.Proofs.Ytjhihliciadipaa
open Go.RowKit

theorem jobs15 {P : Pl} (h : P.jobs.length = 3) : (P.jobs.map feV).flatten.length = 15 := by rw [flat_len 5 _ (fes_len _)]; simp [h]
def plA (P : Pl) : List Value := [.pointer (some ⟨P.q, 0, none⟩), .int .i64 P.st.m, .int .i64 P.st.b, .int .i64 P.st.wi, .int .i64 P.st.c, .int .i64 P.st.t]
def plZ (P : Pl) (V : Pv) : List Value := [V.p, V.t, V.k, V.s, V.o, .bool P.bad, .string P.ans]
theorem plV_eq (P : Pl) (V : Pv) : plV P V = plA P ++ ((P.jobs.map feV).flatten ++ (P.away.map .bool ++ plZ P V)) := rfl
theorem plV_end {P : Pl} (V : Pv) (nj : P.jobs.length = 3) (na : P.away.length = 3) (i : Nat) (u : Value) : (plV P V).set (24 + i) u = plA P ++ ((P.jobs.map feV).flatten ++ (P.away.map .bool ++ (plZ P V).set i u)) := by
  have hs : (plA P).length = 6 := rfl
  have hw : (P.away.map Value.bool).length = 3 := by simp [na]
  rw [plV_eq, List.set_append_right _ _ (by omega), hs, List.set_append_right _ _ (by rw [jobs15 nj]; omega), jobs15 nj, List.set_append_right _ _ (by rw [hw]; omega), hw, show 24 + i - 6 - 15 - 3 = i from by omega]
theorem plV_at {P : Pl} (V : Pv) (nj : P.jobs.length = 3) (na : P.away.length = 3) (i : Nat) : (plV P V)[24 + i]? = (plZ P V)[i]? := by
  have hs : (plA P).length = 6 := rfl
  have hw : (P.away.map Value.bool).length = 3 := by simp [na]
  rw [plV_eq, List.getElem?_append_right (by omega), hs, List.getElem?_append_right (by rw [jobs15 nj]; omega), jobs15 nj, List.getElem?_append_right (by rw [hw]; omega), hw, show 24 + i - 6 - 15 - 3 = i from by omega]
theorem PlX.cEnd {w : World} {y : Nat} {col : Nat → Nat} {k : Nat} {P : Pl} {V : Pv} (h : PlAt w y col k P V) (i : Nat) : w.cell? ⟨y, 24 + i, none⟩ = (plZ P V)[i]? := by
  rw [(h.blk id).cell, List.getElem?_toArray, plV_at V h.nj h.na]
theorem PlX.cSt {w : World} {y : Nat} {col : Nat → Nat} {k : Nat} {P : Pl} {V : Pv} (h : PlAt w y col k P V) (i : Nat) (hi : i < 6) : w.cell? ⟨y, i, none⟩ = (plA P)[i]? := by
  rw [(h.blk id).cell, List.getElem?_toArray, plV_eq, List.getElem?_append_left (by exact hi)]
theorem PlX.cJob {w : World} {y : Nat} {col : Nat → Nat} {k : Nat} {P : Pl} {V : Pv} (h : PlAt w y col k P V) (i r : Nat) (f : Fe) (hf : P.jobs[i]? = some f) (hr : r < 5) : w.cell? ⟨y, 6 + (i * 5 + r), none⟩ = (feV f)[r]? := by
  have hs : (plA P).length = 6 := rfl
  have hi : i < 3 := by have := (List.getElem?_eq_some_iff.1 hf).1; rw [h.nj] at this; exact this
  rw [(h.blk id).cell, List.getElem?_toArray, plV_eq, List.getElem?_append_right (by omega), hs, show 6 + (i * 5 + r) - 6 = i * 5 + r from by omega, List.getElem?_append_left (by rw [jobs15 h.nj]; omega), flat_get 5 _ (fes_len _) i r hr]
  simp [hf]
theorem PlX.cAway {w : World} {y : Nat} {col : Nat → Nat} {k : Nat} {P : Pl} {V : Pv} (h : PlAt w y col k P V) (i : Nat) (b : Bool) (hb : P.away[i]? = some b) : w.cell? ⟨y, 21 + i, none⟩ = some (.bool b) := by
  have hs : (plA P).length = 6 := rfl
  have hi := (List.getElem?_eq_some_iff.1 hb).1
  rw [(h.blk id).cell, List.getElem?_toArray, plV_eq, List.getElem?_append_right (by omega), hs, List.getElem?_append_right (by rw [jobs15 h.nj]; omega), jobs15 h.nj, show 21 + i - 6 - 15 = i from by omega, List.getElem?_append_left (by simpa using hi)]
  simp [hb]

/-- One element more behind the play's paths. -/
theorem PlX.addP {w w6 : World} {y : Nat} {col : Nat → Nat} {k : Nat} {P : Pl} {V : Pv} (h : PlAt w y col k P V) {v6 : Value} (x : Int) (ho : w6.ownsRow 0 3 1 v6 (P.paths.length + 1) (P.paths.map (.int .i64) ++ [.int .i64 x])) (hg : w.grownBy w6 V.p.ownBlock)
    (hw : v6.ownBlock = V.p.ownBlock ∨ v6.ownBlock = some w.heap.size) :
    PlAt (w6.setCell ⟨y, 24, none⟩ v6) y (recolK w6 (recolK w col (k + 1)) 0) k { P with paths := P.paths ++ [x] } { V with p := v6 } ∧ StK w (w6.setCell ⟨y, 24, none⟩ v6) col (recolK w6 (recolK w col (k + 1)) 0) k := by
  have hx := h.pp id
  have h2 := (h.weaken (Y := fun c => c = k + 1) (fun _ e => e.elim)).stay (S := fun b => V.p.ownBlock = some b) (Chg.of_grown hg (fun b hb => hb)) (fun b _ hb => hx.2 b hb) (k + 1)
  have hcol6 : ∀ b, v6.ownBlock = some b → recolK w col (k + 1) b = k + 1 := fun b hb => by
    rcases hw with h1 | h1
    · have hb' : V.p.ownBlock = some b := h1 ▸ hb
      rw [recolK_old (hx.1.lt b hb').2]; exact hx.2 b hb'
    · rw [h1] at hb; simp at hb; exact recolK_new (by omega)
  have hC : Chg (fun b => b = y) w6 (w6.setCell ⟨y, 24, none⟩ v6) := Chg.setCell (S := fun b => b = y) (Chg.refl _ _) (p := ⟨y, 24, none⟩) (Or.inl rfl) _
  have h3 := (h2.weaken (Y := fun c => c = k ∨ c = k + 1) (fun _ e => Or.inr e)).stay hC (fun b _ hb => by rw [hb]; exact Or.inl h2.c0) 0
  refine ⟨⟨h3.lt, h3.c0, fun _ => ?_, fun _ => ⟨?_, fun b hb => ?_⟩, fun _ => h3.tt (by omega), fun _ => h3.kk (by omega), fun _ => h3.ss (by omega), fun _ => h3.oo (by omega), fun _ => h3.pg (by omega), h3.nj, h3.na⟩, ?_⟩
  · have := (h2.blk (by omega)).set 24 v6
    rw [List.setIfInBounds_toArray, show 24 = 24 + 0 from rfl, plV_end V h.nj h.na 0 v6] at this
    exact this
  · have hn : v6.ownBlock ≠ some y := fun e => by have := hcol6 y e; rw [h2.c0] at this; omega
    have := own_chg ho hC (fun b hb e => hn (e ▸ hb))
    simpa using this
  · rw [recolK_old (ho.lt b hb).2]; exact hcol6 b hb
  · refine (StK.of (S := fun b => V.p.ownBlock = some b) (Chg.of_grown hg (fun b hb => hb)) (fun b _ hb => by rw [hx.2 b hb]; omega) (k + 1)).trans (StK.of hC (fun b _ hb => by rw [hb, h2.c0]; omega) 0)

/-- One element more behind the play's texts. -/
theorem PlX.addT {w w6 : World} {y : Nat} {col : Nat → Nat} {k : Nat} {P : Pl} {V : Pv} (h : PlAt w y col k P V) {v6 : Value} (x : ByteArray) (ho : w6.ownsRow 0 9 1 v6 (P.texts.length + 1) (P.texts.map .string ++ [.string x])) (hg : w.grownBy w6 V.t.ownBlock)
    (hw : v6.ownBlock = V.t.ownBlock ∨ v6.ownBlock = some w.heap.size) :
    PlAt (w6.setCell ⟨y, 25, none⟩ v6) y (recolK w6 (recolK w col (k + 2)) 0) k { P with texts := P.texts ++ [x] } { V with t := v6 } ∧ StK w (w6.setCell ⟨y, 25, none⟩ v6) col (recolK w6 (recolK w col (k + 2)) 0) k := by
  have hx := h.tt id
  have h2 := (h.weaken (Y := fun c => c = k + 2) (fun _ e => e.elim)).stay (S := fun b => V.t.ownBlock = some b) (Chg.of_grown hg (fun b hb => hb)) (fun b _ hb => hx.2 b hb) (k + 2)
  have hcol6 : ∀ b, v6.ownBlock = some b → recolK w col (k + 2) b = k + 2 := fun b hb => by
    rcases hw with h1 | h1
    · have hb' : V.t.ownBlock = some b := h1 ▸ hb
      rw [recolK_old (hx.1.lt b hb').2]; exact hx.2 b hb'
    · rw [h1] at hb; simp at hb; exact recolK_new (by omega)
  have hC : Chg (fun b => b = y) w6 (w6.setCell ⟨y, 25, none⟩ v6) := Chg.setCell (S := fun b => b = y) (Chg.refl _ _) (p := ⟨y, 25, none⟩) (Or.inl rfl) _
  have h3 := (h2.weaken (Y := fun c => c = k ∨ c = k + 2) (fun _ e => Or.inr e)).stay hC (fun b _ hb => by rw [hb]; exact Or.inl h2.c0) 0
  refine ⟨⟨h3.lt, h3.c0, fun _ => ?_, fun _ => h3.pp (by omega), fun _ => ⟨?_, fun b hb => ?_⟩, fun _ => h3.kk (by omega), fun _ => h3.ss (by omega), fun _ => h3.oo (by omega), fun _ => h3.pg (by omega), h3.nj, h3.na⟩, ?_⟩
  · have := (h2.blk (by omega)).set 25 v6
    rw [List.setIfInBounds_toArray, show 25 = 24 + 1 from rfl, plV_end V h.nj h.na 1 v6] at this
    exact this
  · have hn : v6.ownBlock ≠ some y := fun e => by have := hcol6 y e; rw [h2.c0] at this; omega
    have := own_chg ho hC (fun b hb e => hn (e ▸ hb))
    simpa using this
  · rw [recolK_old (ho.lt b hb).2]; exact hcol6 b hb
  · refine (StK.of (S := fun b => V.t.ownBlock = some b) (Chg.of_grown hg (fun b hb => hb)) (fun b _ hb => by rw [hx.2 b hb]; omega) (k + 2)).trans (StK.of hC (fun b _ hb => by rw [hb, h2.c0]; omega) 0)

/-- One element more behind the play's taken. -/
theorem PlX.addK {w w6 : World} {y : Nat} {col : Nat → Nat} {k : Nat} {P : Pl} {V : Pv} (h : PlAt w y col k P V) {v6 : Value} (x : ByteArray) (ho : w6.ownsRow 0 9 1 v6 (P.taken.length + 1) (P.taken.map .string ++ [.string x])) (hg : w.grownBy w6 V.k.ownBlock)
    (hw : v6.ownBlock = V.k.ownBlock ∨ v6.ownBlock = some w.heap.size) :
    PlAt (w6.setCell ⟨y, 26, none⟩ v6) y (recolK w6 (recolK w col (k + 3)) 0) k { P with taken := P.taken ++ [x] } { V with k := v6 } ∧ StK w (w6.setCell ⟨y, 26, none⟩ v6) col (recolK w6 (recolK w col (k + 3)) 0) k := by
  have hx := h.kk id
  have h2 := (h.weaken (Y := fun c => c = k + 3) (fun _ e => e.elim)).stay (S := fun b => V.k.ownBlock = some b) (Chg.of_grown hg (fun b hb => hb)) (fun b _ hb => hx.2 b hb) (k + 3)
  have hcol6 : ∀ b, v6.ownBlock = some b → recolK w col (k + 3) b = k + 3 := fun b hb => by
    rcases hw with h1 | h1
    · have hb' : V.k.ownBlock = some b := h1 ▸ hb
      rw [recolK_old (hx.1.lt b hb').2]; exact hx.2 b hb'
    · rw [h1] at hb; simp at hb; exact recolK_new (by omega)
  have hC : Chg (fun b => b = y) w6 (w6.setCell ⟨y, 26, none⟩ v6) := Chg.setCell (S := fun b => b = y) (Chg.refl _ _) (p := ⟨y, 26, none⟩) (Or.inl rfl) _
  have h3 := (h2.weaken (Y := fun c => c = k ∨ c = k + 3) (fun _ e => Or.inr e)).stay hC (fun b _ hb => by rw [hb]; exact Or.inl h2.c0) 0
  refine ⟨⟨h3.lt, h3.c0, fun _ => ?_, fun _ => h3.pp (by omega), fun _ => h3.tt (by omega), fun _ => ⟨?_, fun b hb => ?_⟩, fun _ => h3.ss (by omega), fun _ => h3.oo (by omega), fun _ => h3.pg (by omega), h3.nj, h3.na⟩, ?_⟩
  · have := (h2.blk (by omega)).set 26 v6
    rw [List.setIfInBounds_toArray, show 26 = 24 + 2 from rfl, plV_end V h.nj h.na 2 v6] at this
    exact this
  · have hn : v6.ownBlock ≠ some y := fun e => by have := hcol6 y e; rw [h2.c0] at this; omega
    have := own_chg ho hC (fun b hb e => hn (e ▸ hb))
    simpa using this
  · rw [recolK_old (ho.lt b hb).2]; exact hcol6 b hb
  · refine (StK.of (S := fun b => V.k.ownBlock = some b) (Chg.of_grown hg (fun b hb => hb)) (fun b _ hb => by rw [hx.2 b hb]; omega) (k + 3)).trans (StK.of hC (fun b _ hb => by rw [hb, h2.c0]; omega) 0)

/-- One element more behind the play's sent. -/
theorem PlX.addS {w w6 : World} {y : Nat} {col : Nat → Nat} {k : Nat} {P : Pl} {V : Pv} (h : PlAt w y col k P V) {v6 : Value} (x : Rp) (ho : w6.ownsRow 0 42 4 v6 (P.sent.length + 1) ((P.sent.map rpV).flatten ++ rpV x)) (hg : w.grownBy w6 V.s.ownBlock)
    (hw : v6.ownBlock = V.s.ownBlock ∨ v6.ownBlock = some w.heap.size) :
    PlAt (w6.setCell ⟨y, 27, none⟩ v6) y (recolK w6 (recolK w col (k + 4)) 0) k { P with sent := P.sent ++ [x] } { V with s := v6 } ∧ StK w (w6.setCell ⟨y, 27, none⟩ v6) col (recolK w6 (recolK w col (k + 4)) 0) k := by
  have hx := h.ss id
  have h2 := (h.weaken (Y := fun c => c = k + 4) (fun _ e => e.elim)).stay (S := fun b => V.s.ownBlock = some b) (Chg.of_grown hg (fun b hb => hb)) (fun b _ hb => hx.2 b hb) (k + 4)
  have hcol6 : ∀ b, v6.ownBlock = some b → recolK w col (k + 4) b = k + 4 := fun b hb => by
    rcases hw with h1 | h1
    · have hb' : V.s.ownBlock = some b := h1 ▸ hb
      rw [recolK_old (hx.1.lt b hb').2]; exact hx.2 b hb'
    · rw [h1] at hb; simp at hb; exact recolK_new (by omega)
  have hC : Chg (fun b => b = y) w6 (w6.setCell ⟨y, 27, none⟩ v6) := Chg.setCell (S := fun b => b = y) (Chg.refl _ _) (p := ⟨y, 27, none⟩) (Or.inl rfl) _
  have h3 := (h2.weaken (Y := fun c => c = k ∨ c = k + 4) (fun _ e => Or.inr e)).stay hC (fun b _ hb => by rw [hb]; exact Or.inl h2.c0) 0
  refine ⟨⟨h3.lt, h3.c0, fun _ => ?_, fun _ => h3.pp (by omega), fun _ => h3.tt (by omega), fun _ => h3.kk (by omega), fun _ => ⟨?_, fun b hb => ?_⟩, fun _ => h3.oo (by omega), fun _ => h3.pg (by omega), h3.nj, h3.na⟩, ?_⟩
  · have := (h2.blk (by omega)).set 27 v6
    rw [List.setIfInBounds_toArray, show 27 = 24 + 3 from rfl, plV_end V h.nj h.na 3 v6] at this
    exact this
  · have hn : v6.ownBlock ≠ some y := fun e => by have := hcol6 y e; rw [h2.c0] at this; omega
    have := own_chg ho hC (fun b hb e => hn (e ▸ hb))
    simpa using this
  · rw [recolK_old (ho.lt b hb).2]; exact hcol6 b hb
  · refine (StK.of (S := fun b => V.s.ownBlock = some b) (Chg.of_grown hg (fun b hb => hb)) (fun b _ hb => by rw [hx.2 b hb]; omega) (k + 4)).trans (StK.of hC (fun b _ hb => by rw [hb, h2.c0]; omega) 0)

/-- One element more behind the play's dst. -/
theorem PlX.addO {w w6 : World} {y : Nat} {col : Nat → Nat} {k : Nat} {P : Pl} {V : Pv} (h : PlAt w y col k P V) {v6 : Value} (x : Int) (ho : w6.ownsRow 0 3 1 v6 (P.dst.length + 1) (P.dst.map (.int .i64) ++ [.int .i64 x])) (hg : w.grownBy w6 V.o.ownBlock)
    (hw : v6.ownBlock = V.o.ownBlock ∨ v6.ownBlock = some w.heap.size) :
    PlAt (w6.setCell ⟨y, 28, none⟩ v6) y (recolK w6 (recolK w col (k + 5)) 0) k { P with dst := P.dst ++ [x] } { V with o := v6 } ∧ StK w (w6.setCell ⟨y, 28, none⟩ v6) col (recolK w6 (recolK w col (k + 5)) 0) k := by
  have hx := h.oo id
  have h2 := (h.weaken (Y := fun c => c = k + 5) (fun _ e => e.elim)).stay (S := fun b => V.o.ownBlock = some b) (Chg.of_grown hg (fun b hb => hb)) (fun b _ hb => hx.2 b hb) (k + 5)
  have hcol6 : ∀ b, v6.ownBlock = some b → recolK w col (k + 5) b = k + 5 := fun b hb => by
    rcases hw with h1 | h1
    · have hb' : V.o.ownBlock = some b := h1 ▸ hb
      rw [recolK_old (hx.1.lt b hb').2]; exact hx.2 b hb'
    · rw [h1] at hb; simp at hb; exact recolK_new (by omega)
  have hC : Chg (fun b => b = y) w6 (w6.setCell ⟨y, 28, none⟩ v6) := Chg.setCell (S := fun b => b = y) (Chg.refl _ _) (p := ⟨y, 28, none⟩) (Or.inl rfl) _
  have h3 := (h2.weaken (Y := fun c => c = k ∨ c = k + 5) (fun _ e => Or.inr e)).stay hC (fun b _ hb => by rw [hb]; exact Or.inl h2.c0) 0
  refine ⟨⟨h3.lt, h3.c0, fun _ => ?_, fun _ => h3.pp (by omega), fun _ => h3.tt (by omega), fun _ => h3.kk (by omega), fun _ => h3.ss (by omega), fun _ => ⟨?_, fun b hb => ?_⟩, fun _ => h3.pg (by omega), h3.nj, h3.na⟩, ?_⟩
  · have := (h2.blk (by omega)).set 28 v6
    rw [List.setIfInBounds_toArray, show 28 = 24 + 4 from rfl, plV_end V h.nj h.na 4 v6] at this
    exact this
  · have hn : v6.ownBlock ≠ some y := fun e => by have := hcol6 y e; rw [h2.c0] at this; omega
    have := own_chg ho hC (fun b hb e => hn (e ▸ hb))
    simpa using this
  · rw [recolK_old (ho.lt b hb).2]; exact hcol6 b hb
  · refine (StK.of (S := fun b => V.o.ownBlock = some b) (Chg.of_grown hg (fun b hb => hb)) (fun b _ hb => by rw [hx.2 b hb]; omega) (k + 5)).trans (StK.of hC (fun b _ hb => by rw [hb, h2.c0]; omega) 0)
end Go.Proofs.Ytjhihliciadipaa
