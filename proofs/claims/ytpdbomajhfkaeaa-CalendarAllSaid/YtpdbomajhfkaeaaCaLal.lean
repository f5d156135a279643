/-
  The walk of the law CalendarAll.
-/
import Derived.Test.YtpdbomajhfkaeaaCaAwk
import Derived.Deep.RegionHeld3
import Derived.Sort.AtCall
namespace Go.Proofs.Ytpdbomajhfkaeaa.Ca
open Go.ChangeShapes Go.WideShapes Go.ChangeAt Go.RowKit
set_option linter.unusedVariables false

/-- Of three numbers the i-th one. -/
def pk3 (x y z : Int) (i : Nat) : Int := if i = 0 then x else if i = 1 then y else z
theorem cells3 (w : World) (x y z : Int) (t : TypeId) (i : Nat) (hi : i < 3) : (w.alloc (.cells #[.int .i64 x, .int .i64 y, .int .i64 z] t)).cell? ⟨w.heap.size, i, none⟩ = some (.int .i64 (pk3 x y z i)) := by
  match i, hi with
  | 0, _ => simp [pk3]
  | 1, _ => simp [pk3]
  | 2, _ => simp [pk3]

def pk2 (x y : Int) (i : Nat) : Int := if i = 0 then x else y
theorem cells6 (w : World) (x y z x' y' z' : Int) (t : TypeId) (i : Nat) (hi : i < 2) : (w.alloc (.cells #[.int .i64 x, .int .i64 y, .int .i64 z, .int .i64 x', .int .i64 y', .int .i64 z'] t)).cell? ⟨w.heap.size, i * 3, none⟩ = some (.int .i64 (pk2 x x' i)) ∧ (w.alloc (.cells #[.int .i64 x, .int .i64 y, .int .i64 z, .int .i64 x', .int .i64 y', .int .i64 z'] t)).cell? ⟨w.heap.size, i * 3 + 1, none⟩ = some (.int .i64 (pk2 y y' i)) ∧ (w.alloc (.cells #[.int .i64 x, .int .i64 y, .int .i64 z, .int .i64 x', .int .i64 y', .int .i64 z'] t)).cell? ⟨w.heap.size, i * 3 + 2, none⟩ = some (.int .i64 (pk2 z z' i)) := by
  match i, hi with
  | 0, _ => exact ⟨by simp [pk2], by simp [pk2], by simp [pk2]⟩
  | 1, _ => exact ⟨by simp [pk2], by simp [pk2], by simp [pk2]⟩
/-- The box of one span and a number of a list. -/
abbrev S4 (w0 : World) (k : Nat) (a b : Int) (j : Nat) (c : Int) (W : World) : Prop := W.cell? ⟨k, 0, none⟩ = some (.int .i64 a) ∧ W.cell? ⟨k, 1, none⟩ = some (.int .i64 b) ∧ W.cell? ⟨j, 1, none⟩ = some (.int .i64 c) ∧ Hid (Below w0.heap.size w0 W)
theorem S4.step {w0 : World} {k : Nat} {a b : Int} {j : Nat} {c : Int} {W W' : World} (h : S4 w0 k a b j c W) (hb : Below W.heap.size W W') : S4 w0 k a b j c W' := by
  have hx := (Bx2.mk h.1 h.2.1).up hb
  exact ⟨hx.c0, hx.c1, (hb.cell (p := ⟨j, 1, none⟩) (World.block_lt_of_cell? _ _ h.2.2.1)).trans h.2.2.1, h.2.2.2.out.trans (hb.mono h.2.2.2.out.size)⟩

/-- Two boxes. -/
abbrev S2 (w0 : World) (k : Nat) (a b : Int) (j : Nat) (c d : Int) (W : World) : Prop := W.cell? ⟨k, 0, none⟩ = some (.int .i64 a) ∧ W.cell? ⟨k, 1, none⟩ = some (.int .i64 b) ∧ W.cell? ⟨j, 0, none⟩ = some (.int .i64 c) ∧ W.cell? ⟨j, 1, none⟩ = some (.int .i64 d) ∧ Hid (Below w0.heap.size w0 W)
theorem S2.step {w0 : World} {k : Nat} {a b : Int} {j : Nat} {c d : Int} {W W' : World} (h : S2 w0 k a b j c d W) (hb : Below W.heap.size W W') : S2 w0 k a b j c d W' := by
  have hx := (Bx2.mk h.1 h.2.1).up hb
  have hy := (Bx2.mk h.2.2.1 h.2.2.2.1).up hb
  exact ⟨hx.c0, hx.c1, hy.c0, hy.c1, h.2.2.2.2.out.trans (hb.mono h.2.2.2.2.out.size)⟩

set_option maxRecDepth 100000 in
set_option maxHeartbeats 8000000 in
theorem lal_walk (af at_ bf bt t y d s : Int) (w : World) (ht : -9223372036854775808 ≤ t ∧ t ≤ 9223372036854775807) (hy : -9223372036854775808 ≤ y ∧ y ≤ 9223372036854775807) (hd : -9223372036854775808 ≤ d ∧ d ≤ 9223372036854775807) (hs : -9223372036854775808 ≤ s ∧ s ≤ 9223372036854775807) :
    Calls Try.prog 3 #[.agg #[.int .i64 af, .int .i64 at_], .agg #[.int .i64 bf, .int .i64 bt], .int .i64 t, .int .i64 y, .int .i64 d, .int .i64 s] w fun e w' => e = .returned (.bool true) ∧ Below w.heap.size w w' := by
  have HM1 := Lib.hid (fun W => mod_any t 16777217 W ht (by omega) (by omega))
  have HM2 := Lib.hid (fun W => mod_any t 100000 W ht (by omega) (by omega))
  have HM3 := Lib.hid (fun W => mod_any y 500 W hy (by omega) (by omega))
  have HM4 := Lib.hid (fun W => mod_any d 367 W hd (by omega) (by omega))
  have HM5 := Lib.hid (fun W => mod_any s 98 W hs (by omega) (by omega))
  have d1 := md_lo d 367 (by omega)
  have d2 := md_hi d 367 (by omega)
  have s1 := md_lo s 98 (by omega)
  have s2 := md_hi s 98 (by omega)
  generalize md t 16777217 = t' at *
  generalize md t 100000 = t'' at *
  generalize md y 500 = y' at *
  generalize md d 367 = d' at *
  generalize md s 98 = s' at *
  clear ht hy hd hs
  go_enter Try.func3, Try.ntmps3
  go_wp2_with (go_at_call 8; first | (go_at_call_has 8 (Value.int .i64 16777217); refine (HM1.out _).mono ?_; rintro e w' ⟨rfl, rfl⟩) | (go_at_call_has 8 (Value.int .i64 100000); refine (HM2.out _).mono ?_; rintro e w' ⟨rfl, rfl⟩))
  have hX := ((bx2_alloc w af at_ 23).alloc (.cells #[.int .i64 bf, .int .i64 bt] 23)).alloc (.cells #[.int .i64 t, .int .i64 t', .int .i64 t''] 3)
  have hY := (bx2_alloc (w.alloc (.cells #[.int .i64 af, .int .i64 at_] 23)) bf bt 23).alloc (.cells #[.int .i64 t, .int .i64 t', .int .i64 t''] 3)
  have hC := cells3 ((w.alloc (.cells #[.int .i64 af, .int .i64 at_] 23)).alloc (.cells #[.int .i64 bf, .int .i64 bt] 23)) t t' t'' 3
  rw [World.size_alloc] at hY
  rw [World.size_alloc, World.size_alloc] at hC
  have hB := (((Below.refl w.heap.size w).alloc (Nat.le_refl _) (.cells #[.int .i64 af, .int .i64 at_] 23)).alloc (by simp) (.cells #[.int .i64 bf, .int .i64 bt] 23)).alloc (by simp; omega) (.cells #[.int .i64 t, .int .i64 t', .int .i64 t''] 3)
  have HX := Lib.hid hX
  have HY := Lib.hid hY
  have HC := Lib.hid hC
  have HB := Lib.hid hB
  clear hX hY hC hB HM1 HM2
  generalize ((w.alloc (.cells #[.int .i64 af, .int .i64 at_] 23)).alloc (.cells #[.int .i64 bf, .int .i64 bt] 23)).alloc (.cells #[.int .i64 t, .int .i64 t', .int .i64 t''] 3) = w4 at *
  generalize hka : w.heap.size = ka at *
  have HKA := Lib.hid hka
  clear hka
  go_loop [40] (fun i => ∃ k : Nat, k ≤ 3 ∧ i = .int .i64 k) (fun i => 3 - (intOf i).toNat)
  case atStart => exact ⟨0, by omega, rfl⟩
  case round =>
    obtain ⟨k, hk, rfl⟩ := hrel
    by_cases hlt : k < 3
    · have hki : (k : Int) < 3 := by omega
      have hc := HC.out k hlt
      clear HC
      generalize pk3 t t' t'' k = x at *
      have HD := Lib.hid (fun W => day_any x W)
      have HE := Lib.hid (fun W => rday_any x W)
      have HO := Lib.hid (fun W => of_any x W)
      have HP := Lib.hid (fun W => rof_any x W)
      generalize yrT x = p1 at *
      generalize dyT x = p2 at *
      generalize nrT x = p3 at *
      generalize erT x = p4 at *
      have e1 : (p1 != p1) = false := by simp
      have e2 : (p2 != p2) = false := by simp
      have e3 : (p3 != p3) = false := by simp
      have e4 : (p4 != p4) = false := by simp
      go_wp2_with (first
        | (go_at_call 9; refine (HD.out _).mono ?_; rintro e w' ⟨rfl, rfl⟩)
        | (go_at_call 10; refine (HE.out _).mono ?_; rintro e w' ⟨rfl, rfl⟩)
        | (go_at_call 11; refine (HO.out _).mono ?_; rintro e w' ⟨rfl, rfl⟩)
        | (go_at_call 12; refine (HP.out _).mono ?_; rintro e w' ⟨rfl, rfl⟩))
      go_round
      case rel => exact ⟨k + 1, by omega, by go_num⟩
      case measure => simp [intOf]; omega
    · obtain rfl : k = 3 := by omega
      clear HC hlt hk
      go_wp2_with (go_at_call 8; first | (go_at_call_has 8 (Value.int .i64 500); refine (HM3.out _).mono ?_; rintro e w' ⟨rfl, rfl⟩) | (go_at_call_has 8 (Value.int .i64 367); refine (HM4.out _).mono ?_; rintro e w' ⟨rfl, rfl⟩) | (go_at_call_has 8 (Value.int .i64 98); refine (HM5.out _).mono ?_; rintro e w' ⟨rfl, rfl⟩))
      have hX5 := HX.out.alloc (.cells #[.int .i64 y, .int .i64 d, .int .i64 s, .int .i64 y', .int .i64 (d' - 1), .int .i64 (s' - 1)] 31)
      have hY5 := HY.out.alloc (.cells #[.int .i64 y, .int .i64 d, .int .i64 s, .int .i64 y', .int .i64 (d' - 1), .int .i64 (s' - 1)] 31)
      have hB5 := HB.out.alloc (by rw [← HKA.out]; exact HB.out.size) (.cells #[.int .i64 y, .int .i64 d, .int .i64 s, .int .i64 y', .int .i64 (d' - 1), .int .i64 (s' - 1)] 31)
      have HX5 := Lib.hid hX5
      have HY5 := Lib.hid hY5
      have HB5 := Lib.hid hB5
      have HC5 := Lib.hid (cells6 w4 y d s y' (d' - 1) (s' - 1) 31)
      have HL5 : Hid (w4.heap.size < (w4.alloc (.cells #[.int .i64 y, .int .i64 d, .int .i64 s, .int .i64 y', .int .i64 (d' - 1), .int .i64 (s' - 1)] 31)).heap.size) := by show w4.heap.size < _; simp
      clear hX5 hY5 hB5 HX HY HB
      generalize w4.alloc (.cells #[.int .i64 y, .int .i64 d, .int .i64 s, .int .i64 y', .int .i64 (d' - 1), .int .i64 (s' - 1)] 31) = w5 at *
      generalize w4.heap.size = nb at *
      have HS0 : Hid (Below w5.heap.size w5 w5) := Below.refl _ _
      go_loopw [112] (fun i wr => ∃ k : Nat, k ≤ 2 ∧ i = .int .i64 k ∧ Hid (Below w5.heap.size w5 wr)) (fun i _ => 2 - (intOf i).toNat)
      case atStart => exact ⟨0, by omega, rfl, HS0⟩
      case round =>
        clear HS0
        obtain ⟨j, hj, rfl, hb6⟩ := hrel
        by_cases hlt : j < 2
        · have hji : (j : Int) < 2 := by omega
          obtain ⟨h0, h1, h2⟩ := HC5.out j hlt
          clear HC5
          have c0 := (hb6.out.cell (p := ⟨nb, j * 3, none⟩) HL5.out).trans h0
          have c1 := (hb6.out.cell (p := ⟨nb, j * 3 + 1, none⟩) HL5.out).trans h1
          have c2 := (hb6.out.cell (p := ⟨nb, j * 3 + 2, none⟩) HL5.out).trans h2
          clear h0 h1 h2
          generalize pk2 y y' j = yy at *
          generalize pk2 d (d' - 1) j = dd at *
          generalize pk2 s (s' - 1) j = ss at *
          have HT := Lib.hid (fun W => time_any yy dd ss W)
          have HU := Lib.hid (fun W => rtime_any yy dd ss W)
          generalize tmV yy dd ss = tv at *
          generalize tmE yy dd ss = te at *
          have e1 : (tv != tv) = false := by simp
          have e2 : (te != te) = false := by simp
          go_wp2_with (first
            | (go_at_call 13; refine (HT.out _).mono ?_; rintro e w' ⟨rfl, rfl⟩)
            | (go_at_call 14; refine (HU.out _).mono ?_; rintro e w' ⟨rfl, rfl⟩))
          have HN1 : Hid ((wr.alloc (.cells #[.int .i64 yy, .int .i64 dd, .int .i64 ss] 31)).cell? ⟨wr.heap.size, 1, none⟩ = some (.int .i64 dd)) := by show World.cell? _ _ = _; simp
          have HAL := Lib.hid ((Below.refl wr.heap.size wr).alloc (Nat.le_refl _) (.cells #[.int .i64 yy, .int .i64 dd, .int .i64 ss] 31))
          have HB7 := Lib.hid (hb6.out.trans (HAL.out.mono hb6.out.size))
          clear HAL c0 c1 c2 HT HU e1 e2 hj
          have e1 : (tv != tv) = false := by simp
          have e2 : (te != te) = false := by simp
          generalize wr.alloc (.cells #[.int .i64 yy, .int .i64 dd, .int .i64 ss] 31) = w7 at *
          generalize wr.heap.size = gb at *
          have hX7 := HX5.out.up HB7.out
          have c0 := hX7.c0
          have c1 := hX7.c1
          have c2 := HN1.out
          have HS7 : Hid (S4 w5 ka af at_ gb dd w7.drew) := (show S4 w5 ka af at_ gb dd w7 from ⟨c0, c1, c2, HB7.out⟩).step ⟨rfl, rfl, rfl, Nat.le_refl _, fun _ _ => rfl⟩
          clear hX7
          have HI := Lib.hid (fun W => ins_any af at_ dd W)
          have HJ := Lib.hid (fun W => rins_any af at_ dd W)
          generalize insB af at_ dd = bb at *
          have HIS : Hid (∀ W, S4 w5 ka af at_ gb dd W → Calls Try.prog 15 #[.agg #[.int .i64 af, .int .i64 at_], .int .i64 dd] W fun e w' => e = .returned (.bool bb) ∧ S4 w5 ka af at_ gb dd w') := fun W h => (HI.out W).mono fun e w' ⟨he, hb⟩ => ⟨he, h.step hb⟩
          have HJS : Hid (∀ W, S4 w5 ka af at_ gb dd W → Calls Try.prog 16 #[.agg #[.int .i64 af, .int .i64 at_], .int .i64 dd] W fun e w' => e = .returned (.bool bb) ∧ S4 w5 ka af at_ gb dd w') := fun W h => (HJ.out W).mono fun e w' ⟨he, hb⟩ => ⟨he, h.step hb⟩
          clear HI HJ
          cases bb
          all_goals
            go_region_held3 (fun W => W.cell? ⟨ka, 0, none⟩ = some (.int .i64 af) ∧ W.cell? ⟨ka, 1, none⟩ = some (.int .i64 at_) ∧ W.cell? ⟨gb, 1, none⟩ = some (.int .i64 dd) ∧ Hid (Below w5.heap.size w5 W)) (first | exact HS7.out | assumption | go_keep)
              (first
                | (go_at_call 15; refine (HIS.out _ (by assumption)).mono ?_; rintro e w' ⟨rfl, hS⟩)
                | (go_at_call 16; refine (HJS.out _ (by assumption)).mono ?_; rintro e w' ⟨rfl, hS⟩))
            have HSF := Lib.hid hS.2.2.2.out
            go_wp2
            go_roundw
            case rel => exact ⟨j + 1, by omega, by go_num, HSF⟩
            case measure => simp [intOf]; omega
        · obtain rfl : j = 2 := by omega
          clear HC5 HL5 hlt hj
          have hX7 := HX5.out.up hb6.out
          have hY7 := HY5.out.up hb6.out
          have HBW : Hid (Below w.heap.size w wr) := by
            have h := HB5.out
            rw [← HKA.out] at h
            exact h.trans (hb6.out.mono h.size)
          clear HX5 HY5 hb6 HB5
          have c0 := hX7.c0
          have c1 := hX7.c1
          have c2 := hY7.c0
          have c3 := hY7.c1
          have HS7 : Hid (S2 w ka af at_ (ka + 1) bf bt wr.drew) := (show S2 w ka af at_ (ka + 1) bf bt wr from ⟨c0, c1, c2, c3, HBW.out⟩).step ⟨rfl, rfl, rfl, Nat.le_refl _, fun _ _ => rfl⟩
          clear hX7 hY7
          have HV := Lib.hid (fun W => valid_any af at_ W)
          have HRV := Lib.hid (fun W => rvalid_any af at_ W)
          have HD := Lib.hid (fun W => days_any af at_ W)
          have HRD := Lib.hid (fun W => rdays_any af at_ W)
          have HO := Lib.hid (fun W => both_any af at_ bf bt W)
          have HRO := Lib.hid (fun W => rboth_any af at_ bf bt W)
          have hL := bL_len (both af at_ bf bt) 365
          generalize bL (both af at_ bf bt) 365 = L at *
          have hnn : ((dyN af at_ : Int) == (dyN af at_ : Int)) = true := by simp
          have hdy := dyN_le af at_
          generalize dyN af at_ = m at *
          have HDS : Hid (∀ W, S2 w ka af at_ (ka + 1) bf bt W → Calls Try.prog 19 #[.agg #[.int .i64 af, .int .i64 at_]] W fun e w' => e = .returned (.int .i64 m) ∧ S2 w ka af at_ (ka + 1) bf bt w') := fun W h => (HD.out W).mono fun e w' ⟨he, hb⟩ => ⟨he, h.step hb⟩
          have HRDS : Hid (∀ W, S2 w ka af at_ (ka + 1) bf bt W → Calls Try.prog 20 #[.agg #[.int .i64 af, .int .i64 at_]] W fun e w' => e = .returned (.int .i64 m) ∧ S2 w ka af at_ (ka + 1) bf bt w') := fun W h => (HRD.out W).mono fun e w' ⟨he, hb⟩ => ⟨he, h.step hb⟩
          have HOS : Hid (∀ W, S2 w ka af at_ (ka + 1) bf bt W → Calls Try.prog 22 #[.agg #[.int .i64 af, .int .i64 at_], .agg #[.int .i64 bf, .int .i64 bt]] W fun e w' => (∃ g cp, e = .returned (.slice g L.length cp) ∧ Rd w' g L.length (lx L)) ∧ S2 w ka af at_ (ka + 1) bf bt w') := fun W h => (HO.out W).mono fun e w' ⟨v', he, hg, hb⟩ => by
            obtain ⟨g, cp, hv, hr⟩ := got_rd hg
            exact ⟨⟨g, cp, by rw [he, hv], hr⟩, h.step hb⟩
          have HROS : Hid (∀ W g, S2 w ka af at_ (ka + 1) bf bt W → Rd W g L.length (lx L) → Calls Try.prog 23 #[.agg #[.int .i64 af, .int .i64 at_], .agg #[.int .i64 bf, .int .i64 bt]] W fun e w' => (∃ g' cp, e = .returned (.slice g' L.length cp) ∧ Rd w' g' L.length (lx L) ∧ Rd w' g L.length (lx L)) ∧ S2 w ka af at_ (ka + 1) bf bt w') := fun W g h hrg => (HRO.out W).mono fun e w' ⟨v', he, hg, hb⟩ => by
            obtain ⟨g', cp, hv, hr⟩ := got_rd hg
            exact ⟨⟨g', cp, by rw [he, hv], hr, hrg.below hb (Nat.le_refl _)⟩, h.step hb⟩
          have HSS : Hid (∀ W g cp g' cp', S2 w ka af at_ (ka + 1) bf bt W → Rd W g L.length (lx L) → Rd W g' L.length (lx L) → Calls Try.prog 21 #[.slice g L.length cp, .slice g' L.length cp'] W fun e w' => e = .returned (.bool true) ∧ S2 w ka af at_ (ka + 1) bf bt w') := fun W g cp g' cp' h hr hr' => by
            have hs := same_eq g g' L.length cp cp' (lx L) (lx L) W (by omega) hr hr'
            rw [eqB_of (fun i _ => rfl)] at hs
            exact hs.mono fun e w' ⟨he, q, hq⟩ => ⟨he, by rw [hq]; exact h.step ⟨rfl, rfl, rfl, Nat.le_refl _, fun _ _ => rfl⟩⟩
          have HAS : Hid (∀ W, S2 w ka af at_ (ka + 1) bf bt W → Calls Try.prog 24 #[] W fun e w' => e = .returned (.bool true) ∧ S2 w ka af at_ (ka + 1) bf bt w') := fun W h => (awk_any W).mono fun e w' ⟨he, hb⟩ => ⟨he, h.step hb⟩
          clear HD HRD HO HRO
          go_wp2_with fail
          generalize valB af at_ = bb at *
          have HVS : Hid (∀ W, S2 w ka af at_ (ka + 1) bf bt W → Calls Try.prog 17 #[.agg #[.int .i64 af, .int .i64 at_]] W fun e w' => e = .returned (.bool bb) ∧ S2 w ka af at_ (ka + 1) bf bt w') := fun W h => (HV.out W).mono fun e w' ⟨he, hb⟩ => ⟨he, h.step hb⟩
          have HRVS : Hid (∀ W, S2 w ka af at_ (ka + 1) bf bt W → Calls Try.prog 18 #[.agg #[.int .i64 af, .int .i64 at_]] W fun e w' => e = .returned (.bool bb) ∧ S2 w ka af at_ (ka + 1) bf bt w') := fun W h => (HRV.out W).mono fun e w' ⟨he, hb⟩ => ⟨he, h.step hb⟩
          clear HV HRV
          cases bb
          all_goals
            go_region_held3 (fun W => W.cell? ⟨ka, 0, none⟩ = some (.int .i64 af) ∧ W.cell? ⟨ka, 1, none⟩ = some (.int .i64 at_) ∧ W.cell? ⟨ka + 1, 0, none⟩ = some (.int .i64 bf) ∧ W.cell? ⟨ka + 1, 1, none⟩ = some (.int .i64 bt) ∧ Hid (Below w.heap.size w W)) (first | exact HS7.out | assumption | go_keep)
              (first
                | (go_at_call 17; refine (HVS.out _ (by assumption)).mono ?_; rintro e w' ⟨rfl, hS⟩)
                | (go_at_call 18; refine (HRVS.out _ (by assumption)).mono ?_; rintro e w' ⟨rfl, hS⟩)
                | (go_at_call 19; refine (HDS.out _ (by assumption)).mono ?_; rintro e w' ⟨rfl, hS⟩)
                | (go_at_call 20; refine (HRDS.out _ (by assumption)).mono ?_; rintro e w' ⟨rfl, hS⟩)
                | (go_at_call 22; refine (HOS.out _ (by assumption)).mono ?_; rintro e w' ⟨⟨g, cp, rfl, hrg⟩, hS⟩; have HRG := Lib.hid hrg; clear hrg)
                | (go_at_call 23; refine (HROS.out _ _ (by assumption) HRG.out).mono ?_; rintro e w' ⟨⟨g', cp', rfl, hrg, hrh⟩, hS⟩; have HRH := Lib.hid hrg; have HRI := Lib.hid hrh; clear hrg hrh)
                | (go_at_call 21; refine (HSS.out _ _ _ _ _ (by assumption) HRI.out HRH.out).mono ?_; rintro e w' ⟨rfl, hS⟩)
                | (go_at_call 24; refine (HAS.out _ (by assumption)).mono ?_; rintro e w' ⟨rfl, hS⟩))
            go_wp2
            go_ret
            exact ⟨rfl, hS.2.2.2.2.out⟩
end Go.Proofs.Ytpdbomajhfkaeaa.Ca
