/- Parts of the proof that stand ahead of it. -/
import Derived.Test.YtdaadeohamkoiaaGreatDoorTokenTellsMore2
import Derived.Test.YtdaadeohamkoiaaGreatDoorTkK
import Derived.Test.YtdaadeohamkoiaaGreatDoorTkP
import Derived.Test.YtdaadeohamkoiaaGreatDoorTkV
import Derived.Deep.RegionHeld3
/- Contracts of the document's own answers of layer 5: the token from a place on: classes. -/
namespace Go.Proofs.YtdaadeohamkoiaaGreatDoor.T
open Go.RowKit
set_option linter.unusedVariables false
set_option linter.unusedSimpArgs false

theorem nrm_norm2 (xs : List (Int × Int)) (n : Int) : nrm (normL xs) n = nrm xs n := by
  unfold nrm
  rw [(norm_is xs).2]
  unfold inN
  cases G.dom n <;> rfl
set_option maxRecDepth 20000 in
set_option maxHeartbeats 4000000 in
theorem rnext_hat (s : ByteArray) (l : List Int) (h : St s l) (hs : l.length ≤ 3000) (a : Nat) (ha : a < l.length) (w : World) (hz : l.getD a 0 = 91) (ha2 : a + 1 < l.length) (h94 : l.getD (a + 1) 0 = 94) :
    Calls Tryz.prog 27 #[.string s, .int .i64 a] w fun e w' => ∃ v n, e = .returned (.tuple #[v, .int .i64 (n : Nat)]) ∧ TokP w' v n a (tokL (l.drop a)) ∧ Below w.heap.size w w' := by
  have hsz := h.size
  have x0 := h.ix ha
  obtain ⟨z0, z1⟩ := h.byte a
  have hd0 : (l.drop a).getD 0 0 = l.getD a 0 := by rw [drop_getD, Nat.add_zero]
  have haI : (a : Int) < (s.size : Int) := by omega
  have hss : s.size ≤ 3000 := by omega
  have CL := hideR (fun W => letter_any (l.getD a 0) z0 z1 W)
  have hl : isLet (l.getD a 0) = false := by rw [hz]; decide
  rw [hl] at CL
  rw [hz] at x0 CL
  have e1 : (l.drop a).drop 1 = l.drop (a + 1) := by rw [List.drop_drop]
  have hh : hatN (l.drop a) = 1 := by
    unfold hatN
    rw [drop_getD]
    rw [if_pos h94]
  have CT := hideR (fun W => items_any s l h (by omega) (a + 2) (by omega) 93 (by omega) (by omega) false W)
  have CN := hideR refNotO_any
  have CE := hideR refLessO_any
  have et : tokL (l.drop a) = match gatherL (itemL false) 93 (l.drop (a + 2)) with | none => none | some (l, n) => some ((2, [], classL true l), n + 1 + 1) := by
    unfold tokL
    rw [hh, hd0, hz, if_neg (by decide), if_neg (by decide), if_neg (by decide), if_neg (by decide), if_neg (by decide), if_pos rfl, List.drop_drop]
    rfl
  have hbd : U.isBytes (l.drop (a + 2)) := U.isBytes_drop h.2 _
  have gl := fun xs m hg => gather_len (stop := 93) (item_good false) _ (l.drop (a + 2)) xs m hbd (Nat.le_refl _) hg
  have x1 := h.ix (k := a + 1) ha2
  rw [h94] at x1
  replace x1 : ∀ W, (Instr.index 9 (.string s) (.int .i64 ((a : Int) + 1))).run Tryz.prog W = .ok (.int .u8 94) W := x1
  have ha3 : (a : Int) + 1 < (s.size : Int) := by omega
  cases hg : gatherL (itemL false) 93 (l.drop (a + 2)) with
  | none =>
    rw [hg] at CT et
    replace CT : Hid (∀ W, Calls Tryz.prog 55 #[.string s, .int .i64 ((a : Int) + 1 + 1), .int .u8 93, .bool false] W fun e w' => e = .returned (.tuple #[.slice none 0 0, .int .i64 0]) ∧ Below W.heap.size W w') := CT
    replace et : tokL (l.drop a) = none := et
    have ET := hideR et
    clear et hg gl hbd hd0 hsz h hl e1 hz hh h94 CN CE
    go_enter Tryz.func27, Tryz.ntmps27
    go_wp2_with fail
    refine (unhideR CL _).mono ?_
    rintro e w1 ⟨rfl, hw1⟩
    obtain rfl := hw1
    clear CL
    go_wp2_with fail
    refine (unhideR CT _).mono ?_
    rintro e w1 ⟨rfl, BB⟩
    clear CT
    obtain ⟨HG, HH⟩ := two_new BB
    obtain ⟨⟨q0, q1, q2, q3⟩, f0, f1, f2, f3⟩ := cells4 HG
    obtain ⟨⟨r0, r1, r2, r3⟩, -⟩ := cells4 HH
    go_wp2_with fail
    (try simp only [Exit.inBlock, Exit.then])
    refine bodyPost_ret (v := .tuple #[zeroTok, .int .i64 (0 : Nat)]) ?_ rfl ⟨_, _, rfl, .inl ⟨unhideR ET, rfl, rfl⟩, ?_⟩
    · rw [results_cell_tmp rfl]
      go_simp
      (try rfl)
    · first | exact set4 (b2_of BB) (Nat.le_refl _) _ _ _ _ | exact bthen (Below.new1 _) (Below.new1 _)
  | some p =>
    obtain ⟨xs, n⟩ := p
    have g := gl xs n hg
    rw [List.length_drop] at g
    obtain ⟨n1, n2, -⟩ := g
    rw [hg] at CT et
    replace CT : Hid (∀ W, Calls Tryz.prog 55 #[.string s, .int .i64 ((a : Int) + 1 + 1), .int .u8 93, .bool false] W fun e w' => (∃ y cy, e = .returned (.tuple #[.slice y (normL xs).length cy, .int .i64 (n : Int)]) ∧ Rs w' y (normL xs).length cy (normL xs) ∧ Ty w' y) ∧ Below W.heap.size W w') := CT
    replace et : tokL (l.drop a) = some ((2, [], classL true xs), n + 1 + 1) := et
    have ET := hideR et
    have n0 : ((n : Int) == 0) = false := beq_eq_false_iff_ne.2 (by omega)
    have n3 : n ≤ 3000 := by omega
    clear et hg gl hbd hd0 hsz h hl e1 hz hh h94 n2
    go_enter Tryz.func27, Tryz.ntmps27
    go_wp2_with fail
    refine (unhideR CL _).mono ?_
    rintro e w1 ⟨rfl, hw1⟩
    obtain rfl := hw1
    clear CL
    go_wp2_with fail
    refine (unhideR CT _).mono ?_
    rintro e w1 ⟨⟨y, cy, rfl, hR, -⟩, B1⟩
    have HR := hideR hR
    clear CT hR
    have C3 := hideR (unhideR CN y (normL xs).length cy (normL xs) 1114111 w1 (unhideR HR) (by unfold fits; omega))
    clear CN HR
    go_wp2_with fail
    refine (unhideR C3).mono ?_
    rintro e w2 ⟨v, A, rfl, hO, hI, b2⟩
    clear C3
    obtain ⟨yb, cyb, rfl, hRA⟩ := Ow.rs hO (may_fits hI.1)
    have hI2 : G.Is A (notP xs 1114111) := hI.congr fun n => by unfold notP; rw [nrm_norm2]
    have HI := hideR hI2
    have C4 := hideR (unhideR CE yb A.length cyb A (some ⟨w2.heap.size, 0, none⟩) 1 1 [(55296, 57343)] (w2.alloc (boxRg 55296 57343)) (Rs.later hRA (Below.new1 _) (Nat.le_refl _)) (Rs.single w2 55296 57343 (by unfold fits; omega) (by unfold fits; omega) _ rfl))
    clear CE hO hI hI2 hRA
    unfold boxRg at C4
    go_wp2_with fail
    refine (unhideR C4).mono ?_
    intro e w3 an
    obtain ⟨u, cu, rfl, hN, b3⟩ := an_cls1 (unhideR HI) an
    have HN := hideR hN
    clear C4 an hN HI
    have BB := bthen (bthen (bthen B1 b2) (Below.new1 _)) b3
    obtain ⟨HG, HH⟩ := two_new BB
    obtain ⟨⟨q0, q1, q2, q3⟩, f0, f1, f2, f3⟩ := cells4 HG
    obtain ⟨⟨r0, r1, r2, r3⟩, -⟩ := cells4 HH
    go_wp2_with fail
    (try simp only [Exit.inBlock, Exit.then])
    refine bodyPost_ret (v := .tuple #[.agg #[.int .i64 2, .string ⟨#[]⟩, .slice u (classL true xs).length cu, .int .i64 (a : Int)], .int .i64 ((n + 1 + 1 : Nat) : Int)]) ?_ rfl ⟨_, _, rfl, .inr ⟨_, unhideR ET, u, cu, rfl, Rs.set4 (unhideR HN) HG _ _ _ _⟩, ?_⟩
    · rw [results_cell_tmp rfl]
      go_simp
      (try first | rfl | omega)
    · first | exact set4 (b2_of BB) (Nat.le_refl _) _ _ _ _ | exact bthen (Below.new1 _) (Below.new1 _)
set_option maxRecDepth 20000 in
set_option maxHeartbeats 4000000 in
theorem rnext_cls (s : ByteArray) (l : List Int) (h : St s l) (hs : l.length ≤ 3000) (a : Nat) (ha : a < l.length) (w : World) (hz : l.getD a 0 = 91) (ha2 : a + 1 < l.length) (h94 : ¬ l.getD (a + 1) 0 = 94) :
    Calls Tryz.prog 27 #[.string s, .int .i64 a] w fun e w' => ∃ v n, e = .returned (.tuple #[v, .int .i64 (n : Nat)]) ∧ TokP w' v n a (tokL (l.drop a)) ∧ Below w.heap.size w w' := by
  have hsz := h.size
  have x0 := h.ix ha
  obtain ⟨z0, z1⟩ := h.byte a
  have hd0 : (l.drop a).getD 0 0 = l.getD a 0 := by rw [drop_getD, Nat.add_zero]
  have haI : (a : Int) < (s.size : Int) := by omega
  have hss : s.size ≤ 3000 := by omega
  have CL := hideR (fun W => letter_any (l.getD a 0) z0 z1 W)
  have hl : isLet (l.getD a 0) = false := by rw [hz]; decide
  rw [hl] at CL
  rw [hz] at x0 CL
  have e1 : (l.drop a).drop 1 = l.drop (a + 1) := by rw [List.drop_drop]
  have hh : hatN (l.drop a) = 0 := by
    unfold hatN
    rw [drop_getD]
    rw [if_neg h94]
  have CT := hideR (fun W => items_any s l h (by omega) (a + 1) (by omega) 93 (by omega) (by omega) false W)
  have CN := hideR refNotO_any
  have CE := hideR refLessO_any
  have et : tokL (l.drop a) = match gatherL (itemL false) 93 (l.drop (a + 1)) with | none => none | some (l, n) => some ((2, [], classL false l), n + 1 + 0) := by
    unfold tokL
    rw [hh, hd0, hz, if_neg (by decide), if_neg (by decide), if_neg (by decide), if_neg (by decide), if_neg (by decide), if_pos rfl, List.drop_drop]
    rfl
  have hbd : U.isBytes (l.drop (a + 1)) := U.isBytes_drop h.2 _
  have gl := fun xs m hg => gather_len (stop := 93) (item_good false) _ (l.drop (a + 1)) xs m hbd (Nat.le_refl _) hg
  have x1 := h.ix (k := a + 1) ha2
  replace x1 : ∀ W, (Instr.index 9 (.string s) (.int .i64 ((a : Int) + 1))).run Tryz.prog W = .ok (.int .u8 (l.getD (a + 1) 0)) W := x1
  have ha3 : (a : Int) + 1 < (s.size : Int) := by omega
  have k94 : (l.getD (a + 1) 0 == 94) = false := beq_eq_false_iff_ne.2 h94
  generalize l.getD (a + 1) 0 = z2 at *
  cases hg : gatherL (itemL false) 93 (l.drop (a + 1)) with
  | none =>
    rw [hg] at CT et
    replace CT : Hid (∀ W, Calls Tryz.prog 55 #[.string s, .int .i64 ((a : Int) + 1), .int .u8 93, .bool false] W fun e w' => e = .returned (.tuple #[.slice none 0 0, .int .i64 0]) ∧ Below W.heap.size W w') := CT
    replace et : tokL (l.drop a) = none := et
    have ET := hideR et
    clear et hg gl hbd hd0 hsz h hl e1 hz hh h94 CN CE
    go_enter Tryz.func27, Tryz.ntmps27
    go_wp2_with fail
    refine (unhideR CL _).mono ?_
    rintro e w1 ⟨rfl, hw1⟩
    obtain rfl := hw1
    clear CL
    go_wp2_with fail
    refine (unhideR CT _).mono ?_
    rintro e w1 ⟨rfl, BB⟩
    clear CT
    obtain ⟨HG, HH⟩ := two_new BB
    obtain ⟨⟨q0, q1, q2, q3⟩, f0, f1, f2, f3⟩ := cells4 HG
    obtain ⟨⟨r0, r1, r2, r3⟩, -⟩ := cells4 HH
    go_wp2_with fail
    (try simp only [Exit.inBlock, Exit.then])
    refine bodyPost_ret (v := .tuple #[zeroTok, .int .i64 (0 : Nat)]) ?_ rfl ⟨_, _, rfl, .inl ⟨unhideR ET, rfl, rfl⟩, ?_⟩
    · rw [results_cell_tmp rfl]
      go_simp
      (try rfl)
    · first | exact set4 (b2_of BB) (Nat.le_refl _) _ _ _ _ | exact bthen (Below.new1 _) (Below.new1 _)
  | some p =>
    obtain ⟨xs, n⟩ := p
    have g := gl xs n hg
    rw [List.length_drop] at g
    obtain ⟨n1, n2, -⟩ := g
    rw [hg] at CT et
    replace CT : Hid (∀ W, Calls Tryz.prog 55 #[.string s, .int .i64 ((a : Int) + 1), .int .u8 93, .bool false] W fun e w' => (∃ y cy, e = .returned (.tuple #[.slice y (normL xs).length cy, .int .i64 (n : Int)]) ∧ Rs w' y (normL xs).length cy (normL xs) ∧ Ty w' y) ∧ Below W.heap.size W w') := CT
    replace et : tokL (l.drop a) = some ((2, [], classL false xs), n + 1 + 0) := et
    have ET := hideR et
    have n0 : ((n : Int) == 0) = false := beq_eq_false_iff_ne.2 (by omega)
    have n3 : n ≤ 3000 := by omega
    clear et hg gl hbd hd0 hsz h hl e1 hz hh h94 n2
    go_enter Tryz.func27, Tryz.ntmps27
    go_wp2_with fail
    refine (unhideR CL _).mono ?_
    rintro e w1 ⟨rfl, hw1⟩
    obtain rfl := hw1
    clear CL
    go_wp2_with fail
    refine (unhideR CT _).mono ?_
    rintro e w1 ⟨⟨y, cy, rfl, hR, -⟩, B1⟩
    have HR := hideR hR
    clear CT hR
    have C4 := hideR (unhideR CE y (normL xs).length cy (normL xs) (some ⟨w1.heap.size, 0, none⟩) 1 1 [(55296, 57343)] (w1.alloc (boxRg 55296 57343)) (Rs.later (unhideR HR) (Below.new1 _) (Nat.le_refl _)) (Rs.single w1 55296 57343 (by unfold fits; omega) (by unfold fits; omega) _ rfl))
    clear CE CN HR
    unfold boxRg at C4
    go_wp2_with fail
    refine (unhideR C4).mono ?_
    intro e w3 an
    obtain ⟨u, cu, rfl, hN, b3⟩ := an_cls0 an
    have HN := hideR hN
    clear C4 an hN
    have BB := bthen (bthen B1 (Below.new1 _)) b3
    obtain ⟨HG, HH⟩ := two_new BB
    obtain ⟨⟨q0, q1, q2, q3⟩, f0, f1, f2, f3⟩ := cells4 HG
    obtain ⟨⟨r0, r1, r2, r3⟩, -⟩ := cells4 HH
    go_wp2_with fail
    (try simp only [Exit.inBlock, Exit.then])
    refine bodyPost_ret (v := .tuple #[.agg #[.int .i64 2, .string ⟨#[]⟩, .slice u (classL false xs).length cu, .int .i64 (a : Int)], .int .i64 ((n + 1 + 0 : Nat) : Int)]) ?_ rfl ⟨_, _, rfl, .inr ⟨_, unhideR ET, u, cu, rfl, Rs.set4 (unhideR HN) HG _ _ _ _⟩, ?_⟩
    · rw [results_cell_tmp rfl]
      go_simp
      (try first | rfl | omega)
    · first | exact set4 (b2_of BB) (Nat.le_refl _) _ _ _ _ | exact bthen (Below.new1 _) (Below.new1 _)
set_option maxRecDepth 20000 in
set_option maxHeartbeats 4000000 in
theorem rnext_cls0 (s : ByteArray) (l : List Int) (h : St s l) (hs : l.length ≤ 3000) (a : Nat) (ha : a < l.length) (w : World) (hz : l.getD a 0 = 91) (ha2 : a + 1 = l.length) (h94 : ¬ l.getD (a + 1) 0 = 94) :
    Calls Tryz.prog 27 #[.string s, .int .i64 a] w fun e w' => ∃ v n, e = .returned (.tuple #[v, .int .i64 (n : Nat)]) ∧ TokP w' v n a (tokL (l.drop a)) ∧ Below w.heap.size w w' := by
  have hsz := h.size
  have x0 := h.ix ha
  obtain ⟨z0, z1⟩ := h.byte a
  have hd0 : (l.drop a).getD 0 0 = l.getD a 0 := by rw [drop_getD, Nat.add_zero]
  have haI : (a : Int) < (s.size : Int) := by omega
  have hss : s.size ≤ 3000 := by omega
  have CL := hideR (fun W => letter_any (l.getD a 0) z0 z1 W)
  have hl : isLet (l.getD a 0) = false := by rw [hz]; decide
  rw [hl] at CL
  rw [hz] at x0 CL
  have e1 : (l.drop a).drop 1 = l.drop (a + 1) := by rw [List.drop_drop]
  have hh : hatN (l.drop a) = 0 := by
    unfold hatN
    rw [drop_getD]
    rw [if_neg h94]
  have CT := hideR (fun W => items_any s l h (by omega) (a + 1) (by omega) 93 (by omega) (by omega) false W)
  have CN := hideR refNotO_any
  have CE := hideR refLessO_any
  have et : tokL (l.drop a) = match gatherL (itemL false) 93 (l.drop (a + 1)) with | none => none | some (l, n) => some ((2, [], classL false l), n + 1 + 0) := by
    unfold tokL
    rw [hh, hd0, hz, if_neg (by decide), if_neg (by decide), if_neg (by decide), if_neg (by decide), if_neg (by decide), if_pos rfl, List.drop_drop]
    rfl
  have hbd : U.isBytes (l.drop (a + 1)) := U.isBytes_drop h.2 _
  have gl := fun xs m hg => gather_len (stop := 93) (item_good false) _ (l.drop (a + 1)) xs m hbd (Nat.le_refl _) hg
  have ha3 : ¬ ((a : Int) + 1 < (s.size : Int)) := by omega
  cases hg : gatherL (itemL false) 93 (l.drop (a + 1)) with
  | none =>
    rw [hg] at CT et
    replace CT : Hid (∀ W, Calls Tryz.prog 55 #[.string s, .int .i64 ((a : Int) + 1), .int .u8 93, .bool false] W fun e w' => e = .returned (.tuple #[.slice none 0 0, .int .i64 0]) ∧ Below W.heap.size W w') := CT
    replace et : tokL (l.drop a) = none := et
    have ET := hideR et
    clear et hg gl hbd hd0 hsz h hl e1 hz hh h94 CN CE
    go_enter Tryz.func27, Tryz.ntmps27
    go_wp2_with fail
    refine (unhideR CL _).mono ?_
    rintro e w1 ⟨rfl, hw1⟩
    obtain rfl := hw1
    clear CL
    go_wp2_with fail
    refine (unhideR CT _).mono ?_
    rintro e w1 ⟨rfl, BB⟩
    clear CT
    obtain ⟨HG, HH⟩ := two_new BB
    obtain ⟨⟨q0, q1, q2, q3⟩, f0, f1, f2, f3⟩ := cells4 HG
    obtain ⟨⟨r0, r1, r2, r3⟩, -⟩ := cells4 HH
    go_wp2_with fail
    (try simp only [Exit.inBlock, Exit.then])
    refine bodyPost_ret (v := .tuple #[zeroTok, .int .i64 (0 : Nat)]) ?_ rfl ⟨_, _, rfl, .inl ⟨unhideR ET, rfl, rfl⟩, ?_⟩
    · rw [results_cell_tmp rfl]
      go_simp
      (try rfl)
    · first | exact set4 (b2_of BB) (Nat.le_refl _) _ _ _ _ | exact bthen (Below.new1 _) (Below.new1 _)
  | some p =>
    obtain ⟨xs, n⟩ := p
    have g := gl xs n hg
    rw [List.length_drop] at g
    obtain ⟨n1, n2, -⟩ := g
    rw [hg] at CT et
    replace CT : Hid (∀ W, Calls Tryz.prog 55 #[.string s, .int .i64 ((a : Int) + 1), .int .u8 93, .bool false] W fun e w' => (∃ y cy, e = .returned (.tuple #[.slice y (normL xs).length cy, .int .i64 (n : Int)]) ∧ Rs w' y (normL xs).length cy (normL xs) ∧ Ty w' y) ∧ Below W.heap.size W w') := CT
    replace et : tokL (l.drop a) = some ((2, [], classL false xs), n + 1 + 0) := et
    have ET := hideR et
    have n0 : ((n : Int) == 0) = false := beq_eq_false_iff_ne.2 (by omega)
    have n3 : n ≤ 3000 := by omega
    clear et hg gl hbd hd0 hsz h hl e1 hz hh h94 n2
    go_enter Tryz.func27, Tryz.ntmps27
    go_wp2_with fail
    refine (unhideR CL _).mono ?_
    rintro e w1 ⟨rfl, hw1⟩
    obtain rfl := hw1
    clear CL
    go_wp2_with fail
    refine (unhideR CT _).mono ?_
    rintro e w1 ⟨⟨y, cy, rfl, hR, -⟩, B1⟩
    have HR := hideR hR
    clear CT hR
    have C4 := hideR (unhideR CE y (normL xs).length cy (normL xs) (some ⟨w1.heap.size, 0, none⟩) 1 1 [(55296, 57343)] (w1.alloc (boxRg 55296 57343)) (Rs.later (unhideR HR) (Below.new1 _) (Nat.le_refl _)) (Rs.single w1 55296 57343 (by unfold fits; omega) (by unfold fits; omega) _ rfl))
    clear CE CN HR
    unfold boxRg at C4
    go_wp2_with fail
    refine (unhideR C4).mono ?_
    intro e w3 an
    obtain ⟨u, cu, rfl, hN, b3⟩ := an_cls0 an
    have HN := hideR hN
    clear C4 an hN
    have BB := bthen (bthen B1 (Below.new1 _)) b3
    obtain ⟨HG, HH⟩ := two_new BB
    obtain ⟨⟨q0, q1, q2, q3⟩, f0, f1, f2, f3⟩ := cells4 HG
    obtain ⟨⟨r0, r1, r2, r3⟩, -⟩ := cells4 HH
    go_wp2_with fail
    (try simp only [Exit.inBlock, Exit.then])
    refine bodyPost_ret (v := .tuple #[.agg #[.int .i64 2, .string ⟨#[]⟩, .slice u (classL false xs).length cu, .int .i64 (a : Int)], .int .i64 ((n + 1 + 0 : Nat) : Int)]) ?_ rfl ⟨_, _, rfl, .inr ⟨_, unhideR ET, u, cu, rfl, Rs.set4 (unhideR HN) HG _ _ _ _⟩, ?_⟩
    · rw [results_cell_tmp rfl]
      go_simp
      (try first | rfl | omega)
    · first | exact set4 (b2_of BB) (Nat.le_refl _) _ _ _ _ | exact bthen (Below.new1 _) (Below.new1 _)
end Go.Proofs.YtdaadeohamkoiaaGreatDoor.T

/- Contracts of the document's own answers of layer 5: all tokens of a text. -/
namespace Go.Proofs.YtdaadeohamkoiaaGreatDoor.T
open Go.RowKit
set_option linter.unusedVariables false
set_option linter.unusedSimpArgs false

theorem rnext_any (s : ByteArray) (l : List Int) (h : St s l) (hs : l.length ≤ 3000) (a : Nat) (ha : a < l.length) (w : World) :
    Calls Tryz.prog 27 #[.string s, .int .i64 a] w fun e w' => ∃ v n, e = .returned (.tuple #[v, .int .i64 (n : Nat)]) ∧ TokP w' v n a (tokL (l.drop a)) ∧ Below w.heap.size w w' := by
  cases hl : isLet (l.getD a 0) with
  | true => exact rnext_name s l h hs a ha w hl
  | false =>
    by_cases h2 : l.getD a 0 ∈ signs
    · exact rnext_sign s l h hs a ha w h2
    by_cases h3 : l.getD a 0 = 64
    · exact rnext_mark s l h hs a ha w h3
    by_cases h4 : l.getD a 0 = 34
    · exact rnext_lit s l h hs a ha w h4
    by_cases h6 : l.getD a 0 = 60
    · exact rnext_bytes s l h hs a ha w h6
    by_cases h5 : l.getD a 0 = 91
    · by_cases ha2 : a + 1 < l.length
      · by_cases h94 : l.getD (a + 1) 0 = 94
        · exact rnext_hat s l h hs a ha w h5 ha2 h94
        · exact rnext_cls s l h hs a ha w h5 ha2 h94
      · exact rnext_cls0 s l h hs a ha w h5 (by omega) (by rw [List.getD, List.getElem?_eq_none (by omega)]; decide)
    · exact rnext_none s l h hs a ha w hl h2 h3 h4 h5 h6
theorem join_snoc (acc : List (Tk × Nat)) (p : Tk × Nat) (x : Sum (Nat × Int) (List (Tk × Nat))) : joinS acc (consS p x) = joinS (acc ++ [p]) x := by
  cases x with
  | inl e => rfl
  | inr l => simp [joinS, consS]
theorem bl_is (z : Int) : isBl z = true ↔ z = 32 ∨ z = 9 ∨ z = 10 ∨ z = 13 := by
  unfold isBl
  simp
  omega
set_option maxRecDepth 20000 in
set_option maxHeartbeats 8000000 in
theorem rall_any (s : ByteArray) (l : List Int) (h : St s l) (w : World) :
    Calls Tryz.prog 9 #[.string s] w fun e w' => AllR w' w.heap.size l e ∧ Below w.heap.size w w' := by
  have hsz := h.size
  have hbb := h.2
  by_cases hbig : 3000 < l.length
  · have e : allL l = .inl (0, 7) := by unfold allL; rw [if_pos hbig]
    have t1 : (3000 : Int) < (s.size : Int) := by omega
    have EQ := hideR e
    clear h hsz e
    go_enter Tryz.func9, Tryz.ntmps9
    go_wp2_with fail
    (try simp only [Exit.inBlock, Exit.then])
    refine bodyPost_ret (v := .tuple #[.slice none 0 0, .int .i64 (0 : Nat), .int .i64 7]) ?_ rfl ⟨.inl ⟨0, 7, unhideR EQ, rfl⟩, Below.refl _ _⟩
    simp [results, Tryz.results9]
  · have t1 : (s.size : Int) ≤ 3000 := by omega
    have ssl : s.size ≤ 3000 := by omega
    have CN := hideR (fun k (hk : k < l.length) W => rnext_any s l h (by omega) k hk W)
    have HS := hideR h
    have HL := hideR hsz
    have HBB := hideR hbb
    have AL : Hid (allL l = joinS [] (allA 0 600 (l.drop 0))) := by
      show _ = _
      rw [join_nil, List.drop_zero]
      exact allL_is (by omega)
    obtain ⟨ti, hi0, hz0, hz1, hz2⟩ := info_parts infoTok3
    clear h hsz hbb hbig
    go_enter Tryz.func9, Tryz.ntmps9
    go_wp2_with fail
    go_loopw [5, 6] (fun v j wr => ∃ (k : Nat) (acc : List (Tk × Nat)) (cs : List Value), k ≤ s.size ∧ acc.length ≤ 600 ∧ j = .int .i64 (k : Int) ∧ Hid (allL l = joinS acc (allA k (600 - acc.length) (l.drop k))) ∧ Hid (TkC wr acc cs) ∧ wr.ownsRow w.heap.size 24 4 v acc.length cs ∧ Below w.heap.size w wr) (fun _ j _ => s.size - (intOf j).toNat)
    case atStart => exact ⟨0, [], [], Nat.zero_le _, by simp, rfl, AL, by show _ = _; rfl, World.ownsRow_nil _ _ _ _, Below.refl _ _⟩
    case round =>
      obtain ⟨k, acc, cs, hk, hac, rfl, hA, hC, hown, hb⟩ := hrel
      have hws := hb.size
      by_cases hlt : k < s.size
      · have hkl : k < l.length := by rw [← unhideR HL]; exact hlt
        have x0 := (unhideR HS).ix hkl
        have hne : l.drop k ≠ [] := drop_ne hkl
        have hbk : U.isBytes (l.drop k) := U.isBytes_drop (unhideR HBB) k
        have hd0 : (l.drop k).getD 0 0 = l.getD k 0 := by rw [drop_getD, Nat.add_zero]
        have hldr : (l.drop k).length = s.size - k := by rw [List.length_drop, unhideR HL]
        have hkI : (k : Int) < (s.size : Int) := by omega
        cases hbl : isBl (l.getD k 0) with
        | true =>
          have AQ : Hid (allL l = joinS acc (allA (k + 1) (600 - acc.length) (l.drop (k + 1)))) := by
            show _ = _
            rw [hA.out, all_blank hbk hne (by rw [hd0]; exact hbl), List.drop_drop]
          have hz := (bl_is _).1 hbl
          generalize l.getD k 0 = z at *
          clear CN HS HBB hA hne hbk hd0 hldr hkl AL hbl
          rcases hz with rfl | rfl | rfl | rfl
          · go_wp2_with fail
            go_roundw
            case rel => exact ⟨k + 1, acc, cs, by omega, hac, by go_num, AQ, hC, hown, hb⟩
            case measure => simp [intOf]; omega
          · go_wp2_with fail
            go_roundw
            case rel => exact ⟨k + 1, acc, cs, by omega, hac, by go_num, AQ, hC, hown, hb⟩
            case measure => simp [intOf]; omega
          · go_wp2_with fail
            go_roundw
            case rel => exact ⟨k + 1, acc, cs, by omega, hac, by go_num, AQ, hC, hown, hb⟩
            case measure => simp [intOf]; omega
          · go_wp2_with fail
            go_roundw
            case rel => exact ⟨k + 1, acc, cs, by omega, hac, by go_num, AQ, hC, hown, hb⟩
            case measure => simp [intOf]; omega
        | false =>
          have hz : ¬ (l.getD k 0 = 32 ∨ l.getD k 0 = 9 ∨ l.getD k 0 = 10 ∨ l.getD k 0 = 13) := fun c => by rw [(bl_is _).2 c] at hbl; cases hbl
          have p1 : (l.getD k 0 == 32) = false := beq_eq_false_iff_ne.2 (fun c => hz (.inl c))
          have p2 : (l.getD k 0 == 9) = false := beq_eq_false_iff_ne.2 (fun c => hz (.inr (.inl c)))
          have p3 : (l.getD k 0 == 10) = false := beq_eq_false_iff_ne.2 (fun c => hz (.inr (.inr (.inl c))))
          have p4 : (l.getD k 0 == 13) = false := beq_eq_false_iff_ne.2 (fun c => hz (.inr (.inr (.inr c))))
          have hbl' : isBl ((l.drop k).getD 0 0) = false := by rw [hd0]; exact hbl
          have C1 := hideR (unhideR CN k hkl wr)
          cases e1 : tokL (l.drop k) with
          | none =>
            have EQ : Hid (allL l = .inl (k, 2)) := by
              show _ = _
              rw [hA.out, all_bad hne hbl' e1]
              rfl
            rw [e1] at C1
            generalize l.getD k 0 = z at *
            clear CN HS HBB hA hne hbk hd0 hldr hkl AL hbl hbl' e1 hz hC hown
            go_wp2_with fail
            refine (unhideR C1).mono ?_
            rintro e w1 ⟨v, n, rfl, tp, b1⟩
            clear C1
            rcases tp with ⟨-, rfl, rfl⟩ | ⟨t, et, -⟩
            · unfold zeroTok
              go_wp2_with fail
              (try simp only [Exit.inBlock, Exit.then])
              refine bodyPost_ret (v := .tuple #[.slice none 0 0, .int .i64 (k : Nat), .int .i64 2]) ?_ rfl ⟨.inl ⟨k, 2, unhideR EQ, rfl⟩, (hb.trans (b1.mono hws)).alloc (by have := b1.size; omega) _⟩
              simp [results, Tryz.results9]
            · cases et
          | some p =>
            obtain ⟨t, m⟩ := p
            have gd := tok_ok hbk e1
            rw [hldr] at gd
            obtain ⟨-, m1, m2⟩ := gd
            have n0 : ((m : Int) == 0) = false := beq_eq_false_iff_ne.2 (by omega)
            rw [e1] at C1
            by_cases full : acc.length = 600
            · have EQ : Hid (allL l = .inl (k, 7)) := by
                show _ = _
                rw [hA.out, full, Nat.sub_self, all_many hne hbl' e1]
                rfl
              have f1 : ((acc.length : Int) == 600) = true := by simp; omega
              have f2 : (acc.length : Int) = 600 := by omega
              obtain ⟨q5, c5, e5⟩ := own_form hown
              generalize l.getD k 0 = z at *
              clear CN HS HBB hA hne hbk hd0 hldr hkl AL hbl hbl' e1 hz hC hown
              subst e5
              go_wp2_with fail
              refine (unhideR C1).mono ?_
              rintro e w1 ⟨v, n, rfl, tp, b1⟩
              clear C1
              rcases tp with ⟨et, -⟩ | ⟨t', et, bb, cc, rfl, -⟩
              · cases et
              · injection et with et
                injection et with et1 et2
                subst et2
                generalize strOfNums t'.2.1 = S at *
                go_wp2_with fail
                (try simp only [Exit.inBlock, Exit.then])
                refine bodyPost_ret (v := .tuple #[.slice none 0 0, .int .i64 (k : Nat), .int .i64 7]) ?_ rfl ⟨.inl ⟨k, 7, unhideR EQ, rfl⟩, (hb.trans (b1.mono hws)).alloc (by have := b1.size; omega) _⟩
                simp [results, Tryz.results9]
            · have AQ : Hid (allL l = joinS (acc ++ [(t, k)]) (allA (k + m) (600 - (acc ++ [(t, k)]).length) (l.drop (k + m)))) := by
                show _ = _
                rw [hA.out, show 600 - acc.length = (600 - (acc ++ [(t, k)]).length) + 1 by simp; omega, all_tok hbk hne hbl' e1, List.drop_drop]
                exact join_snoc acc (t, k) _
              have f1 : ((acc.length : Int) == 600) = false := beq_eq_false_iff_ne.2 (by omega)
              obtain ⟨q5, c5, e5⟩ := own_form hown
              have HO := hideR hown
              generalize l.getD k 0 = z at *
              clear CN HS HBB hA hne hbk hd0 hldr hkl AL hbl hbl' e1 hz hown
              subst e5
              go_wp2_with fail
              refine (unhideR C1).mono ?_
              rintro e w1 ⟨v, n, rfl, tp, b1⟩
              clear C1
              rcases tp with ⟨et, -⟩ | ⟨t', et, tv⟩
              · cases et
              · injection et with et
                injection et with et1 et2
                subst et1
                subst et2
                have HV := hideR tv
                obtain ⟨pa, pc, rfl, -⟩ := tv
                have HVH := hideR (fun W (bW : Below w1.heap.size w1 W) => TokV.later (unhideR HV) bW)
                have ho1 := ownL b1 (unhideR HO)
                have hC1 := hideR (TkC.later (unhideR hC) b1)
                have hb1 := hb.trans (b1.mono hws)
                have hs1 := hb1.size
                clear HV HO hC
                generalize strOfNums t.2.1 = S at *
                generalize t.2.2.length = rl at *
                generalize hK : t.1 = K at *
                go_wp2_with (at_builtin; refine wpList_append_lies _ rfl _ _ 26 rfl w.heap.size 24 ti _ 4 56 Tryz.underlying26 hi0 hz0 hz1 hz2 rfl (by omega) _ _ _ rfl ((ho1.alloc _).alloc _) ⟨w1.heap.size + 1, 0, none⟩ 1 1 [.int .i64 K, .string S, .slice pa rl pc, .int .i64 (k : Int)] rfl rfl (new_tok _ _ _ _ _ _ (by simp)) (by simp [Value.oneCell']) (by omega) (by unfold maxLen; omega) (by omega) (by simp; omega) (w1.heap.size + 2) (by simp) ?_; intro gg cap1 w2 hown1 hgrow hat hlt1)
                have hb2 : Below w.heap.size w w2 := hb1.trans (below_app2 ho1 hs1 hgrow)
                have TV := TokV.grown ((ho1.alloc _).alloc _) hgrow
                have b12 : Below w1.heap.size w1 ((w1.alloc (.cells #[.int .i64 K, .string S, .slice pa rl pc, .int .i64 (k : Int)] 24)).alloc (.cells #[.int .i64 K, .string S, .slice pa rl pc, .int .i64 (k : Int)] 24)) := (Below.new1 _).alloc (by simp) _
                have HC2 := hideR (TkC.snoc (TV _ _ _ (unhideR HVH _ b12)) acc cs (TkC.mono TV acc cs (TkC.later (unhideR hC1) b12)))
                clear TV b12 HVH hC1 hgrow hat hlt1 ho1
                (try go_wp2_with fail)
                go_roundw
                case rel => exact ⟨k + m, acc ++ [(t, k)], _, by omega, by simp; omega, by go_num, AQ, HC2, by rw [List.length_append]; exact hown1, hb2⟩
                case measure => simp [intOf]; omega
      · obtain rfl : k = s.size := by omega
        have EQ : Hid (allL l = .inr acc) := by
          show _ = _
          rw [hA.out, List.drop_of_length_le (by rw [← unhideR HL]; omega), all_nil]
          simp [joinS]
        have t9 : ¬ ((s.size : Int) < (s.size : Int)) := by omega
        have HO := hideR hown
        clear hA CN HS HBB AL hown
        go_wp2_with fail
        (try simp only [Exit.inBlock, Exit.then])
        refine bodyPost_ret (v := .tuple #[u5, .int .i64 (l.length : Nat), .int .i64 0]) ?_ rfl ⟨.inr ⟨acc, u5, unhideR EQ, rfl, cs, unhideR HO, unhideR hC⟩, hb⟩
        rw [← unhideR HL]
        simp [results, Tryz.results9]
end Go.Proofs.YtdaadeohamkoiaaGreatDoor.T

/- The walk of TokenBlank. -/
namespace Go.Proofs.YtdaadeohamkoiaaGreatDoor.T
open Go.RowKit
set_option linter.unusedVariables false
set_option linter.unusedSimpArgs false

theorem st_of' (s : ByteArray) : ∃ l, St s l := by
  refine ⟨s.data.toList.map fun b => (b.toNat : Int), ?_, ?_⟩
  · apply ByteArray.ext
    apply Array.ext'
    rw [strOfNums_data, List.map_map]
    symm
    conv => rhs; rw [← List.map_id s.data.toList]
    refine List.map_congr_left fun b _ => ?_
    simp
  · intro z hz
    obtain ⟨b, _, rfl⟩ := List.mem_map.1 hz
    have := b.toNat_lt
    omega
theorem tks_form {w : World} {base : Nat} {v : Value} {ts : List (Tk × Nat)} (h : Tks w base v ts) : ∃ p c, v = .slice p ts.length c := by
  obtain ⟨cs, ho, -⟩ := h
  obtain ⟨p, c, e⟩ := own_form ho
  exact ⟨p, c, e⟩
/-- one of the tokens, where they lie, in every later world -/
theorem tks_cells {w : World} {base : Nat} {p : Option Addr} {n c : Nat} {ts : List (Tk × Nat)} (h : Tks w base (.slice p n c) ts) {i : Nat} {t : Tk} {q : Nat} (hi : ts[i]? = some (t, q)) :
    ∃ g a c', p = some ⟨g, 0, none⟩ ∧ g < w.heap.size ∧ ∀ W, Below w.heap.size w W → W.cell? ⟨g, i * 4, none⟩ = some (.int .i64 t.1) ∧ W.cell? ⟨g, i * 4 + 1, none⟩ = some (.string (strOfNums t.2.1)) ∧ W.cell? ⟨g, i * 4 + 2, none⟩ = some (.slice a t.2.2.length c') ∧ W.cell? ⟨g, i * 4 + 3, none⟩ = some (.int .i64 (q : Int)) ∧ Rs W a t.2.2.length c' t.2.2 := by
  obtain ⟨g, cap, a, c', ev, h1, h2, h3, y0, y1, y2, y3, hr⟩ := tks_at h hi
  injection ev with e1 e2 e3
  rw [show 4 * i = i * 4 by omega] at y0 y1 y2 y3
  have gl := block_lt' y0
  exact ⟨g, a, c', e1, gl, fun W b => ⟨(b.cell gl).trans y0, (b.cell gl).trans y1, (b.cell gl).trans y2, (b.cell gl).trans y3, Rs.later hr b (Nat.le_refl _)⟩⟩
end Go.Proofs.YtdaadeohamkoiaaGreatDoor.T

/- The walk of TokenBack. -/
namespace Go.Proofs.YtdaadeohamkoiaaGreatDoor.T
open Go.RowKit
set_option linter.unusedVariables false
set_option linter.unusedSimpArgs false

theorem keep_c {W V X : World} (b : Below W.heap.size W X) (e : V.heap = W.heap) {g o : Nat} {v : Value} (h : V.cell? ⟨g, o, none⟩ = some v) : X.cell? ⟨g, o, none⟩ = some v := by
  have h' : W.cell? ⟨g, o, none⟩ = some v := by
    unfold World.cell? at *
    rw [← e]
    exact h
  exact (b.cell (block_lt' h')).trans h'
theorem flat_ge {α : Type} {f : α → List Int} : ∀ {l : List α}, (∀ x ∈ l, f x ≠ []) → l.length ≤ (l.flatMap f).length := by
  intro l
  induction l with
  | nil => intro _; simp
  | cons x l ih =>
    intro h
    have h1 := ih fun y hy => h y (List.mem_cons_of_mem _ hy)
    have h2 : 0 < (f x).length := by have := h x (List.mem_cons_self ..); cases hq : f x <;> simp_all
    rw [List.flatMap_cons, List.length_append, List.length_cons]
    omega
theorem ok_sizes {t : Tk} (h : okT t) (hl : (textL t).length ≤ 3000) : t.2.1.length ≤ 3000 ∧ t.2.2.length ≤ 3000 := by
  obtain ⟨k, x, R⟩ := t
  rcases h with ⟨rfl, h1, h2, h3⟩ | ⟨rfl, h1, h2⟩ | ⟨rfl, ⟨c, h1, h2⟩, h3⟩ | ⟨rfl, h1, h2, h3⟩ | ⟨rfl, h1, h2, h3⟩ | ⟨rfl, h1, h2, h3⟩
  · simp only at h1 h2 h3 ⊢; rw [h3]; simp; omega
  · simp only at h1 h2 ⊢; have := marks_len x h1; rw [h2]; simp; omega
  · simp only at h2 h3 ⊢; rw [h2, h3]; simp
  · simp only at h3 ⊢
    have e : textL (1, x, R) = 34 :: (x.flatMap showP ++ [34]) := rfl
    rw [e, List.length_cons, List.length_append] at hl
    have := flat_ge (l := x) (f := showP) (fun c _ => piece_head.1)
    rw [h3]; simp; omega
  · simp only at h1 h2 h3 ⊢
    have e : textL (3, x, R) = 60 :: (R.flatMap (showI true) ++ [62]) := rfl
    rw [e, List.length_cons, List.length_append] at hl
    have := flat_ge (l := R) (f := showI true) (fun p hp => (showI_facts (okI_of (b := true) h2 h3 p hp)).1)
    rw [h1]; simp; omega
  · simp only at h1 h2 h3 ⊢
    have e : textL (2, x, R) = 91 :: (R.flatMap (showI false) ++ [93]) := rfl
    rw [e, List.length_cons, List.length_append] at hl
    have := flat_ge (l := R) (f := showI false) (fun p hp => (showI_facts (okI_of (b := false) h2 h3 p hp)).1)
    rw [h1]; simp; omega
/-- Text of a token that may be -/
theorem text_ok (t : Tk) (h : okT t) (hl : (textL t).length ≤ 3000) (a : Option Addr) (c : Nat) (p : Int) (w : World) (hr : Rs w a t.2.2.length c t.2.2) (hd : Db w) :
    Calls Tryz.prog 14 #[.agg (tokAgg t a c p)] w fun e w' => e = .returned (.string (strOfNums (textL t))) ∧ Below w.heap.size w w' := by
  obtain ⟨s1, s2⟩ := ok_sizes h hl
  have hp := ok_parts h
  have EN := ender_any w hd t.2.2 hr.hfit
  have C := text_l shA t a c p w ⟨hp.1, hp.2, s1, hr, s2⟩ EN
  rw [txtW_all (wr_bytes hp.2 s1 s2 EN).1, (may_iff (text_facts h).2.2).2 ⟨h, hl⟩, if_pos rfl] at C
  exact C
set_option maxRecDepth 20000 in
set_option maxHeartbeats 2000000 in
theorem all_huge (s : ByteArray) (l : List Int) (h : St s l) (hbig : 3000 < l.length) (w : World) :
    Calls Tryz.prog 8 #[.string s] w fun e w' => AllR w' w.heap.size l e ∧ Below w.heap.size w w' := by
  have hsz := h.size
  have e : allL l = .inl (0, 7) := by unfold allL; rw [if_pos hbig]
  have t1 : (3000 : Int) < (s.size : Int) := by omega
  have EQ := hideR e
  clear h hsz e
  go_enter Tryz.func8, Tryz.ntmps8
  go_wp2_with fail
  (try simp only [Exit.inBlock, Exit.then])
  refine bodyPost_ret (v := .tuple #[.slice none 0 0, .int .i64 (0 : Nat), .int .i64 7]) ?_ rfl ⟨.inl ⟨0, 7, unhideR EQ, rfl⟩, Below.refl _ _⟩
  simp [results, Tryz.results8]
/-- All, however long a text is -/
theorem all_any (s : ByteArray) (l : List Int) (h : St s l) (w : World) :
    Calls Tryz.prog 8 #[.string s] w fun e w' => AllR w' w.heap.size l e ∧ Below w.heap.size w w' := by
  by_cases hl : l.length ≤ 1000000
  · exact all_l s l h hl w
  · exact all_huge s l h (by omega) w
theorem map_at {a b : List (Tk × Nat)} (h : b.map Prod.fst = a.map Prod.fst) {i : Nat} {t : Tk} {q : Nat} (ha : a[i]? = some (t, q)) : ∃ q', b[i]? = some (t, q') := by
  have e := congrArg (fun l => l[i]?) h
  simp only [List.getElem?_map, ha, Option.map_some] at e
  cases hb : b[i]? with
  | none => rw [hb] at e; cases e
  | some x =>
    rw [hb] at e
    simp only [Option.map_some, Option.some.injEq] at e
    exact ⟨x.2, by rw [← e]⟩
theorem back_L {ts : List (Tk × Nat)} (h : ∀ p ∈ ts, okT p.1) (hc : ts.length ≤ 600) :
    (3000 < ((ts.map Prod.fst).flatMap sp).length ∧ allL ((ts.map Prod.fst).flatMap sp) = .inl (0, 7)) ∨ (((ts.map Prod.fst).flatMap sp).length ≤ 3000 ∧ ∃ l, allL ((ts.map Prod.fst).flatMap sp) = .inr l ∧ l.map Prod.fst = ts.map Prod.fst) := by
  by_cases c : 3000 < ((ts.map Prod.fst).flatMap sp).length
  · exact .inl ⟨c, by unfold allL; rw [if_pos c]⟩
  · refine .inr ⟨by omega, ?_⟩
    rw [allL_is (by omega)]
    exact back_all _ 0 600 (fun t ht => by obtain ⟨p, hp, rfl⟩ := List.mem_map.1 ht; exact h p hp) (by rw [List.length_map]; exact hc)
end Go.Proofs.YtdaadeohamkoiaaGreatDoor.T
