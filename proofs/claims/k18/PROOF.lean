import PyProof.Rows.All
import Wide.All
import OpenK.AllK
import Wide.FinOn
import HandS.Base
import HandS.Call
import HandS.List
import HandS.Comp
import HandS.Ends
import HandS.Words
import HandS.WordsList
import HandS.Wide
import HandS.DictComp
import HandS.Iter
import HandS.Style
import HandS.IsInst
import HandS.TupAny
import HandS.More
import HandS.DeepEq
import HandS.Deep
import PySem.Challenge.RW_countedonce_k18_blocks_and_homes
set_option Elab.async false
set_option linter.all false
set_option maxRecDepth 100000
set_option maxHeartbeats 4000000
namespace Kx
open PySem PySem.Spec PyProof.Rows L2
def topS (i : Nat) : Stmt := PySem.Challenge.pw_countedonce_k18_blocks_and_homes.main.body.getD i (.Pass ⟨0, 0, 0, 0⟩)
abbrev sCell : Stmt := topS 5
abbrev sDraw : Stmt := topS 6
abbrev sNumb : Stmt := topS 7
abbrev sNext : Stmt := topS 8
section
variable {P : Program} {w : World} {K : PySem.W.Frag} {mg : Str → Option Value} {base : Heap}
/-- a def of the top that keeps a promise, and may be called by its name -/
structure Ready (P : Program) (w : World) (K : PySem.W.Frag) (mg : Str → Option Value) (base : Heap) (k : Nat) (x : Str) (ps : List Str) (sp : Sp) : Prop where
  ex : ∃ f fd, FnOk P w K mg base CX0 k f fd ps sp ∧ Binds K fd ps [] ∧ mg x = some (.ref f) ∧ PySem.W.keepIn K (.ref f) = true
end
theorem pe_fn {X : Cx} {k : Nat} {x : Str} {ps : List Str} {sp : Sp} {p pos : Pos} {e : Expr} {es : List Expr} {t : TA} (G : Ready X.prog X.w X.K X.mg X.base k x ps sp) (hr : Room k X.A) (ha : PA X (e :: es) t) (hg : Gl X x := by rfl)
    (hdb : (x == ("__debug__" : Str)) = false := by decide) (he : starEach (e :: es) X.env = (false, eval e X.env) :: starEach es X.env := by rfl) (hpl : (backTo pos (starEach es X.env)).any (·.1) = false := by rfl) :
    PE X (.Call (.Name x p) (e :: es) [] pos) (tCall sp [] E0 t) := by
  obtain ⟨f, fd, h, hb, hm, hk⟩ := G.ex
  exact pe_call h hr hg hm hk hb .nil pass0 ha hdb he hpl
/-- all that was tracked is as it was, but what stands at d -/
def But (d : Addr) (H H' : Hp) : Prop := ∀ b o, b ≠ d → H b = some o → H' b = some o
theorem But.refl (d : Addr) (H : Hp) : But d H H := fun _ _ _ h => h
theorem But.trans {d : Addr} {H H1 H2 : Hp} (a : But d H H1) (b : But d H1 H2) : But d H H2 := fun c o n h => b c o n (a c o n h)
theorem same_but {d : Addr} {H H' : Hp} (a : Same H H') : But d H H' := fun c o _ h => a c o h
theorem same_upd {H : Hp} {p : Addr} {o : HO} (h : H p = none) : Same H (upd H p o) := fun b x e => by
  rw [upd_ne (ne_of_none e h)]
  exact e
section
variable {P : Program} {w : World} {K : PySem.W.Frag} {mg : Str → Option Value} {base : Heap}
/-! ### the law's draws -/
def spCell (K : PySem.W.Frag) : Sp := fun vs H Q _ => ∃ (a : Addr) (ns : List Int) (k : Int), vs = [.ref a, .int k] ∧ SqL K H a (ns.map V.int) ∧ 0 ≤ k ∧ ∀ c : Int, Q (.int c) H
theorem sc_cell : FnScope ["script", "k"] ["script", "k"] (defScope sCell) := ⟨rfl, rfl, rfl, by decide +kernel, rfl, by decide +kernel, by decide +kernel⟩
theorem ok_cell {f : Addr} {fd : FuncData} (F : Fun K "_law_cell_at" "_law_cell_at" sCell f fd) (m_len : mg "len" = none) : FnOk P w K mg base CX0 1 f fd ["script", "k"] (spCell K) := by
  refine F.ok sc_cell (fun vs H Q E h => ?_) (fun cdv A outer s H vs Q E hr h => ?_)
  · obtain ⟨a, ns, k, rfl, _⟩ := h
    rfl
  obtain ⟨a, ns, k, rfl, hS, h0, q⟩ := h
  refine ⟨_, pss_cons (ps_if (pt_cmpR op_lt (pv 1) (pe_callB call_len_seq (by rfl) m_len PySem.boot_len (pa_cons (pv 0) pa_nil)) (nomark _)) (pss_one (ps_ret (pe_ix ix_list (pv 0) (pv 1) (fun _ _ => rfl)))) (pss_nil))
      (pss_one (ps_ret pe_int)), ?_⟩
  refine ⟨_, rfl, _, rfl, a, _, rfl, .inl hS, _, _, rfl, rfl, _, rfl, ?_⟩
  refine ite2 (fun c => ?_) (fun c => q 0)
  have c' : k < ((ns.map V.int).length : Int) := of_decide_eq_true c
  have ek : k = ((k.toNat : Nat) : Int) := by omega
  have hk : k.toNat < ns.length := by rw [List.length_map] at c'; omega
  have ha : atI (ns.map V.int) ((k.toNat : Nat) : Int) = some (.int ns[k.toNat]) := atI_nat (by rw [List.getElem?_map, List.getElem?_eq_getElem hk] <;> rfl)
  rw [← ek] at ha
  exact ⟨_, rfl, _, rfl, a, _, _, _, rfl, rfl, hS, ha, q _⟩
def spDraw : Sp := fun vs H Q _ => ∃ (c k b : Int), vs = [.int c, .int k, .int b] ∧ 0 < b ∧ ∀ (r : Int) (H' : Hp), 0 ≤ r → r < b → Same H H' → Q (.int r) H'
theorem sc_draw : FnScope ["cell", "k", "bound", "primes"] ["cell", "k", "bound"] (defScope sDraw) := ⟨rfl, rfl, rfl, by decide +kernel, rfl, by decide +kernel, by decide +kernel⟩
def primesL : List Int := [1000003, 1000033, 1000037, 1000039, 1000081, 1000099, 1000117, 1000121, 1000133, 1000151, 1000159, 1000171, 1000183, 1000187, 1000193, 1000199]
theorem primes_at {i : Int} (h0 : 0 ≤ i) (h : i < 16) : ∃ p : Int, 0 < p ∧ atI (primesL.map V.int) i = some (.int p) := by
  have ei : i = ((i.toNat : Nat) : Int) := by omega
  have hk : i.toNat < primesL.length := by show i.toNat < 16; omega
  refine ⟨primesL[i.toNat], ?_, ?_⟩
  · have : ∀ x ∈ primesL, (0 : Int) < x := by decide
    exact this _ (List.getElem_mem hk)
  · have q : atI (primesL.map V.int) ((i.toNat : Nat) : Int) = some (.int primesL[i.toNat]) := atI_nat (by rw [List.getElem?_map, List.getElem?_eq_getElem hk] <;> rfl)
    rw [← ei] at q
    exact q
theorem ok_draw {f : Addr} {fd : FuncData} (F : Fun K "_law_draw" "_law_draw" sDraw f fd) (m_int : mg "int" = none) : FnOk P w K mg base CX0 1 f fd ["cell", "k", "bound"] spDraw := by
  refine F.ok sc_draw (fun vs H Q E h => ?_) (fun cdv A outer s H vs Q E hr h => ?_)
  · obtain ⟨c, k, b, rfl, _⟩ := h
    rfl
  obtain ⟨c, k, b, rfl, hb, q⟩ := h
  have nd := sc_draw.nd
  refine ⟨_, pss_cons (ps_set (i := 3) nd rfl (.inl rfl) (pe_tup (pa_cons pe_int (pa_cons pe_int (pa_cons pe_int (pa_cons pe_int (pa_cons pe_int (pa_cons pe_int (pa_cons pe_int (pa_cons pe_int (pa_cons pe_int (pa_cons pe_int (pa_cons pe_int (pa_cons pe_int (pa_cons pe_int (pa_cons pe_int (pa_cons pe_int (pa_cons pe_int pa_nil))))))))))))))))))
      (pss_one (ps_ret (pe_op op_mod (pe_op op_mod (pe_callTy call_int1 (by rfl) m_int boot_int (pa_cons (pe_op op_add (pe_op op_mul (pv 0) pe_int) (pe_op op_mul (pv 1) pe_int)) pa_nil)) (pe_ix ix_tup (pv 3) (pe_op op_mod (pe_callTy call_int1 (by rfl) m_int boot_int (pa_cons (pv 1) pa_nil)) pe_int) (fun _ _ => rfl))) (pv 2)))), ?_⟩
  refine ⟨by show 16 ≤ sizeLine; decide, fun t ht => ?_⟩
  obtain ⟨p, hp, hat⟩ := primes_at (i := k % 16) (by omega) (by omega)
  refine ⟨_, rfl, _, _, rfl, rfl, .inr (by show _ ∧ _; decide), _, rfl, _, _, rfl, rfl, .inr (by show _ ∧ _; decide), _, _, rfl, rfl, .inl ⟨_, rfl, ?_⟩⟩
  refine ⟨_, rfl, _, rfl, .inl ⟨_, rfl, _, _, rfl, rfl, (by show (0 : Int) < 16; decide), ?_⟩⟩
  refine ⟨t, primesL.map V.int, _, _, rfl, rfl, SqT.of upd_same, hat, _, _, rfl, rfl, hp, _, rfl, _, _, rfl, rfl, hb, ?_⟩
  exact q _ _ (Int.emod_nonneg _ (by omega)) (Int.emod_lt_of_pos _ hb) (same_upd ht)
end
end Kx

namespace Kx
open PySem PySem.Spec PyProof.Rows L2
section
variable {P : Program} {w : World} {K : PySem.W.Frag} {mg : Str → Option Value} {base : Heap}
theorem pow_lt : ∀ i : Nat, i < 24 → (1009 ^ i : Nat) < 2 ^ 240 := by decide +kernel
theorem sc_numb : FnScope ["cell", "k", "bound", "power", "lap", "remains", "small"] ["cell", "k", "bound"] (defScope sNumb) := ⟨rfl, rfl, rfl, by decide +kernel, rfl, by decide +kernel, by decide +kernel⟩
def spNumb : Sp := fun vs H Q _ => ∃ (c k b : Int), vs = [.int c, .int k, .int b] ∧ 0 ≤ k ∧ k ≤ 100 ∧ 0 < b ∧ ∀ (r : Int) (H' : Hp), 0 ≤ r → r < b → Same H H' → Q (.int r) H'
theorem ok_numb {f : Addr} {fd : FuncData} (F : Fun K "_law_number" "_law_number" sNumb f fd) (m_int : mg "int" = none) (m_range : mg "range" = none) (G_law_draw : Ready P w K mg base 1 "_law_draw" ["cell", "k", "bound"] spDraw) :
    FnOk P w K mg base CX0 2 f fd ["cell", "k", "bound"] spNumb := by
  refine F.ok sc_numb (fun vs H Q E h => ?_) (fun cdv A outer s H vs Q E hr h => ?_)
  · obtain ⟨c, k, b, rfl, _⟩ := h
    rfl
  obtain ⟨c, k, b, rfl, k0, k1, hb, q⟩ := h
  have nd := sc_numb.nd
  refine ⟨_, pss_cons (ps_set (i := 3) nd rfl (.inl rfl) pe_int)
      (pss_cons (ps_for PassesOwn.never rfl (pi_range1 rfl m_range (pa_cons (pe_op op_mod (pe_callTy call_int1 (by rfl) m_int boot_int (pa_cons (pv 1) pa_nil)) pe_int) pa_nil)) (pg_name (i := 4) nd rfl (.inl rfl)) (pss_one (ps_set (i := 3) nd rfl (.inl rfl) (pe_op op_mul (pv 3) pe_int))))
      (pss_cons (ps_set (i := 5) nd rfl (.inl rfl) (pe_op op_fdivW (pe_op op_sub (pv 0) (pe_op op_pow pe_int pe_int)) (pv 3)))
      (pss_cons (ps_if (pt_cmpR op_gt (pv 5) pe_int (nomark _)) (pss_one (ps_ret (pe_op op_mod (pe_op op_mod (pe_callTy call_int1 (by rfl) m_int boot_int (pa_cons (pv 5) pa_nil)) pe_int) (pv 2)))) (pss_nil))
      (pss_cons (ps_set (i := 6) nd rfl (.inl rfl) (pe_op op_mod (pe_callTy call_int1 (by rfl) m_int boot_int (pa_cons (pv 0) pa_nil)) pe_int))
      (pss_one (ps_ret (pe_op op_mod (pe_fn (G_law_draw) (hr.mono (by decide)) (pa_cons (pe_op op_mul (pe_op op_add (pv 6) (pe_op op_mul pe_int (pv 1))) (pe_op op_add (pe_op op_add (pv 6) (pe_op op_mul pe_int (pv 1))) pe_int)) (pa_cons (pe_op op_add (pe_op op_mod (pe_callTy call_int1 (by rfl) m_int boot_int (pa_cons (pv 1) pa_nil)) pe_int) pe_int) (pa_cons pe_int pa_nil)))) (pv 2)))))))), ?_⟩
  refine ⟨_, rfl, .inl ⟨_, rfl, _, _, rfl, rfl, (by show (0 : Int) < 24; decide), _, rfl, by omega, by omega, ?_⟩⟩
  have m0 : 0 ≤ k % 24 := Int.emod_nonneg _ (by omega)
  have m1 : k % 24 < 24 := Int.emod_lt_of_pos _ (by omega)
  refine for_range (fun i σ H' => ∃ y4, σ = [some (.int c), some (.int k), some (.int b), some (.int ((1009 ^ i : Nat) : Int)), y4, none, none] ∧ H' = H) ⟨none, rfl, rfl⟩ ?_ ?_
  · rintro i σ H' hi ⟨y4, rfl, rfl⟩
    refine ⟨_, rfl, _, _, rfl, rfl, .inr (by show _ ∧ _; decide), ?_⟩
    refine ⟨some (.int (0 + (i : Nat))), ?_, rfl⟩
    rw [Nat.pow_succ, Int.natCast_mul]
    rfl
  · rintro σ H' ⟨y4, rfl, rfl⟩
    have hj : (k % 24).toNat < 24 := by omega
    have hp := pow_lt _ hj
    have hp0 : 0 < (1009 ^ (k % 24).toNat : Nat) := Nat.pow_pos (by decide)
    generalize (1009 ^ (k % 24).toNat : Nat) = pw at hp hp0
    refine ⟨_, rfl, _, _, rfl, rfl, (by show _ ∧ _ ∧ _; decide), _, _, rfl, rfl, _, rfl, _, _, rfl, rfl, wide_div (b := 240) (by omega) (by omega) (by decide) (by decide), ?_⟩
    refine ⟨_, rfl, _, _, rfl, rfl, _, rfl, ?_⟩
    refine ite2 (fun _ => ?_) (fun _ => ?_)
    · refine ⟨_, rfl, .inl ⟨_, rfl, _, _, rfl, rfl, (by show (0 : Int) < 1009; decide), _, rfl, _, _, rfl, rfl, hb, ?_⟩⟩
      exact q _ _ (Int.emod_nonneg _ (by omega)) (Int.emod_lt_of_pos _ hb) (Same.refl _)
    · refine ⟨_, rfl, .inl ⟨_, rfl, _, _, rfl, rfl, (by show (0 : Int) < 1000003; decide), ?_⟩⟩
      have s0 : 0 ≤ c % 1000003 := Int.emod_nonneg _ (by omega)
      have s1 : c % 1000003 < 1000003 := Int.emod_lt_of_pos _ (by omega)
      refine ⟨_, rfl, _, rfl, _, _, rfl, rfl, .inl (by show _ ∧ _; decide), _, _, rfl, rfl, ?_⟩
      refine ⟨_, rfl, _, rfl, _, _, rfl, rfl, .inl (by show _ ∧ _; decide), _, _, rfl, rfl, _, _, rfl, rfl, _, _, rfl, rfl, .inl (by show _ ∧ _; omega), ?_⟩
      refine ⟨_, rfl, .inl ⟨_, rfl, _, _, rfl, rfl, (by show (0 : Int) < 9; decide), _, _, rfl, rfl, _, _, _, rfl, by decide, fun r H2 r0 r1 sm => ?_⟩⟩
      refine ⟨_, rfl, _, _, rfl, rfl, hb, ?_⟩
      exact q _ _ (Int.emod_nonneg _ (by omega)) (Int.emod_lt_of_pos _ hb) sm
/-- the three things of a draw: the script's first cells, where it begins, how many were drawn -/
structure DrawAt (H : Hp) (d s : Addr) (ns : List Int) (n : Int) : Prop where
  at_d : H d = some (.lst [.ref s, .int 0, .int n])
  at_s : H s = some (.lst (ns.map V.int))
  n0 : 0 ≤ n
theorem DrawAt.ne {H : Hp} {d s : Addr} {ns : List Int} {n : Int} (D : DrawAt H d s ns n) : s ≠ d := fun e => by
  have a := D.at_s
  rw [e, D.at_d] at a
  cases ns with
  | nil => cases a
  | cons x r => cases a
theorem DrawAt.keep {H H' : Hp} {d s : Addr} {ns : List Int} {n : Int} (D : DrawAt H d s ns n) (h : Same H H') : DrawAt H' d s ns n := ⟨h _ _ D.at_d, h _ _ D.at_s, D.n0⟩
def spNext : Sp := fun vs H Q _ => ∃ (d s : Addr) (ns : List Int) (n b : Int), vs = [.ref d, .int b] ∧ DrawAt H d s ns n ∧ 0 < b ∧ ∀ (r : Int) (H' : Hp), 0 ≤ r → r < b → But d H H' → DrawAt H' d s ns (n + 1) → Q (.int r) H'
theorem sc_next : FnScope ["draw", "bound", "at", "cell"] ["draw", "bound"] (defScope sNext) := ⟨rfl, rfl, rfl, by decide +kernel, rfl, by decide +kernel, by decide +kernel⟩
theorem ok_next {f : Addr} {fd : FuncData} (F : Fun K "_law_next" "_law_next" sNext f fd) (m_int : mg "int" = none) (G_law_cell_at : Ready P w K mg base 1 "_law_cell_at" ["script", "k"] (spCell K)) (G_law_number : Ready P w K mg base 2 "_law_number" ["cell", "k", "bound"] spNumb) :
    FnOk P w K mg base CX0 3 f fd ["draw", "bound"] spNext := by
  refine F.ok sc_next (fun vs H Q E h => ?_) (fun cdv A outer s H vs Q E hr h => ?_)
  · obtain ⟨d, s, ns, n, b, rfl, _⟩ := h
    rfl
  obtain ⟨d, s, ns, n, b, rfl, D, hb, q⟩ := h
  have nd := sc_next.nd
  refine ⟨_, pss_cons (ps_asg (pe_op op_add (pe_ix ix_list (pv 0) pe_int (fun _ _ => rfl)) pe_int) (pg_sub (pv 0) pe_int set_list))
      (pss_cons (ps_set (i := 2) nd rfl (.inl rfl) (pe_op op_fdiv (pe_ix ix_list (pv 0) pe_int (fun _ _ => rfl)) pe_int))
      (pss_cons (ps_set (i := 3) nd rfl (.inl rfl) (pe_op op_add (pe_fn (G_law_cell_at) (hr.mono (by decide)) (pa_cons (pe_ix ix_list (pv 0) pe_int (fun _ _ => rfl)) (pa_cons (pe_op op_add (pe_ix ix_list (pv 0) pe_int (fun _ _ => rfl)) (pv 2)) pa_nil))) (pe_op op_mul pe_int (pv 2))))
      (pss_one (ps_ret (pe_fn (G_law_number) (hr.mono (by decide)) (pa_cons (pv 3) (pa_cons (pe_op op_add (pe_op op_mod (pe_callTy call_int1 (by rfl) m_int boot_int (pa_cons (pe_ix ix_list (pv 0) pe_int (fun _ _ => rfl)) pa_nil)) pe_int) pe_int) (pa_cons (pv 1) pa_nil)))))))), ?_⟩
  refine ⟨_, rfl, d, _, 2, _, rfl, rfl, SqL.of D.at_d, rfl, _, _, rfl, rfl, _, rfl, d, _, _, _, rfl, rfl, D.at_d, rfl, ?_⟩
  have D1 : DrawAt (upd H d (.lst [.ref s, .int 0, .int (n + 1)])) d s ns (n + 1) := ⟨upd_same, by rw [upd_ne D.ne]; exact D.at_s, by have := D.n0; omega⟩
  have b1 : But d H (upd H d (.lst [.ref s, .int 0, .int (n + 1)])) := fun c o hc e => by rw [upd_ne hc]; exact e
  have n0 := D1.n0
  refine ⟨_, rfl, d, _, 2, _, rfl, rfl, SqL.of D1.at_d, rfl, _, _, rfl, rfl, (by show _ ∧ _; decide), ?_⟩
  refine ⟨_, rfl, d, _, 0, _, rfl, rfl, SqL.of D1.at_d, rfl, _, rfl, d, _, 1, _, rfl, rfl, SqL.of D1.at_d, rfl, _, rfl, _, _, rfl, rfl, s, ns, _, rfl, SqL.of D1.at_s, by omega, fun c => ?_⟩
  refine ⟨_, rfl, _, _, rfl, rfl, .inl (by show _ ∧ _; decide), _, _, rfl, rfl, ?_⟩
  refine ⟨_, rfl, _, rfl, d, _, 2, _, rfl, rfl, SqL.of D1.at_d, rfl, .inl ⟨_, rfl, _, _, rfl, rfl, (by show (0 : Int) < 12; decide), _, _, rfl, rfl, _, rfl, ?_⟩⟩
  refine ⟨_, _, _, rfl, by omega, by omega, hb, fun r H' r0 r1 sm => ?_⟩
  exact q r H' r0 r1 (b1.trans (same_but sm)) (D1.keep sm)
/-- a list or a tuple of values -/
def Seq (K : PySem.W.Frag) (H : Hp) (a : Addr) (xs : List V) : Prop := SqL K H a xs ∨ SqT K H a xs
theorem nth {xs : List V} {r : Int} (h0 : 0 ≤ r) (h1 : r < (xs.length : Int)) : ∃ v, v ∈ xs ∧ atI xs r = some v := by
  have er : r = ((r.toNat : Nat) : Int) := by omega
  have hk : r.toNat < xs.length := by omega
  have q : atI xs ((r.toNat : Nat) : Int) = some xs[r.toNat] := atI_nat (List.getElem?_eq_getElem hk)
  rw [← er] at q
  exact ⟨_, List.getElem_mem hk, q⟩
theorem But.sqT {H H' : Hp} {d a : Addr} {xs : List V} (h : But d H H') (hd : ∃ l, H d = some (.lst l)) (q : SqT K H a xs) : SqT K H' a xs := by
  rcases q with (q | ⟨o, q⟩) | q
  · refine .inl (.inl (h _ _ (fun e => ?_) q))
    obtain ⟨l, hl⟩ := hd
    rw [e, hl] at q
    cases q
  · refine .inl (.inr ⟨o, h _ _ (fun e => ?_) q⟩)
    obtain ⟨l, hl⟩ := hd
    rw [e, hl] at q
    cases q
  · exact .inr q
theorem But.seq {H H' : Hp} {d a : Addr} {xs : List V} (h : But d H H') (hd : a ≠ d) (q : Seq K H a xs) : Seq K H' a xs := by
  rcases q with ((q | ⟨o, q⟩) | q) | ((q | ⟨o, q⟩) | q)
  · exact .inl (.inl (.inl (h _ _ hd q)))
  · exact .inl (.inl (.inr ⟨o, h _ _ hd q⟩))
  · exact .inl (.inr q)
  · exact .inr (.inl (.inl (h _ _ hd q)))
  · exact .inr (.inl (.inr ⟨o, h _ _ hd q⟩))
  · exact .inr (.inr q)
end
end Kx

namespace Kx
open PySem PySem.Spec PyProof.Rows L2
abbrev sCut : Stmt := topS 1
abbrev sHomes : Stmt := topS 3
/-! ### where rows are cut -/
def sdA (n m k : Nat) : Nat := k * (n / m) + min k (n % m)
theorem sdA_succ (n m k : Nat) : sdA n m (k + 1) = sdA n m k + n / m + (if k < n % m then 1 else 0) := by
  unfold sdA
  rw [Nat.succ_mul]
  split <;> omega
theorem sdA_end (n m : Nat) (h : 0 < m) : sdA n m m = n := by
  unfold sdA
  have h1 := Nat.mod_lt n h
  have h2 := Nat.div_add_mod n m
  have h3 : min m (n % m) = n % m := by omega
  rw [h3]
  exact h2
theorem sdA_le (n m k : Nat) (h : 0 < m) (hk : k ≤ m) : sdA n m k ≤ n := by
  have h1 : k * (n / m) ≤ m * (n / m) := Nat.mul_le_mul_right _ hk
  have h2 := Nat.div_add_mod n m
  unfold sdA
  omega
def chA (xs : List V) (m k : Nat) : List V := (xs.take (sdA xs.length m (k + 1))).drop (sdA xs.length m k)
theorem cut_nat (xs : List V) {i j : Nat} (hi : i ≤ j) (hj : j ≤ xs.length) : cutV xs (some (i : Int)) (some (j : Int)) = (xs.take j).drop i := by
  unfold cutV
  rw [HT.sIx_nat, HT.sIx_nat, Nat.min_eq_left (Nat.le_trans hi hj), Nat.min_eq_left hj, List.drop_take]
theorem Same.sqT {K : PySem.W.Frag} {H H' : Hp} (h : Same H H') {a : Addr} {xs : List V} (q : SqT K H a xs) : SqT K H' a xs := by
  rcases q with (q | ⟨o, q⟩) | q
  · exact .inl (.inl (h _ _ q))
  · exact .inl (.inr ⟨o, h _ _ q⟩)
  · exact .inr q
theorem Same.sqL {K : PySem.W.Frag} {H H' : Hp} (h : Same H H') {a : Addr} {xs : List V} (q : SqL K H a xs) : SqL K H' a xs := by
  rcases q with (q | ⟨o, q⟩) | q
  · exact .inl (.inl (h _ _ q))
  · exact .inl (.inr ⟨o, h _ _ q⟩)
  · exact .inr q
theorem same_none {H H' : Hp} {b : Addr} (h : Same H H') (e : H' b = none) : H b = none := by
  cases k : H b with
  | none => rfl
  | some o => rw [h _ _ k] at e; cases e
/-- blocks at b: the pieces of xs -/
def Chunks (H : Hp) (b : Addr) (xs : List V) (m i : Nat) : Prop := ∃ cs : List Addr, H b = some (.lst (cs.map V.ref)) ∧ cs.length = i ∧ ∀ (k : Nat) (c : Addr), cs[k]? = some c → H c = some (.tup (chA xs m k))
theorem Chunks.same {H H' : Hp} {b : Addr} {xs : List V} {m i : Nat} (C : Chunks H b xs m i) (h : Same H H') : Chunks H' b xs m i := by
  obtain ⟨cs, c1, c2, c3⟩ := C
  exact ⟨cs, h _ _ c1, c2, fun k c e => h _ _ (c3 k c e)⟩
section
variable {P : Program} {w : World} {K : PySem.W.Frag} {mg : Str → Option Value} {base : Heap}
def spCut (K : PySem.W.Frag) : Sp := fun vs H Q _ => ∃ (a : Addr) (xs : List V) (m : Nat), vs = [.ref a, .int (m : Int)] ∧ SqL K H a xs ∧ 1 ≤ m ∧ m ≤ 100 ∧ xs.length ≤ 1000 ∧ ∀ b H', Same H H' → H b = none → Chunks H' b xs m m → Q (.ref b) H'
abbrev N_cut : List Str := ["rows", "many", "size", "more", "blocks", "start", "number", "end"]
theorem sc_cut : FnScope N_cut ["rows", "many"] (defScope sCut) := ⟨rfl, rfl, rfl, by decide +kernel, rfl, by decide +kernel, by decide +kernel⟩
theorem ok_cut {f : Addr} {fd : FuncData} (F : Fun K "cut_rows" "cut_rows" sCut f fd) (m_len : mg "len" = none) (m_divmod : mg "divmod" = none) (m_range : mg "range" = none) (m_tuple : mg "tuple" = none) : FnOk P w K mg base CX0 1 f fd ["rows", "many"] (spCut K) := by
  refine F.ok sc_cut (fun vs H Q E h => ?_) (fun cdv A outer s H vs Q E hr h => ?_)
  · obtain ⟨a, xs, m, rfl, _⟩ := h
    rfl
  obtain ⟨a, xs, m, rfl, hS, m1, m100, hl, q⟩ := h
  have nd := sc_cut.nd
  refine ⟨_, pss_cons (ps_asg (pe_callB call_divmod (by rfl) m_divmod (by decide +kernel) (pa_cons (pe_callB call_len_seq (by rfl) m_len PySem.boot_len (pa_cons (pv 0) pa_nil)) (pa_cons (pv 1) pa_nil))) (pg_tup rfl (pgs_cons (pg_name (i := 2) nd rfl (.inl rfl)) (pgs_cons (pg_name (i := 3) nd rfl (.inl rfl)) pgs_nil))))
      (pss_cons (ps_set (i := 4) nd rfl (.inl rfl) (pe_lst pa_nil))
      (pss_cons (ps_set (i := 5) nd rfl (.inl rfl) pe_int)
      (pss_cons (ps_for PassesOwn.never rfl (pi_range1 rfl m_range (pa_cons (pv 1) pa_nil)) (pg_name (i := 6) nd rfl (.inl rfl)) (pss_cons (ps_set (i := 7) nd rfl (.inl rfl) (pe_op op_add (pv 5) (pv 2)))
      (pss_cons (ps_if (pt_cmpR op_lt (pv 6) (pv 3) (nomark _)) (pss_one (ps_aug (i := 7) nd rfl (.inl rfl) pe_int ip_add)) (pss_nil))
      (pss_cons (ps_expr (pe_bm PySem.F.plainAttrs_list PySem.F.slot_list_append PySem.F.type_list_append mt_append (pv 4) (pa_cons (pe_callTy call_tuple_of (by rfl) m_tuple PyProof.Rows.boot_tuple (pa_cons (pe_slice sl_list (pv 0) (po_some (pv 5)) (po_some (pv 7))) pa_nil)) pa_nil)))
      (pss_one (ps_set (i := 5) nd rfl (.inl rfl) (pv 7)))))))
      (pss_one (ps_ret (pv 4)))))), ?_⟩
  have hn0 : (0 : Int) < (m : Int) := by omega
  refine ⟨_, rfl, a, _, rfl, .inl hS, _, rfl, _, _, rfl, ⟨hn0, by omega⟩, fun p np => ?_⟩
  rw [← Int.natCast_ediv, ← Int.natCast_emod]
  refine ⟨p, _, rfl, SqT.of upd_same, rfl, _, _, rfl, _, _, rfl, rfl, ?_⟩
  have s1 := same_upd (o := .tup [.int ((xs.length / m : Nat) : Int), .int ((xs.length % m : Nat) : Int)]) np
  refine ⟨(by decide), fun b nb => ?_⟩
  have hb : H b = none := same_none s1 nb
  refine ⟨_, rfl, _, rfl, by omega, by omega, ?_⟩
  refine for_range (fun i σ H' => ∃ y6 y7, σ = [some (.ref a), some (.int m), some (.int ((xs.length / m : Nat) : Int)), some (.int ((xs.length % m : Nat) : Int)), some (.ref b), some (.int ((sdA xs.length m i : Nat) : Int)), y6, y7] ∧ Same H H' ∧ Chunks H' b xs m i) ⟨none, none, ?_, s1.trans (same_upd nb), [], upd_same, rfl, fun k c e => by cases e⟩ ?_ ?_
  · have e0 : sdA xs.length m 0 = 0 := by simp [sdA]
    rw [e0]
    rfl
  · rintro i σ H' hi ⟨y6, y7, rfl, sm, cs, c1, c2, c3⟩
    have hi' : i < m := by
      have := hi
      simpa using this
    have d1 := sdA_succ xs.length m i
    have le1 := sdA_le xs.length m (i + 1) (by omega) hi'
    have fin : ∀ {Q : L2.St → Hp → Prop} {y6 y7 : Option V}, True := fun {_ _ _} => trivial
    have step : ∀ (H2 : Hp) (l : Addr), Same H' H2 → H2 l = some (.tup (chA xs m i)) → l ≠ b → H b = none → Same H (upd H2 b (.lst (cs.map V.ref ++ [.ref l]))) ∧ Chunks (upd H2 b (.lst (cs.map V.ref ++ [.ref l]))) b xs m (i + 1) := by
      intro H2 l s2 hl hlb _
      refine ⟨fun x o e => ?_, cs ++ [l], ?_, ?_, fun k c e => ?_⟩
      · rw [upd_ne (ne_of_none e hb)]
        exact s2 _ _ (sm _ _ e)
      · rw [upd_same, List.map_append]
        rfl
      · rw [List.length_append, c2]
        rfl
      · have hne : ∀ (z : Addr) (ys : List V), H2 z = some (.tup ys) → z ≠ b := fun z ys e1 e2 => by
          rw [e2, s2 _ _ c1] at e1
          cases e1
        by_cases hk : k < cs.length
        · rw [List.getElem?_append_left hk] at e
          have z := s2 _ _ (c3 k c e)
          rw [upd_ne (hne _ _ z)]
          exact z
        · rw [List.getElem?_append_right (by omega)] at e
          have hk0 : k - cs.length = 0 := by
            rcases Nat.eq_zero_or_pos (k - cs.length) with z | z
            · exact z
            · rw [List.getElem?_eq_none (by show 1 ≤ k - cs.length; exact z)] at e
              cases e
          rw [hk0] at e
          cases e
          have ek : k = i := by omega
          rw [ek, upd_ne hlb]
          exact hl
    have body : ∀ (e : Int), e = ((sdA xs.length m (i + 1) : Nat) : Int) → cutV xs (some ((sdA xs.length m i : Nat) : Int)) (some e) = chA xs m i := fun e he => by
      rw [he]
      exact cut_nat xs (by rw [d1, Nat.add_assoc]; exact Nat.le_add_right _ _) le1
    refine ⟨_, rfl, _, rfl, _, _, rfl, rfl, ?_⟩
    refine ⟨_, rfl, _, rfl, _, _, rfl, rfl, _, rfl, ?_⟩
    refine ite2 (fun c => ?_) (fun c => ?_)
    · have c' : i < xs.length % m := by
        have := of_decide_eq_true c
        omega
      rw [if_pos c'] at d1
      refine ⟨_, rfl, _, _, rfl, rfl, ?_⟩
      refine ⟨_, rfl, .inl ⟨rfl, _, SqL.of c1⟩, _, rfl, _, rfl, _, rfl, _, rfl, _, rfl, a, xs, rfl, Same.sqL sm hS, fun p1 n1 => ?_⟩
      rw [body _ (by rw [d1]; rfl)]
      have s2 := same_upd (o := .lst (chA xs m i)) n1
      refine ⟨p1, _, rfl, .inl ⟨SqL.of upd_same, fun l nl => ?_⟩⟩
      have s3 := s2.trans (same_upd (o := .tup (chA xs m i)) nl)
      obtain ⟨k1, k2⟩ := step _ l s3 upd_same (ne_of_none (s2 _ _ c1) nl).symm hb
      refine ⟨b, _, _, rfl, rfl, s3 _ _ c1, ?_, ?_⟩
      · rw [List.length_map, c2]
        exact Nat.lt_of_lt_of_le (show i < 100 by omega) (by decide)
      · refine ⟨_, rfl, some (.int (0 + (i : Nat))), some (.int ((sdA xs.length m (i + 1) : Nat) : Int)), ?_, k1, k2⟩
        rw [d1]
        rfl
    · have c' : ¬ i < xs.length % m := fun z => c (decide_eq_true (by omega))
      rw [if_neg c'] at d1
      refine ⟨_, rfl, .inl ⟨rfl, _, SqL.of c1⟩, _, rfl, _, rfl, _, rfl, _, rfl, _, rfl, a, xs, rfl, Same.sqL sm hS, fun p1 n1 => ?_⟩
      rw [body _ (by rw [d1]; rfl)]
      have s2 := same_upd (o := .lst (chA xs m i)) n1
      refine ⟨p1, _, rfl, .inl ⟨SqL.of upd_same, fun l nl => ?_⟩⟩
      have s3 := s2.trans (same_upd (o := .tup (chA xs m i)) nl)
      obtain ⟨k1, k2⟩ := step _ l s3 upd_same (ne_of_none (s2 _ _ c1) nl).symm hb
      refine ⟨b, _, _, rfl, rfl, s3 _ _ c1, ?_, ?_⟩
      · rw [List.length_map, c2]
        exact Nat.lt_of_lt_of_le (show i < 100 by omega) (by decide)
      · refine ⟨_, rfl, some (.int (0 + (i : Nat))), some (.int ((sdA xs.length m (i + 1) : Nat) : Int)), ?_, k1, k2⟩
        rw [d1]
        rfl
  · rintro σ H' ⟨y6, y7, rfl, sm, C⟩
    exact ⟨_, rfl, q b H' sm hb C⟩
def spHomes (K : PySem.W.Frag) : Sp := fun vs H Q _ => ∃ (n c m : Nat), vs = [.int (n : Int), .int (c : Int), .int (m : Int)] ∧ 1 ≤ m ∧ m ≤ 100 ∧ c ≤ 100 ∧ ∀ p H', Same H H' → H p = none → H' p = some (.tup ((List.range (min c m)).map fun k => V.int (((n + k) % m : Nat) : Int))) → Q (.ref p) H'
abbrev N_homes : List Str := ["number", "copies", "machines", "further"]
theorem sc_homes : FnScope N_homes ["number", "copies", "machines"] (defScope sHomes) := ⟨rfl, rfl, rfl, by decide +kernel, rfl, by decide +kernel, by decide +kernel⟩
theorem ok_homes {f : Addr} {fd : FuncData} (F : Fun K "homes_of" "homes_of" sHomes f fd) (m_range : mg "range" = none) (m_tuple : mg "tuple" = none) (m_min : mg "min" = none) : FnOk P w K mg base CX0 1 f fd ["number", "copies", "machines"] (spHomes K) := by
  refine F.ok sc_homes (fun vs H Q E h => ?_) (fun cdv A outer s H vs Q E hr h => ?_)
  · obtain ⟨n, c, m, rfl, _⟩ := h
    rfl
  obtain ⟨n, c, m, rfl, m1, m100, c100, q⟩ := h
  have nd := sc_homes.nd
  refine ⟨_, pss_one (ps_ret (pe_callTy call_tuple_of (by rfl) m_tuple PyProof.Rows.boot_tuple (pa_cons (pe_lc (own := [("further", 3)]) (g := gName 3) (tt := tYes) rfl nd (pi_range1 rfl m_range (pa_cons (pe_callB (call_min2 rfl) (by rfl) m_min (by decide +kernel) (pa_cons (pv 1) (pa_cons (pv 2) pa_nil))) pa_nil)) (blkOk_by (N := N_homes) (sc := defScope sHomes) (by decide +kernel)) (fun _ _ _ _ _ => pg_name (i := 3) nd rfl (Or.inl rfl)) (fun _ _ _ _ _ => pts_nil) (fun _ _ _ _ _ => (pe_op op_mod (pe_op op_add (pv 0) (pv 3)) (pv 2)))) pa_nil))), ?_⟩
  refine ⟨_, rfl, _, rfl, _, _, rfl, ?_⟩
  have emin : (if (m : Int) < (c : Int) then (m : Int) else (c : Int)) = ((min c m : Nat) : Int) := by
    split <;> omega
  rw [emin]
  refine ⟨_, rfl, by omega, by omega, fun D nD => ?_⟩
  refine lc_range (lo := 0) (n := min c m) (fun i H' => Same H H' ∧ H' D = some (.lst ((List.range i).map fun k => V.int (((n + k) % m : Nat) : Int)))) ⟨same_upd nD, upd_same⟩ ?_ ?_
  · rintro i H' hi ⟨sm, eD⟩
    refine ⟨rfl, ?_⟩
    refine ⟨_, rfl, _, rfl, _, _, rfl, rfl, _, rfl, _, _, rfl, rfl, (by omega), ?_⟩
    refine ⟨_, eD, Nat.lt_of_lt_of_le (show ((List.range i).map _).length < 101 by rw [List.length_map, List.length_range]; omega) (by decide), fun b o e => ?_, ?_⟩
    · rw [upd_ne (ne_of_none e nD)]
      exact sm _ _ e
    · rw [upd_same, List.range_succ, List.map_append]
      have : ((n : Int) + (0 + (i : Nat))) % (m : Int) = (((n + i) % m : Nat) : Int) := by
        rw [Int.zero_add, Int.natCast_emod, Int.natCast_add]
      show some (HO.lst (_ ++ [V.int (((n : Int) + (0 + (i : Nat))) % (m : Int))])) = _
      rw [this]
      rfl
  · rintro H' ⟨sm, eD⟩
    refine ⟨D, _, rfl, .inl ⟨SqL.of eD, fun l nl => ?_⟩⟩
    exact q l _ (sm.trans (same_upd nl)) (same_none sm nl) upd_same
end
end Kx

namespace Kx
open PySem PySem.Spec PyProof.Rows L2
abbrev sBlocks : Stmt := topS 2
theorem unlock {H H' : Hp} {b : Addr} {u : HO} {od : Obj} (e : H b = some u) (h : Same (upd H b (.frz od u)) H') : Same H (upd H' b u) := fun a v k => by
  by_cases q : a = b
  · rw [q] at k ⊢
    rw [upd_same, ← k, e]
  · rw [upd_ne q]
    exact h _ _ (by rw [upd_ne q]; exact k)
theorem Chunks.upd {H : Hp} {b d : Addr} {o : HO} {xs : List V} {m i : Nat} (h1 : ∀ ys, H d ≠ some (.lst ys)) (h2 : ∀ ys, H d ≠ some (.tup ys)) (C : Chunks H b xs m i) : Chunks (upd H d o) b xs m i := by
  obtain ⟨cs, c1, c2, c3⟩ := C
  refine ⟨cs, ?_, c2, fun k c e => ?_⟩
  · rw [upd_ne (fun e => h1 _ (e ▸ c1))]
    exact c1
  · have z := c3 k c e
    rw [upd_ne (fun e => h2 _ (e ▸ z))]
    exact z
theorem dk_lst {H : Hp} {d : Addr} {kvs : List (L2.Key × V)} (e : H d = some (.dK kvs)) (ys : List V) : H d ≠ some (.lst ys) := fun z => by
  rw [e] at z
  cases z
theorem dk_tup {H : Hp} {d : Addr} {kvs : List (L2.Key × V)} (e : H d = some (.dK kvs)) (ys : List V) : H d ≠ some (.tup ys) := fun z => by
  rw [e] at z
  cases z
theorem ab_ne : ¬ (Sum.inr (Str.ofString "a") : L2.Key) = Sum.inr (Str.ofString "b") := by decide +kernel
def two (la lb : Addr) : List (L2.Key × V) := [(.inr "a", .ref la), (.inr "b", .ref lb)]
section
variable {P : Program} {w : World} {K : PySem.W.Frag} {mg : Str → Option Value} {base : Heap}
def spBlocks (K : PySem.W.Frag) : Sp := fun vs H Q _ => ∃ (dd cc la lb : Addr) (xs ys : List V) (m : Nat), vs = [.ref dd, .ref cc] ∧ H dd = some (.dK (two la lb)) ∧ H cc = some (.dK [(.inr "a", .int (m : Int))]) ∧ H la = some (.lst xs) ∧ H lb = some (.lst ys) ∧ 1 ≤ m ∧ m ≤ 100 ∧ xs.length ≤ 1000 ∧ ys.length ≤ 1000 ∧
  ∀ D B1 B2 H', Same H H' → H D = none → H' D = some (.dK (two B1 B2)) → Chunks H' B1 xs m m → Chunks H' B2 ys 1 1 → Q (.ref D) H'
abbrev N_blocks : List Str := ["data", "cuts", "name", "rows"]
theorem sc_blocks : FnScope N_blocks ["data", "cuts"] (defScope sBlocks) := ⟨rfl, rfl, rfl, by decide +kernel, rfl, by decide +kernel, by decide +kernel⟩
theorem ok_blocks {f : Addr} {fd : FuncData} (F : Fun K "blocks_of" "blocks_of" sBlocks f fd) (G_cut : Ready P w K mg base 1 "cut_rows" ["rows", "many"] (spCut K)) : FnOk P w K mg base CX0 2 f fd ["data", "cuts"] (spBlocks K) := by
  refine F.ok sc_blocks (fun vs H Q E h => ?_) (fun cdv A outer s H vs Q E hr h => ?_)
  · obtain ⟨dd, cc, la, lb, xs, ys, m, rfl, _⟩ := h
    rfl
  obtain ⟨dd, cc, la, lb, xs, ys, m, rfl, hd, hc, h1, h2, m1, m100, l1, l2, q⟩ := h
  have nd := sc_blocks.nd
  have hu := hu_of hr
  refine ⟨_, pss_one (ps_ret (pe_lock (pe_dc (own := [("name", 2), ("rows", 3)]) (g := (gTup K 2 (gCons (gName 2) (gCons (gName 3) gNil)))) (tt := tYes) (tk := tVar 2) (tv := tCall (spCut K) [] E0 (tCons (tVar 3) (tCons (tDGet2 (tVar 1) (tVar 2) (tC (.int 1))) tNil))) rfl nd (pi_items (pv 0)) (blkOk_by (N := N_blocks) (sc := defScope sBlocks) (by decide +kernel)) (fun _ _ _ _ _ => pg_tup rfl (pgs_cons (pg_name (i := 2) nd rfl (.inl rfl)) (pgs_cons (pg_name (i := 3) nd rfl (.inl rfl)) pgs_nil))) (fun _ _ _ _ _ => pts_nil) (fun _ _ _ _ _ => (pv 2)) (fun _ _ _ _ _ => (pe_fn G_cut (hr.mono (by decide)) (pa_cons (pv 3) (pa_cons (pe_dget2 hu (pv 1) (pv 2) pe_int ⟨rfl, rfl, rfl, rfl⟩) pa_nil))))))), ?_⟩
  refine ⟨dd, _, hd, trivial, fun od => ?_⟩
  refine ⟨_, rfl, dd, od, _, rfl, upd_same, fun D nD => ?_⟩
  have nla : la ≠ dd := fun e => by rw [e, hd] at h1; cases h1
  have nlb : lb ≠ dd := fun e => by rw [e, hd] at h2; cases h2
  have ncc : cc ≠ dd := fun e => by rw [e, hd] at hc; cases hc
  have hD : H D = none := by
    by_cases e : D = dd
    · rw [e, upd_same] at nD
      cases nD
    · rw [upd_ne e] at nD
      exact nD
  have nDd : D ≠ dd := fun e => by rw [e, hd] at hD; cases hD
  refine ⟨fun i k H' => k = 2 - i ∧ i ≤ 2 ∧ Same (upd H dd (.frz od (.dK (two la lb)))) H' ∧ ((i = 0 ∧ H' D = some (.dK [])) ∨ (i = 1 ∧ ∃ B1, H' D = some (.dK [(.inr "a", .ref B1)]) ∧ Chunks H' B1 xs m m) ∨ (i = 2 ∧ ∃ B1 B2, H' D = some (.dK (two B1 B2)) ∧ Chunks H' B1 xs m m ∧ Chunks H' B2 ys 1 1)), ⟨2, rfl, by omega, same_upd nD, .inl ⟨rfl, upd_same⟩⟩, ?_⟩
  rintro i k H' ⟨rfl, hi, sm, ⟨rfl, eD⟩ | ⟨rfl, B1, eD, C1⟩ | ⟨rfl, B1, B2, eD, C1, C2⟩⟩
  · refine .inr ⟨⟨sm _ _ upd_same, by show 0 < 2; decide⟩, fun H2 => Same (upd H dd (.frz od (.dK (two la lb)))) H2 ∧ ∃ B1, H2 D = some (.dK [(.inr "a", .ref B1)]) ∧ Chunks H2 B1 xs m m, fun H2 z => ⟨1, by decide, rfl, by decide, z.1, .inr (.inl ⟨rfl, z.2⟩)⟩, fun x H2 y => ?_⟩
    obtain ⟨T, k, v, e, rfl, nT, rfl⟩ := y
    cases e
    have s3 := sm.trans (same_upd (o := .tup [kV (.inr "a"), .ref la]) nT)
    refine ⟨T, _, rfl, SqT.of upd_same, rfl, _, _, rfl, _, _, rfl, rfl, rfl, _, rfl, ?_⟩
    have hc' := s3 cc _ (by rw [upd_ne ncc]; exact hc)
    refine ⟨_, rfl, _, rfl, cc, rfl, .inl ⟨_, .inl hc'⟩, _, rfl, _, DGet.k (k := .inr "a") hc', ?_⟩
    rw [valV_pos rfl]
    refine ⟨la, xs, m, rfl, SqL.of (s3 la _ (by rw [upd_ne nla]; exact h1)), m1, m100, l1, fun B H4 s4 nB C4 => ?_⟩
    have eD4 := s4 _ _ ((same_upd nT) _ _ eD)
    refine ⟨[], .inr "a", rfl, eD4, by decide, fun b o e => ?_, B, ?_, C4.upd (dk_lst eD4) (dk_tup eD4)⟩
    · rw [upd_ne (ne_of_none e nD)]
      exact s4 _ _ (s3 _ _ e)
    · rw [upd_same]
      rfl
  · refine .inr ⟨⟨sm _ _ upd_same, by show 1 < 2; decide⟩, fun H2 => Same (upd H dd (.frz od (.dK (two la lb)))) H2 ∧ ∃ B1 B2, H2 D = some (.dK (two B1 B2)) ∧ Chunks H2 B1 xs m m ∧ Chunks H2 B2 ys 1 1, fun H2 z => ⟨0, by decide, rfl, by decide, z.1, .inr (.inr ⟨rfl, z.2⟩)⟩, fun x H2 y => ?_⟩
    obtain ⟨T, k, v, e, rfl, nT, rfl⟩ := y
    cases e
    have s3 := sm.trans (same_upd (o := .tup [kV (.inr "b"), .ref lb]) nT)
    refine ⟨T, _, rfl, SqT.of upd_same, rfl, _, _, rfl, _, _, rfl, rfl, rfl, _, rfl, ?_⟩
    have hc' := s3 cc _ (by rw [upd_ne ncc]; exact hc)
    refine ⟨_, rfl, _, rfl, cc, rfl, .inl ⟨_, .inl hc'⟩, _, rfl, _, DGet.k (k := .inr "b") hc', ?_⟩
    rw [valV_neg ab_ne, valV_nil]
    refine ⟨lb, ys, 1, rfl, SqL.of (s3 lb _ (by rw [upd_ne nlb]; exact h2)), by decide, by decide, l2, fun B H4 s4 nB C4 => ?_⟩
    have eD4 := s4 _ _ ((same_upd nT) _ _ eD)
    refine ⟨_, .inr "b", rfl, eD4, by show 1 < sizeLine; decide, fun b o e => ?_, B1, B, ?_, ((C1.same (same_upd nT)).same s4).upd (dk_lst eD4) (dk_tup eD4), C4.upd (dk_lst eD4) (dk_tup eD4)⟩
    · rw [upd_ne (ne_of_none e nD)]
      exact s4 _ _ (s3 _ _ e)
    · rw [upd_same, putK_new _ (by rw [valV_neg ab_ne, valV_nil])]
      rfl
  · have ed := sm dd _ upd_same
    have f1 : ∀ ys, H' dd ≠ some (.lst ys) := fun ys z => by rw [ed] at z; cases z
    have f2 : ∀ ys, H' dd ≠ some (.tup ys) := fun ys z => by rw [ed] at z; cases z
    refine .inl ⟨⟨ed, Nat.le_refl _⟩, ed, q D B1 B2 _ (unlock hd sm) hD ?_ (C1.upd f1 f2) (C2.upd f1 f2)⟩
    rw [upd_ne nDd]
    exact eD
end
end Kx

namespace Kx
open PySem PySem.Spec PyProof.Rows L2
/-! ### dicts compared whose values are data at any depth -/
theorem Dp.reads' {X : Cx} {pins : List (Addr × Obj)} {σ : L2.St} {H : Hp} {s : Shared} (I : Inv X pins σ H s) {d : PyData} {v : V} {u : Value} (h : Dp X.K H v d) (r : RelV v u) : ∃ as, Reads s.heap u d as := L2.Dp.reads I d v u h r
theorem hits_data {X : Cx} {pins : List (Addr × Obj)} {σ : L2.St} {H : Hp} {s : Shared} (I : Inv X pins σ H s) {A : Around} (hu : A.in1.units + 64 < cLine) {ls : List (L2.Key × V)} {vb : List (L2.Key × Value)} (rb : KV ls vb) {ks : List (L2.Key × V)} {va : List (L2.Key × Value)} (ra : KV ks va) :
    (∀ p ∈ ks, ∃ u d e, valV ls p.1 = some u ∧ Dp X.K H p.2 d ∧ Dp X.K H u e ∧ SeqAt.shaped d = true ∧ SeqAt.shaped e = true ∧ PyData.eqv d e = true) → PySem.W.KeqHits A.in1 s vb va true := by
  unfold KV at ra
  induction ra with
  | nil => intro _; exact .nil
  | @cons p q ps qs h t ih =>
    intro hp
    obtain ⟨h1, h2⟩ := h
    obtain ⟨u, d, e, e1, dp1, dp2, sd, se, eq⟩ := hp p List.mem_cons_self
    have rr : RelO (some u) (valueAt vb p.1) := by rw [← e1]; exact rb.val p.1
    obtain ⟨y, hy, ry⟩ := rr.some_of
    obtain ⟨k, v⟩ := q
    have h1' : p.1 = k := h1
    rw [h1'] at hy
    obtain ⟨as, r1⟩ := Dp.reads' I dp1 h2
    obtain ⟨bs, r2⟩ := Dp.reads' I dp2 ry
    have z := PySem.W.keq_at (A := A) r1 r2 sd se hu
    rw [eq] at z
    show PySem.W.KeqHits A.in1 s vb ((k, v) :: qs) (true && true)
    exact .hit hy z (ih fun p' hm => hp p' (List.mem_cons_of_mem _ hm))
def rNeDD (K : PySem.W.Frag) : R2 := fun x y H Q => ∃ a b ks ls, x = .ref a ∧ y = .ref b ∧ H a = some (.dK ks) ∧ H b = some (.dK ls) ∧ ks.length = ls.length ∧ (∀ p ∈ ks, ∃ u d e, valV ls p.1 = some u ∧ Dp K H p.2 d ∧ Dp K H u e ∧ SeqAt.shaped d = true ∧ SeqAt.shaped e = true ∧ PyData.eqv d e = true) ∧ Q (.bl false) H
theorem op_neDD {X : Cx} (hu : X.A.in1.units + 64 < cLine) (hu' : X.A.units < cLine) : OpR X (compareOp .NotEq) (rNeDD X.K) := by
  intro pins s σ H x y v u Q I rx ry h
  obtain ⟨a, b, ks, ls, rfl, rfl, ea, eb, hlen, hp, q⟩ := h
  obtain rfl : v = Value.ref a := rx
  obtain rfl : u = Value.ref b := ry
  obtain ⟨_, ya, va, ra, da⟩ := (show ObjOk X.prog X.w H s.heap a (.dK ks) from I.hok a _ ea)
  obtain ⟨_, yb, vb, rb, db⟩ := (show ObjOk X.prog X.w H s.heap b (.dK ls) from I.hok b _ eb)
  have hl : va.length = vb.length := by rw [← ra.length, ← rb.length]; exact hlen
  exact PySem.W.keq_ne (knd := mixKind X.prog X.w) (r := true) ya yb da db hu' (fun _ => hits_data I hu rb ra hp) (fin_bl I q (by simp [hl]))
/-! ### rows of one number each, as data -/
def rowD (n : Int) : PyData := .tuple [.int n]
/-- refs to rows (n,), for numbers -/
def RowsAt (K : PySem.W.Frag) (H : Hp) (xs : List V) (ns : List Int) : Prop := xs.length = ns.length ∧ ∀ (i : Nat) (x : V) (n : Int), xs[i]? = some x → ns[i]? = some n → ∃ t, x = .ref t ∧ SqT K H t [.int n]
theorem RowsAt.same {K : PySem.W.Frag} {H H' : Hp} {xs : List V} {ns : List Int} (R : RowsAt K H xs ns) (h : Same H H') : RowsAt K H' xs ns := ⟨R.1, fun i x n e1 e2 => by
  obtain ⟨t, e, q⟩ := R.2 i x n e1 e2
  exact ⟨t, e, Same.sqT h q⟩⟩
theorem RowsAt.dp {K : PySem.W.Frag} {H : Hp} : ∀ {xs : List V} {ns : List Int}, RowsAt K H xs ns → DpAll K H xs (ns.map rowD)
  | [], [], _ => .nil
  | [], _ :: _, h => by cases h.1
  | _ :: _, [], h => by cases h.1
  | x :: xs, n :: ns, h => by
    obtain ⟨t, rfl, q⟩ := h.2 0 x n rfl rfl
    exact .cons (.tup q (.cons (.int n) .nil)) (RowsAt.dp (K := K) (H := H) ⟨Nat.succ.inj h.1, fun i x' n' e1 e2 => h.2 (i + 1) x' n' e1 e2⟩)
theorem RowsAt.drop {K : PySem.W.Frag} {H : Hp} {xs : List V} {ns : List Int} (R : RowsAt K H xs ns) (k : Nat) : RowsAt K H (xs.drop k) (ns.drop k) := ⟨by rw [List.length_drop, List.length_drop, R.1], fun i x n e1 e2 => by
  rw [List.getElem?_drop] at e1 e2
  exact R.2 _ x n e1 e2⟩
theorem RowsAt.take {K : PySem.W.Frag} {H : Hp} {xs : List V} {ns : List Int} (R : RowsAt K H xs ns) (k : Nat) : RowsAt K H (xs.take k) (ns.take k) := ⟨by rw [List.length_take, List.length_take, R.1], fun i x n e1 e2 => by
  rw [List.getElem?_take] at e1 e2
  by_cases c : i < k
  · rw [if_pos c] at e1 e2
    exact R.2 _ x n e1 e2
  · rw [if_neg c] at e1
    cases e1⟩
theorem lay_rows : ∀ ns : List Int, PyData.canLayAll0 (ns.map rowD) = true
  | [] => rfl
  | n :: ns => by
    show (PyData.canLay0 (rowD n) && PyData.canLayAll0 (ns.map rowD)) = true
    rw [lay_rows ns]
    rfl
theorem dep_rows : ∀ ns : List Int, PyData.depthAll (ns.map rowD) ≤ 1
  | [] => Nat.zero_le _
  | n :: ns => by
    show max (PyData.depth (rowD n)) (PyData.depthAll (ns.map rowD)) ≤ 1
    exact Nat.max_le.mpr ⟨Nat.le_refl 1, dep_rows ns⟩
def rowsD (ns : List Int) : PyData := .list (ns.map rowD)
def rowsT (ns : List Int) : PyData := .tuple (ns.map rowD)
theorem shaped_rows (ns : List Int) : SeqAt.shaped (rowsD ns) = true := by
  have h := dep_rows ns
  show (PyData.canLayAll0 (ns.map rowD) && decide (PyData.depthAll (ns.map rowD) + 1 ≤ 64)) = true
  rw [lay_rows, decide_eq_true (by omega)]
  rfl
def blkD (bs : List (List Int)) : PyData := .list (bs.map rowsT)
theorem lay_blks : ∀ bs : List (List Int), PyData.canLayAll0 (bs.map rowsT) = true
  | [] => rfl
  | b :: bs => by
    show (PyData.canLay0 (rowsT b) && PyData.canLayAll0 (bs.map rowsT)) = true
    rw [lay_blks bs, show PyData.canLay0 (rowsT b) = PyData.canLayAll0 (b.map rowD) from rfl, lay_rows]
    rfl
theorem dep_blks : ∀ bs : List (List Int), PyData.depthAll (bs.map rowsT) ≤ 2
  | [] => Nat.zero_le _
  | b :: bs => by
    show max (PyData.depth (rowsT b)) (PyData.depthAll (bs.map rowsT)) ≤ 2
    refine Nat.max_le.mpr ⟨?_, dep_blks bs⟩
    have h := dep_rows b
    show PyData.depthAll (b.map rowD) + 1 ≤ 2
    omega
theorem shaped_blks (bs : List (List Int)) : SeqAt.shaped (blkD bs) = true := by
  have h := dep_blks bs
  show (PyData.canLayAll0 (bs.map rowsT) && decide (PyData.depthAll (bs.map rowsT) + 1 ≤ 64)) = true
  rw [lay_blks, decide_eq_true (by omega)]
  rfl
def chN (ns : List Int) (m k : Nat) : List Int := (ns.take (sdA ns.length m (k + 1))).drop (sdA ns.length m k)
theorem RowsAt.ch {K : PySem.W.Frag} {H : Hp} {xs : List V} {ns : List Int} (R : RowsAt K H xs ns) (m k : Nat) : RowsAt K H (chA xs m k) (chN ns m k) := by
  unfold chA chN
  rw [R.1]
  exact (R.take _).drop _
theorem dp_refs {K : PySem.W.Frag} {H : Hp} {g : Nat → List Int} : ∀ (cs : List Addr) (k0 : Nat), (∀ (k : Nat) (c : Addr), cs[k]? = some c → Dp K H (.ref c) (rowsT (g (k0 + k)))) → DpAll K H (cs.map V.ref) ((List.range' k0 cs.length).map fun k => rowsT (g k))
  | [], _, _ => .nil
  | c :: cs, k0, h => by
    refine .cons (h 0 c rfl) (dp_refs cs (k0 + 1) fun k c' e => ?_)
    have := h (k + 1) c' e
    rw [show k0 + (k + 1) = k0 + 1 + k by omega] at this
    exact this
def blksOf (ns : List Int) (m : Nat) : List (List Int) := (List.range' 0 m).map fun k => chN ns m k
/-- blocks as data -/
theorem Chunks.dp {K : PySem.W.Frag} {H : Hp} {b : Addr} {xs : List V} {ns : List Int} {m : Nat} (C : Chunks H b xs m m) (R : RowsAt K H xs ns) : Dp K H (.ref b) (blkD (blksOf ns m)) := by
  obtain ⟨cs, c1, c2, c3⟩ := C
  have h := dp_refs (K := K) (H := H) (g := fun k => chN ns m k) cs 0 fun k c e => by
    rw [Nat.zero_add]
    exact .tup (SqT.of (c3 k c e)) (R.ch m k).dp
  rw [c2] at h
  refine .lst (SqL.of c1) ?_
  rw [show (blksOf ns m).map rowsT = (List.range' 0 m).map fun k => rowsT (chN ns m k) by unfold blksOf; rw [List.map_map]; rfl]
  exact h
theorem ch_len (xs : List V) {m k : Nat} (h : 0 < m) (hk : k < m) : (chA xs m k).length = xs.length / m + (if k < xs.length % m then 1 else 0) := by
  unfold chA
  have h1 := sdA_le xs.length m (k + 1) h hk
  rw [List.length_drop, List.length_take, Nat.min_eq_left h1, sdA_succ, Nat.add_assoc, Nat.add_sub_cancel_left]
theorem ch_join (xs : List V) {m k : Nat} (h : 0 < m) (hk : k < m) : xs.take (sdA xs.length m k) ++ chA xs m k = xs.take (sdA xs.length m (k + 1)) := by
  unfold chA
  have h2 : sdA xs.length m k ≤ sdA xs.length m (k + 1) := by rw [sdA_succ, Nat.add_assoc]; exact Nat.le_add_right _ _
  have : xs.take (sdA xs.length m k) = (xs.take (sdA xs.length m (k + 1))).take (sdA xs.length m k) := by rw [List.take_take, Nat.min_eq_left h2]
  rw [this, List.take_append_drop]
/-- sizes, the longer ones first -/
def szs (n m : Nat) : List Int := (List.range m).map fun k => ((n / m + (if k < n % m then 1 else 0) : Nat) : Int)
theorem szs_rev {n m : Nat} {ns : List Int} (hp : ns.Perm (szs n m)) (hs : ns.Pairwise (· ≤ ·)) : ns.reverse = szs n m := by
  have h1 : ns.reverse.Pairwise (· ≥ ·) := List.pairwise_reverse.mpr hs
  have h2 : (szs n m).Pairwise (· ≥ ·) := by
    unfold szs
    refine List.pairwise_map.mpr (List.pairwise_lt_range.imp fun {a b} hab => ?_)
    show ((_ : Nat) : Int) ≤ ((_ : Nat) : Int)
    split <;> split <;> omega
  exact List.Perm.eq_of_pairwise (fun a b _ _ x y => Int.le_antisymm y x) h1 h2 ((List.reverse_perm ns).trans hp)
theorem szs_near {n m : Nat} {a b : Int} (ha : a ∈ szs n m) (hb : b ∈ szs n m) : a - b ≤ 1 := by
  unfold szs at ha hb
  obtain ⟨i, _, rfl⟩ := List.mem_map.mp ha
  obtain ⟨j, _, rfl⟩ := List.mem_map.mp hb
  split <;> split <;> omega
end Kx

set_option maxHeartbeats 8000000
namespace Kx
open PySem PySem.Spec PyProof.Rows L2
abbrev sLaw : Stmt := topS 9
theorem cut_map (xs : List Int) (lo hi : Option Int) : ∃ ys : List Int, cutV (xs.map V.int) lo hi = ys.map V.int := by
  unfold cutV
  rw [← List.map_drop, ← List.map_take]
  exact ⟨_, rfl⟩
theorem iteNB {c : Bool} {A B : Prop} (h : c = true) (q : B) : if (!c) = true then A else B := by
  rw [h]
  exact q
theorem ty_tup {K : PySem.W.Frag} {H : Hp} {a : Addr} {xs : List V} (h : SqT K H a xs) : TyX K H (.ref a) (.type "tuple") := by
  rcases h with (h | ⟨o, h⟩) | ⟨o, its, n, h, hc, _⟩
  · exact .base (.tup h)
  · exact .fTuple h
  · exact .kTuple h hc
theorem isi {K : PySem.W.Frag} {H : Hp} {x : V} {a b : String} {r : Bool} {Q : VK} (t : TyX K H x (.type a)) (k : kitB a b = some r) (q : Q (.bl r) H) : rIsi K [x, .ty b] H Q := ⟨x, .ty b, .type a, .type b, r, rfl, .ty b, t, kit_ty k, q⟩
def rLenSeq (K : PySem.W.Frag) : List V → Hp → VK → Prop := fun xs H Q => ∃ p ys, xs = [V.ref p] ∧ (SqL K H p ys ∨ SqT K H p ys) ∧ Q (V.int (ys.length : Int)) H
def spLaw (K : PySem.W.Frag) : Sp := fun vs H Q _ => ∃ (a : Addr) (xs : List Int), vs = [.ref a] ∧ SqL K H a (xs.map V.int) ∧ ∀ H', Q (.bl true) H'
theorem next_rule {P : Program} {σ : L2.St} {H : Hp} {Q : VK} {j : Nat} {d s : Addr} {ns : List Int} {n b : Int} (h1 : σ[j]? = some (some (.ref d))) (D : DrawAt H d s ns n) (hb : 0 < b)
    (q : ∀ r H', 0 ≤ r → r < b → But d H H' → DrawAt H' d s ns (n + 1) → Q (.int r) H') : tCall spNext [] E0 (tCons (tVar j) (tCons (tC (V.int b)) tNil)) σ H Q := ⟨_, h1, d, s, ns, n, b, rfl, D, hb, q⟩
theorem but_upd {H : Hp} {L : Addr} {o : HO} : But L H (upd H L o) := fun b o' hb e => by
  rw [upd_ne hb]
  exact e
theorem DrawAt.upd {H : Hp} {d s L : Addr} {ns : List Int} {n : Int} {o : HO} (D : DrawAt H d s ns n) (h1 : L ≠ d) (h2 : L ≠ s) : DrawAt (L2.upd H L o) d s ns n := ⟨by rw [upd_ne h1.symm]; exact D.at_d, by rw [upd_ne h2.symm]; exact D.at_s, D.n0⟩
theorem RowsAt.but {K : PySem.W.Frag} {H H' : Hp} {d : Addr} {xs : List V} {ns : List Int} (R : RowsAt K H xs ns) (h : But d H H') (hd : ∃ l, H d = some (.lst l)) : RowsAt K H' xs ns := ⟨R.1, fun i x n e1 e2 => by
  obtain ⟨t, e, q⟩ := R.2 i x n e1 e2
  exact ⟨t, e, h.sqT hd q⟩⟩
theorem RowsAt.push {K : PySem.W.Frag} {H : Hp} {xs : List V} {ns : List Int} {t : Addr} {n : Int} (R : RowsAt K H xs ns) (q : SqT K H t [.int n]) : RowsAt K H (xs ++ [.ref t]) (ns ++ [n]) := ⟨by rw [List.length_append, List.length_append, R.1]; rfl, fun i x m e1 e2 => by
  by_cases c : i < xs.length
  · rw [List.getElem?_append_left c] at e1
    rw [List.getElem?_append_left (by rw [← R.1]; exact c)] at e2
    exact R.2 i x m e1 e2
  · rw [List.getElem?_append_right (by omega)] at e1
    rw [List.getElem?_append_right (by rw [← R.1]; omega), ← R.1] at e2
    cases k : i - xs.length with
    | zero =>
      rw [k] at e1 e2
      cases e1
      cases e2
      exact ⟨t, rfl, q⟩
    | succ j =>
      rw [k] at e1
      cases e1⟩
theorem Chunks.but {H H' : Hp} {b d : Addr} {xs : List V} {m i : Nat} (C : Chunks H b xs m i) (h : But d H H') (hb : b ≠ d) (hd : ∃ l, H d = some (.lst l)) : Chunks H' b xs m i := by
  obtain ⟨cs, c1, c2, c3⟩ := C
  refine ⟨cs, h _ _ hb c1, c2, fun k c e => h _ _ (fun e' => ?_) (c3 k c e)⟩
  obtain ⟨l, hl⟩ := hd
  have z := c3 k c e
  rw [e', hl] at z
  cases z
theorem dp_ints {K : PySem.W.Frag} {H : Hp} : ∀ ns : List Int, DpAll K H (ns.map V.int) (ns.map PyData.int)
  | [] => .nil
  | n :: ns => .cons (.int n) (dp_ints ns)
theorem blks_one (ns : List Int) : blksOf ns 1 = [ns] := by
  have e1 : sdA ns.length 1 (0 + 1) = ns.length := sdA_end ns.length 1 (by decide)
  have e0 : sdA ns.length 1 0 = 0 := by simp [sdA]
  show [chN ns 1 0] = [ns]
  unfold chN
  rw [e1, e0, List.take_length, List.drop_zero]
def gsz (n m k : Nat) : Int := ((n / m + (if k < n % m then 1 else 0) : Nat) : Int)
theorem szs_eq (n m : Nat) : (szs n m).map V.int = (List.range m).map fun k => V.int (gsz n m k) := by
  unfold szs
  rw [List.map_map]
  rfl
theorem next1_rule {σ : L2.St} {H : Hp} {Q : VK} {j : Nat} {d s : Addr} {ns : List Int} {n b : Int} (h1 : σ[j]? = some (some (.ref d))) (D : DrawAt H d s ns n) (hb : 0 < b)
    (q : ∀ (m : Nat) H', 1 ≤ m → (m : Int) ≤ b → But d H H' → DrawAt H' d s ns (n + 1) → Q (.int (m : Int)) H') : tOp (rI0 fun i j => V.int (i + j)) (tC (V.int 1)) (tCall spNext [] E0 (tCons (tVar j) (tCons (tC (V.int b)) tNil))) σ H Q := by
  refine ⟨_, h1, d, s, ns, n, b, rfl, D, hb, fun r H' r0 r1 bt D' => ⟨_, _, rfl, rfl, ?_⟩⟩
  have e : (1 : Int) + r = (((1 + r).toNat : Nat) : Int) := by omega
  show Q (.int (1 + r)) H'
  rw [e]
  exact q _ H' (by omega) (by omega) bt D'
section
variable {P : Program} {w : World} {K : PySem.W.Frag} {mg : Str → Option Value} {base : Heap}
abbrev N_law : List Str := ["script", "draw", "turn", "rows", "many", "at", "blocks", "sizes", "joined", "block", "number", "copies", "machines", "homes"]
theorem sc_law : FnScope N_law ["script"] (defScope sLaw) := ⟨rfl, rfl, rfl, by decide +kernel, rfl, by decide +kernel, by decide +kernel⟩
theorem ok_law {f : Addr} {fd : FuncData} (F : Fun K "law" "law" sLaw f fd) (m_range : mg "range" = none) (m_len : mg "len" = none) (m_list : mg "list" = none) (m_sorted : mg "sorted" = none) (m_max : mg "max" = none) (m_min : mg "min" = none) (m_all : mg "all" = none) (m_isinstance : mg "isinstance" = none) (m_tuple : mg "tuple" = none)
    (G_law_next : Ready P w K mg base 3 "_law_next" ["draw", "bound"] spNext) (G_cut : Ready P w K mg base 1 "cut_rows" ["rows", "many"] (spCut K)) (G_blocks : Ready P w K mg base 2 "blocks_of" ["data", "cuts"] (spBlocks K)) (G_homes : Ready P w K mg base 1 "homes_of" ["number", "copies", "machines"] (spHomes K)) :
    FnOk P w K mg base CX0 4 f fd ["script"] (spLaw K) := by
  refine F.ok sc_law (fun vs H Q E h => ?_) (fun cdv A outer s0 H vs Q E hr h => ?_)
  · obtain ⟨a, xs, rfl, _⟩ := h
    rfl
  obtain ⟨a, xs, rfl, hS, q⟩ := h
  have nd := sc_law.nd
  have hu64 : _ + 64 < cLine := hr.units
  have hu65 := hr.in1.units
  have hu0 := hr.units0
  have hr3 : Room 3 _ := hr.mono (by decide)
  have hr2 : Room 2 _ := hr.mono (by decide)
  have hr1 : Room 1 _ := hr.mono (by decide)
  refine ⟨_, pss_cons (ps_set (i := 1) nd rfl (.inr rfl) (pe_lst (pa_cons (pe_slice sl_list (pv 0) po_none (po_some pe_int)) (pa_cons pe_int (pa_cons pe_int pa_nil)))))
      (pss_cons (ps_for PassesOwn.never rfl (pi_range1 rfl m_range (pa_cons pe_int pa_nil)) (pg_name (i := 2) nd rfl (.inl rfl)) (pss_cons (ps_par (i := 3) (j := 4) rfl nd rfl rfl (by decide) rfl rfl (pa_cons (pe_lc (own := [("at", 5)]) (g := gName 5) (tt := tYes) rfl nd (pi_range1 rfl m_range (pa_cons (pe_fn G_law_next hr3 (pa_cons (pv 1) (pa_cons pe_int pa_nil))) pa_nil)) (blkOk_by (N := N_law) (sc := defScope sLaw) (by decide +kernel)) (fun _ _ _ _ _ => pg_name (i := 5) nd rfl (Or.inl rfl)) (fun _ _ _ _ _ => pts_nil) (fun _ _ _ _ _ => (pe_tup (pa_cons (pe_fn G_law_next hr3 (pa_cons (pv 1) (pa_cons pe_int pa_nil))) pa_nil)))) (pa_cons (pe_op op_add pe_int (pe_fn G_law_next hr3 (pa_cons (pv 1) (pa_cons pe_int pa_nil)))) pa_nil)) rfl)
      (pss_cons (ps_set (i := 6) nd rfl (.inl rfl) (pe_fn G_cut hr1 (pa_cons (pv 3) (pa_cons (pv 4) pa_nil))))
      (pss_cons (ps_par (i := 7) (j := 8) rfl nd rfl rfl (by decide) rfl rfl (pa_cons (pe_lc (own := [("block", 9)]) (g := gName 9) (tt := tYes) (te := tCB (rLenSeq K) (tCons (tVar 9) tNil)) rfl nd (pi_list (pv 6)) (blkOk_by (N := N_law) (sc := defScope sLaw) (by decide +kernel)) (fun _ _ _ _ _ => pg_name (i := 9) nd rfl (Or.inl rfl)) (fun _ _ _ _ _ => pts_nil) (fun _ _ _ _ _ => (pe_callB call_len_seq (by rfl) m_len PySem.boot_len (pa_cons (pv 9) pa_nil)))) (pa_cons (pe_lst pa_nil) pa_nil)) rfl)
      (pss_cons (ps_for PassesOwn.never rfl (pi_list (pv 6)) (pg_name (i := 9) nd rfl (.inl rfl)) (pss_one (ps_set (i := 8) nd rfl (.inl rfl) (pe_op op_cat (pv 8) (pe_callTy call_list_of (by rfl) m_list PyProof.Rows.boot_list (pa_cons (pv 9) pa_nil))))))
      (pss_cons (ps_if (PW.pt (pw_or (pt_cmpR op_ne (pe_callB call_len_seq (by rfl) m_len PySem.boot_len (pa_cons (pv 6) pa_nil)) (pv 4) (nomark _)) (pw_or (pt_cmpR (op_neD hu64) (pv 8) (pv 3) (nomark _)) (pw_or (pt_cmpR (op_neD hu64) (pe_revL (pe_callB cr_sorted (by rfl) m_sorted (by decide +kernel) (pa_cons (pv 7) pa_nil))) (pv 7) (nomark _)) (pw_or (pt_cmpR op_gt (pe_op op_sub (pe_callB (cr_max rfl) (by rfl) m_max (by decide +kernel) (pa_cons (pv 7) pa_nil)) (pe_callB (cr_min rfl) (by rfl) m_min (by decide +kernel) (pa_cons (pv 7) pa_nil))) pe_int (nomark _)) (pw_or1 (pt_not (pt_val (pe_callB (cr_all rfl) (by rfl) m_all PyProof.Rows.boot_all (pa_cons (pe_lc (own := [("block", 9)]) (g := gName 9) (tt := tYes) (te := tCB (rIsi K) (tCons (tVar 9) (tCons (tC (V.ty "tuple")) tNil))) rfl nd (pi_list (pv 6)) (blkOk_by (N := N_law) (sc := defScope sLaw) (by decide +kernel)) (fun _ _ _ _ _ => pg_name (i := 9) nd rfl (Or.inl rfl)) (fun _ _ _ _ _ => pts_nil) (fun _ _ _ _ _ => (pe_callB call_isi (by rfl) m_isinstance PyProof.Rows.boot_isinstance (pa_cons (pv 9) (pa_cons (pe_bltn (v := .ty "tuple") (by rfl) m_tuple PyProof.Rows.boot_tuple rfl) pa_nil))))) pa_nil)))))))))) (pss_one (ps_ret pe_bl)) (pss_nil))
      (pss_cons (ps_if (pt_cmpR (op_neDD hu65 hu0) (pe_fn G_blocks hr2 (pa_cons (pe_disp (pps_cons pe_str (pv 3) (pps_cons pe_str (pe_slice sl_list (pv 3) po_none (po_some pe_int)) pps_nil)) rfl rfl (by intro z; cases z) (by decide)) (pa_cons (pe_disp (pps_cons pe_str (pv 4) pps_nil) rfl rfl (by intro z; cases z) (by decide)) pa_nil))) (pe_disp (pps_cons pe_str (pv 6) (pps_cons pe_str (pe_lst (pa_cons (pe_callTy call_tuple_of (by rfl) m_tuple PyProof.Rows.boot_tuple (pa_cons (pe_slice sl_list (pv 3) po_none (po_some pe_int)) pa_nil)) pa_nil)) pps_nil)) rfl rfl (by intro z; cases z) (by decide)) (nomark _)) (pss_one (ps_ret pe_bl)) (pss_nil))
      (pss_cons (ps_asg (pe_tup (pa_cons (pe_fn G_law_next hr3 (pa_cons (pv 1) (pa_cons pe_int pa_nil))) (pa_cons (pe_op op_add pe_int (pe_fn G_law_next hr3 (pa_cons (pv 1) (pa_cons pe_int pa_nil)))) (pa_cons (pe_op op_add pe_int (pe_fn G_law_next hr3 (pa_cons (pv 1) (pa_cons pe_int pa_nil)))) pa_nil)))) (pg_tup rfl (pgs_cons (pg_name (i := 10) nd rfl (.inr rfl)) (pgs_cons (pg_name (i := 11) nd rfl (.inl rfl)) (pgs_cons (pg_name (i := 12) nd rfl (.inr rfl)) pgs_nil)))))
      (pss_cons (ps_set (i := 13) nd rfl (.inl rfl) (pe_fn G_homes hr1 (pa_cons (pv 10) (pa_cons (pv 11) (pa_cons (pv 12) pa_nil)))))
      (pss_one (ps_if (pt_cmpR (op_neD hu64) (pe_callTy call_list_of (by rfl) m_list PyProof.Rows.boot_list (pa_cons (pv 13) pa_nil)) (pe_lc (own := [("at", 5)]) (g := gName 5) (tt := tYes) rfl nd (pi_range1 rfl m_range (pa_cons (pe_callB (cr_min rfl) (by rfl) m_min (by decide +kernel) (pa_cons (pe_lst (pa_cons (pv 11) (pa_cons (pv 12) pa_nil))) pa_nil)) pa_nil)) (blkOk_by (N := N_law) (sc := defScope sLaw) (by decide +kernel)) (fun _ _ _ _ _ => pg_name (i := 5) nd rfl (Or.inl rfl)) (fun _ _ _ _ _ => pts_nil) (fun _ _ _ _ _ => (pe_op op_mod (pe_op op_add (pv 10) (pv 5)) (pv 12)))) (nomark _)) (pss_one (ps_ret pe_bl)) (pss_nil))))))))))))
      (pss_one (ps_ret pe_bl))), ?_⟩
  have z3 : 3 ≤ sizeLine := by decide
  obtain ⟨ns, ens⟩ := cut_map xs none (some 63)
  refine ⟨_, rfl, _, rfl, a, _, rfl, hS, fun s ns0 => ⟨z3, fun d nd0 => ?_⟩⟩
  rw [ens] at nd0 ⊢
  have D0 : DrawAt (upd (upd H s (.lst (ns.map V.int))) d (.lst [.ref s, .int 0, .int 0])) d s ns 0 := ⟨upd_same, by rw [upd_ne (ne_of_none upd_same nd0)]; exact upd_same, Int.le_refl 0⟩
  generalize upd (upd H s (.lst (ns.map V.int))) d (.lst [.ref s, .int 0, .int 0]) = H0 at D0 ⊢
  refine ⟨12, rfl, by decide, by decide, for_range (n := 12) (fun i σ H' => ∃ n y2 y3 y4 y5 y6 y7 y8 y9 y10 y11 y12 y13, σ = [some (.ref a), some (.ref d), y2, y3, y4, y5, y6, y7, y8, y9, y10, y11, y12, y13] ∧ DrawAt H' d s ns n)
    ⟨0, none, none, none, none, none, none, none, none, none, none, none, none, rfl, D0⟩ ?_ ?_⟩
  · rintro i σ H' hi ⟨n, y2, y3, y4, y5, y6, y7, y8, y9, y10, y11, y12, y13, rfl, D⟩
    -- rows
    refine ⟨_, rfl, d, s, ns, n, 20, rfl, D, (by decide), fun r H1 r0 r1 b1 D1 => ⟨_, rfl, by omega, by omega, fun L nL => ?_⟩⟩
    have nLd : L ≠ d := (ne_of_none D1.at_d nL).symm
    have nLs : L ≠ s := (ne_of_none D1.at_s nL).symm
    refine lc_range (lo := 0) (n := r.toNat) (fun i H' => ∃ n' xs ms, DrawAt H' d s ns n' ∧ H' L = some (.lst xs) ∧ xs.length = i ∧ RowsAt K H' xs ms) ⟨_, [], [], D1.keep (same_upd nL), upd_same, rfl, rfl, fun i x n e => by cases e⟩ ?_ ?_
    · rintro i H4 hi ⟨n', xs', ms, D', eL, el, R⟩
      refine ⟨rfl, _, rfl, d, s, ns, _, 99, rfl, D', by decide, fun v H5 v0 v1 b5 D5 => ⟨by show 1 ≤ sizeLine; decide, fun t nt => ?_⟩⟩
      have s6 := same_upd (o := .tup [.int v]) nt
      have eL6 := s6 _ _ (b5 _ _ nLd eL)
      refine ⟨xs', eL6, Nat.lt_of_lt_of_le (show xs'.length < 64 by omega) (by decide), _, xs' ++ [.ref t], ms ++ [v], (D5.keep s6).upd nLd nLs, upd_same, by rw [List.length_append, el]; rfl, ?_⟩
      exact (((R.but b5 ⟨_, D'.at_d⟩).same s6).push (SqT.of upd_same)).but but_upd ⟨_, eL6⟩
    rintro H5 ⟨n5, xs5, ms5, D5, eL5, el5, R5⟩
    refine next1_rule rfl D5 (by decide) fun m H6 m1 m7 b6 D6 => ?_
    refine ⟨_, _, rfl, ?_⟩
    have eL6 := b6 _ _ nLd eL5
    have R6 := R5.but b6 ⟨_, D5.at_d⟩
    have l5 : xs5.length ≤ 20 := by omega
    -- blocks
    refine ⟨_, rfl, _, rfl, L, xs5, m, rfl, SqL.of eL6, m1, by omega, by omega, fun B H7 s7 nB C7 => ?_⟩
    have D7 := D6.keep s7
    have eL7 := s7 _ _ eL6
    have R7 := R6.same s7
    have nBd : B ≠ d := (ne_of_none D6.at_d nB).symm
    -- sizes
    obtain ⟨cs, c1, c2, c3⟩ := id C7
    refine ⟨_, rfl, B, rfl, ⟨_, SqL.of c1⟩, fun Z nZ => ?_⟩
    refine lc_list (K := K) (a := B) (xs := cs.map V.ref) (fun i H' => Same H7 H' ∧ H' Z = some (.lst ((List.range i).map fun k => V.int (gsz xs5.length m k)))) ⟨same_upd nZ, upd_same⟩ (fun i H' _ p => SqL.of (p.1 _ _ c1)) ?_ ?_
    · rintro i x H' hx ⟨sm, eZ⟩
      rw [List.getElem?_map] at hx
      obtain ⟨c, ec, rfl⟩ := Option.map_eq_some_iff.mp hx
      have hi : i < m := by
        have := (List.getElem?_eq_some_iff.mp ec).1
        omega
      refine ⟨rfl, _, rfl, c, chA xs5 m i, rfl, .inr (SqT.of (sm _ _ (c3 i c ec))), ?_⟩
      refine ⟨_, eZ, Nat.lt_of_lt_of_le (show _ < 64 by rw [List.length_map, List.length_range]; omega) (by decide), fun b o e => ?_, ?_⟩
      · rw [upd_ne (ne_of_none e nZ)]
        exact sm _ _ e
      · rw [upd_same, List.range_succ, List.map_append, ch_len xs5 (by omega) hi]
        rfl
    rintro H8 ⟨s8, eZ⟩
    rw [List.length_map, c2] at eZ
    rw [← szs_eq] at eZ
    refine ⟨by show 0 ≤ sizeLine; decide, fun J nJ => ⟨_, _, rfl, ?_⟩⟩
    have s9 := s8.trans (same_upd (o := .lst []) nJ)
    have eZ9 : upd H8 J (.lst []) Z = some (.lst ((szs xs5.length m).map V.int)) := (same_upd nJ) _ _ eZ
    have eJ : upd H8 J (.lst []) J = some (.lst []) := upd_same
    generalize upd H8 J (.lst []) = H9 at s9 eZ9 eJ ⊢
    -- joined
    refine ⟨_, rfl, B, rfl, ⟨_, SqL.of (s9 _ _ c1)⟩, ?_⟩
    refine for_list (K := K) (a := B) (xs := cs.map V.ref) (fun i σ H' => ∃ y9 J', σ = [some (.ref a), some (.ref d), _, some (.ref L), some (.int (m : Int)), y5, some (.ref B), some (.ref Z), some (.ref J'), y9, y10, y11, y12, y13] ∧ Same H9 H' ∧ H' J' = some (.lst (xs5.take (sdA xs5.length m i))))
      ⟨_, J, rfl, Same.refl _, ?_⟩ ?_ ?_ ?_
    · rw [show sdA xs5.length m 0 = 0 by simp [sdA], List.take_zero]
      exact eJ
    · rintro i σ H' _ ⟨y9, J', rfl, sm, _⟩
      exact SqL.of (sm _ _ (s9 _ _ c1))
    · rintro i x σ H' hx ⟨y9, J', rfl, sm, eJ'⟩
      rw [List.getElem?_map] at hx
      obtain ⟨c, ec, rfl⟩ := Option.map_eq_some_iff.mp hx
      have hi : i < m := by
        have := (List.getElem?_eq_some_iff.mp ec).1
        omega
      refine ⟨_, rfl, _, rfl, c, chA xs5 m i, rfl, .inr (SqT.of (sm _ _ (s9 _ _ (c3 i c ec)))), fun l nl => ?_⟩
      have sl := same_upd (o := .lst (chA xs5 m i)) nl
      refine ⟨J', l, _, _, rfl, rfl, sl _ _ eJ', upd_same, ?_, fun J2 nJ2 => ⟨_, J2, rfl, (sm.trans sl).trans (same_upd nJ2), ?_⟩⟩
      · rw [← List.length_append, ch_join xs5 (by omega) hi]
        exact Nat.le_trans (Nat.le_trans (List.length_take_le' _ _) l5) (by decide)
      · rw [upd_same, ch_join xs5 (by omega) hi]
    rintro σ H10 ⟨y9', J', rfl, s10, eJ'⟩
    rw [List.length_map, c2, sdA_end _ _ (by omega), List.take_length] at eJ'
    have s79 := s9.trans s10
    have D10 := D7.keep s79
    have eL10 := s79 _ _ eL7
    have R10 := R7.same s79
    have C10 := C7.same s79
    have c10 := s79 _ _ c1
    have eZ10 := s10 _ _ eZ9
    have hsz : 0 < (szs xs5.length m).length := by
      unfold szs
      rw [List.length_map, List.length_range]
      omega
    have lsz : (szs xs5.length m).length < 64 := by
      unfold szs
      rw [List.length_map, List.length_range]
      omega
    clear c1 s9 s10 s8 eZ eZ9 eJ
    -- the first question
    refine ⟨_, rfl, B, _, rfl, .inl (SqL.of c10), _, rfl, rfl, _, rfl, iteNB (decide_eq_true (by rw [List.length_map, c2])) ?_⟩
    refine ⟨_, rfl, _, rfl, _, _, .lst (SqL.of eJ') R10.dp, .lst (SqL.of eL10) R10.dp, shaped_rows _, shaped_rows _, _, rfl, iteNB (SeqAt.eqv_refl _ (SeqAt.canLay_of_shaped (shaped_rows _))) ?_⟩
    refine ⟨_, rfl, Z, szs xs5.length m, rfl, SqL.of eZ10, lsz, fun ns' p perm rising np => ?_⟩
    refine ⟨p, _, rfl, SqL.of upd_same, fun p2 np2 => ?_⟩
    have t1 := (same_upd (o := .lst (ns'.map V.int)) np).trans (same_upd (o := .lst (ns'.map V.int).reverse) np2)
    have ep2 : upd (upd H10 p (.lst (ns'.map V.int))) p2 (.lst (ns'.map V.int).reverse) p2 = some (.lst ((szs xs5.length m).map V.int)) := by
      rw [upd_same, ← List.map_reverse, szs_rev perm rising]
    have eZ11 := t1 _ _ eZ10
    refine ⟨_, rfl, _, _, .lst (SqL.of ep2) (dp_ints _), .lst (SqL.of eZ11) (dp_ints _), PySem.W.shaped_ints _, PySem.W.shaped_ints _, _, rfl, iteNB (SeqAt.eqv_refl _ (SeqAt.canLay_of_shaped (PySem.W.shaped_ints _))) ?_⟩
    have C11 := C10.same t1
    have D11 := D10.keep t1
    have eL11 := t1 _ _ eL10
    have R11 := R10.same t1
    have c11 := t1 _ _ c10
    generalize upd (upd H10 p (.lst (ns'.map V.int))) p2 (.lst (ns'.map V.int).reverse) = H11 at t1 ep2 eZ11 C11 D11 eL11 R11 c11 ⊢
    refine ⟨_, rfl, Z, szs xs5.length m, rfl, SqL.of eZ11, hsz, fun mx hmx _ => ?_⟩
    refine ⟨_, rfl, Z, szs xs5.length m, rfl, SqL.of eZ11, hsz, fun mn hmn _ => ?_⟩
    refine ⟨_, _, rfl, rfl, _, _, rfl, rfl, _, rfl, ite2 (fun c => absurd (of_decide_eq_true c) (Int.not_lt.mpr (szs_near hmx hmn))) (fun _ => ?_)⟩
    refine ⟨_, rfl, B, rfl, ⟨_, SqL.of c11⟩, fun W nW => ?_⟩
    refine lc_list (K := K) (a := B) (xs := cs.map V.ref) (fun i H' => Same H11 H' ∧ H' W = some (.lst ((List.replicate i true).map V.bl))) ⟨same_upd nW, upd_same⟩ (fun i H' _ p => SqL.of (p.1 _ _ c11)) ?_ ?_
    · rintro i x H' hx ⟨sm, eW⟩
      rw [List.getElem?_map] at hx
      obtain ⟨c, ec, rfl⟩ := Option.map_eq_some_iff.mp hx
      have hi : i < m := by
        have := (List.getElem?_eq_some_iff.mp ec).1
        omega
      refine ⟨rfl, _, rfl, ?_⟩
      dsimp only [tCons, tNil, tC]
      refine isi (a := "tuple") (b := "tuple") (r := true) (ty_tup (K := K) (SqT.of (sm _ _ (t1 _ _ (s79 _ _ (c3 i c ec)))))) (by decide +kernel) ?_
      refine ⟨_, eW, Nat.lt_of_lt_of_le (show _ < 64 by rw [List.length_map, List.length_replicate]; omega) (by decide), fun b o e => ?_, ?_⟩
      · rw [upd_ne (ne_of_none e nW)]
        exact sm _ _ e
      · rw [upd_same, List.replicate_succ', List.map_append]
        rfl
    rintro H12 ⟨s12, eW⟩
    refine ⟨W, List.replicate (cs.map V.ref).length true, rfl, SqL.of eW, ?_⟩
    rw [show (List.replicate (cs.map V.ref).length true).all id = true from List.all_eq_true.mpr fun x hx => by rw [List.eq_of_mem_replicate hx]; rfl]
    refine ⟨true, rfl, ?_⟩
    have C12 := C11.same s12
    have D12 := D11.keep s12
    have eL12 := s12 _ _ eL11
    have R12 := R11.same s12
    clear eW c11 C11 D11 eL11 R11 t1 c10 C10 D10 eL10 R10
    -- the dicts
    refine iteF ?_
    refine fun d1 nd1 => ?_
    refine ⟨_, rfl, _, rfl, _, rfl, L, _, rfl, SqL.of ((same_upd nd1) _ _ eL12), fun L2 nL2 => ?_⟩
    refine ⟨(same_upd nL2) _ _ upd_same, [(.inr "a", .ref L), (.inr "b", .ref L2)], rfl, by show 2 ≤ 15; decide, ?_⟩
    have nd1L : d1 ≠ L := (ne_of_none eL12 nd1).symm
    have n12 : L2 ≠ d1 := (ne_of_none upd_same nL2).symm
    have s13 : Same H12 (upd (upd (upd H12 d1 (.dK [])) L2 (.lst (cutV xs5 none (some 2)))) d1 (.dK (mergeK [] [(.inr "a", .ref L), (.inr "b", .ref L2)]))) := fun b o e => by
      rw [upd_ne (ne_of_none e nd1)]
      exact (same_upd nL2) _ _ ((same_upd nd1) _ _ e)
    have ed1 : upd (upd (upd H12 d1 (.dK [])) L2 (.lst (cutV xs5 none (some 2)))) d1 (.dK (mergeK [] [(.inr "a", .ref L), (.inr "b", .ref L2)])) d1 = some (.dK (two L L2)) := by
      rw [upd_same]
      rfl
    have eL2 : upd (upd (upd H12 d1 (.dK [])) L2 (.lst (cutV xs5 none (some 2)))) d1 (.dK (mergeK [] [(.inr "a", .ref L), (.inr "b", .ref L2)])) L2 = some (.lst (cutV xs5 none (some 2))) := by
      rw [upd_ne n12, upd_same]
    have R13 := R12.same s13
    have D13 := D12.keep s13
    have C13 := C12.same s13
    have eL13 := s13 _ _ eL12
    generalize upd (upd (upd H12 d1 (.dK [])) L2 (.lst (cutV xs5 none (some 2)))) d1 (.dK (mergeK [] [(.inr "a", .ref L), (.inr "b", .ref L2)])) = H13 at s13 ed1 eL2 R13 D13 C13 eL13 ⊢
    clear s12 s13 R12 D12 C12 eL12 nd1 nL2
    obtain ⟨msB, RB⟩ : ∃ msB, RowsAt K H13 (cutV xs5 none (some 2)) msB := ⟨_, (R13.drop _).take _⟩
    have lB : (cutV xs5 none (some 2)).length ≤ 20 := Nat.le_trans (cutV_length _ _ _) l5
    refine fun d2 nd2 => ?_
    refine ⟨_, rfl, upd_same, [(.inr "a", .int (m : Int))], rfl, by show 1 ≤ 15; decide, ?_⟩
    have s14 : Same H13 (upd (upd H13 d2 (.dK [])) d2 (.dK (mergeK [] [(.inr "a", .int (m : Int))]))) := fun b o e => by
      rw [upd_ne (ne_of_none e nd2), upd_ne (ne_of_none e nd2)]
      exact e
    refine ⟨d1, d2, L, L2, xs5, _, m, rfl, s14 _ _ ed1, upd_same, s14 _ _ eL13, s14 _ _ eL2, m1, by omega, by omega, by omega, fun D B1 B2 H15 s15 _ eD CA CB => ?_⟩
    have s16 := s14.trans s15
    have R15 := R13.same s16
    have D15 := D13.keep s16
    have C15 := C13.same s16
    have eL15 := s16 _ _ eL13
    have RB15 := RB.same s16
    clear s14 s15 s16 R13 D13 C13 eL13 RB ed1 eL2 nd2
    refine fun d3 nd3 => ?_
    have s17 := same_upd (o := .dK []) nd3
    refine ⟨_, rfl, _, rfl, _, rfl, L, _, rfl, SqL.of (s17 _ _ eL15), fun p3 np3 => ?_⟩
    refine ⟨p3, _, rfl, .inl ⟨SqL.of upd_same, fun t4 nt4 => ⟨by show 1 ≤ sizeLine; decide, fun l6 nl6 => ?_⟩⟩⟩
    have s18 := (same_upd (o := .lst (cutV xs5 none (some 2))) np3).trans ((same_upd (o := .tup (cutV xs5 none (some 2))) nt4).trans (same_upd (o := .lst [.ref t4]) nl6))
    have et4 := (same_upd (o := .lst [.ref t4]) nl6) t4 _ (upd_same (H := upd (upd H15 d3 (.dK [])) p3 (.lst (cutV xs5 none (some 2)))) (o := .tup (cutV xs5 none (some 2))))
    have el6 := upd_same (H := upd (upd (upd H15 d3 (.dK [])) p3 (.lst (cutV xs5 none (some 2)))) t4 (.tup (cutV xs5 none (some 2)))) (a := l6) (o := .lst [.ref t4])
    have ed3 := s18 d3 _ upd_same
    refine ⟨ed3, [(.inr "a", .ref B), (.inr "b", .ref l6)], rfl, by show 2 ≤ 15; decide, ?_⟩
    have s19 := s17.trans s18
    generalize upd (upd (upd (upd H15 d3 (.dK [])) p3 (.lst (cutV xs5 none (some 2)))) t4 (.tup (cutV xs5 none (some 2)))) l6 (.lst [.ref t4]) = H16 at s18 et4 el6 ed3 s19 ⊢
    have nt4' : t4 ≠ d3 := fun e => by
      rw [e, ed3] at et4
      cases et4
    have nl6' : l6 ≠ d3 := fun e => by
      rw [e, ed3] at el6
      cases el6
    have s20 : Same H15 (upd H16 d3 (.dK (mergeK [] [(.inr "a", .ref B), (.inr "b", .ref l6)]))) := fun b o e => by
      rw [upd_ne (ne_of_none e nd3)]
      exact s19 _ _ e
    have e20 : upd H16 d3 (.dK (mergeK [] [(.inr "a", .ref B), (.inr "b", .ref l6)])) d3 = some (.dK (two B l6)) := by
      rw [upd_same]
      rfl
    have et : upd H16 d3 (.dK (mergeK [] [(.inr "a", .ref B), (.inr "b", .ref l6)])) t4 = some (.tup (cutV xs5 none (some 2))) := by rw [upd_ne nt4']; exact et4
    have el : upd H16 d3 (.dK (mergeK [] [(.inr "a", .ref B), (.inr "b", .ref l6)])) l6 = some (.lst [.ref t4]) := by rw [upd_ne nl6']; exact el6
    generalize upd H16 d3 (.dK (mergeK [] [(.inr "a", .ref B), (.inr "b", .ref l6)])) = H17 at s20 e20 et el ⊢
    have D17 := D15.keep s20
    refine ⟨D, d3, _, _, rfl, rfl, s20 _ _ eD, e20, rfl, fun p hp => ?_, _, rfl, iteF ?_⟩
    · have a1 := (CA.same s20).dp (R15.same s20)
      have a2 := (C15.same s20).dp (R15.same s20)
      have b1 := (CB.same s20).dp (RB15.same s20)
      have b2 : Dp K H17 (.ref l6) (blkD [msB]) := .lst (SqL.of el) (.cons (.tup (SqT.of et) (RB15.same s20).dp) .nil)
      rw [blks_one] at b1
      rcases List.mem_cons.mp hp with e | hp
      · rw [e]
        exact ⟨.ref B, _, _, valV_pos rfl, a1, a2, shaped_blks _, shaped_blks _, SeqAt.eqv_refl _ (SeqAt.canLay_of_shaped (shaped_blks _))⟩
      · rw [List.mem_singleton.mp hp]
        exact ⟨.ref l6, _, _, by rw [two, valV_neg ab_ne, valV_pos rfl], b1, b2, shaped_blks _, shaped_blks _, SeqAt.eqv_refl _ (SeqAt.canLay_of_shaped (shaped_blks _))⟩
    -- homes
    clear CA CB C15 R15 RB15 eL15
    refine ⟨_, rfl, d, s, ns, _, 30, rfl, D17, by decide, fun r3 H18 r30 r31 b18 D18 => ?_⟩
    obtain ⟨k, rfl⟩ := Int.eq_ofNat_of_zero_le r30
    refine next1_rule rfl D18 (by decide) fun c H19 c1 c6 b19 D19 => ?_
    refine next1_rule rfl D19 (by decide) fun z H20 z1 z8 b20 D20 => ?_
    refine ⟨by show 3 ≤ sizeLine; decide, fun t5 nt5 => ⟨t5, _, rfl, SqT.of upd_same, rfl, _, _, rfl, _, _, rfl, _, _, rfl, rfl, ?_⟩⟩
    have D21 := D20.keep (same_upd (o := .tup [.int (k : Int), .int (c : Int), .int (z : Int)]) nt5)
    generalize upd H20 t5 (.tup [.int (k : Int), .int (c : Int), .int (z : Int)]) = H21 at D21 ⊢
    refine ⟨_, rfl, _, rfl, _, rfl, k, c, z, rfl, z1, by omega, by omega, fun p H22 s22 np ep => ?_⟩
    refine ⟨_, rfl, p, _, rfl, .inr (SqT.of ep), fun l nl => ?_⟩
    have D22 := (D21.keep s22).keep (same_upd (o := .lst ((List.range (min c z)).map fun j => V.int (((k + j) % z : Nat) : Int))) nl)
    have el := upd_same (H := H22) (a := l) (o := .lst ((List.range (min c z)).map fun j => V.int (((k + j) % z : Nat) : Int)))
    generalize upd H22 l (.lst ((List.range (min c z)).map fun j => V.int (((k + j) % z : Nat) : Int))) = H23 at D22 el ⊢
    refine ⟨_, rfl, _, rfl, by show 2 ≤ sizeLine; decide, fun u nu => ?_⟩
    refine ⟨u, [(c : Int), (z : Int)], rfl, SqL.of upd_same, by show 0 < 2; decide, fun mn hmn hle => ?_⟩
    have emn : mn = ((min c z : Nat) : Int) := by
      have h1 := hle _ List.mem_cons_self
      have h2 := hle _ (List.mem_cons_of_mem _ List.mem_cons_self)
      rcases List.mem_cons.mp hmn with e | e
      · omega
      · have e' := List.mem_singleton.mp e
        omega
    subst emn
    have s24 := same_upd (o := .lst [.int (c : Int), .int (z : Int)]) nu
    refine ⟨_, rfl, by omega, by omega, fun W nW => ?_⟩
    refine lc_range (lo := 0) (n := min c z) (fun i H' => Same (upd H23 u (.lst [.int (c : Int), .int (z : Int)])) H' ∧ H' W = some (.lst ((List.range i).map fun j => V.int (((k + j) % z : Nat) : Int)))) ⟨same_upd nW, upd_same⟩ ?_ ?_
    · rintro i H' hi ⟨sm, eW⟩
      refine ⟨rfl, ?_⟩
      refine ⟨_, rfl, _, rfl, _, _, rfl, rfl, _, rfl, _, _, rfl, rfl, (by omega), ?_⟩
      refine ⟨_, eW, Nat.lt_of_lt_of_le (show ((List.range i).map _).length < 101 by rw [List.length_map, List.length_range]; omega) (by decide), fun b o e => ?_, ?_⟩
      · rw [upd_ne (ne_of_none e nW)]
        exact sm _ _ e
      · rw [upd_same, List.range_succ, List.map_append]
        have : ((k : Int) + (0 + (i : Nat))) % (z : Int) = (((k + i) % z : Nat) : Int) := by
          rw [Int.zero_add, Int.natCast_emod, Int.natCast_add]
        show some (HO.lst (_ ++ [V.int (((k : Int) + (0 + (i : Nat))) % (z : Int))])) = _
        rw [this]
        rfl
    · rintro H24 ⟨s25, eW⟩
      have el24 := s25 _ _ (s24 _ _ el)
      have eG : (List.range (min c z)).map (fun j => V.int (((k + j) % z : Nat) : Int)) = ((List.range (min c z)).map fun j => (((k + j) % z : Nat) : Int)).map V.int := by
        rw [List.map_map]
        rfl
      rw [eG] at el24 eW
      refine ⟨_, _, .lst (SqL.of el24) (dp_ints _), .lst (SqL.of eW) (dp_ints _), PySem.W.shaped_ints _, PySem.W.shaped_ints _, _, rfl, iteNB (SeqAt.eqv_refl _ (SeqAt.canLay_of_shaped (PySem.W.shaped_ints _))) ?_⟩
      exact ⟨_, _, _, _, _, _, _, _, _, _, _, _, _, rfl, (D22.keep s24).keep s25⟩
  · rintro σ H' ⟨n, y2, y3, y4, y5, y6, y7, y8, y9, y10, y11, y12, y13, rfl, D⟩
    exact q _
end
end Kx

namespace Kx
open PySem PySem.Spec PyProof.Rows L2
theorem all_mk {l : PySem.W.OpenLaw} {w : World} {K : PySem.W.Frag} {h : Heap} {mg : Str → Option Value} {fa : Addr} (X : K.In h) (G : h.Ns mainGlobals mg) (hfa : mg "law" = some (.ref fa))
    {f1 f2 f3 f4 f5 f6 f7 f8 : Addr} {od1 an1 od2 an2 od3 an3 od4 an4 od5 an5 od6 an6 od7 an7 od8 an8 : Option Addr} {sl1 sl2 sl3 sl4 sl5 sl6 sl7 sl8 : Array (Option Value)} {oc1 kV1 dc1 pm1 cd1 ct1 oc2 kV2 dc2 pm2 cd2 ct2 oc3 kV3 dc3 pm3 cd3 ct3 oc4 kV4 dc4 pm4 cd4 ct4 oc5 kV5 dc5 pm5 cd5 ct5 oc6 kV6 dc6 pm6 cd6 ct6 oc7 kV7 dc7 pm7 cd7 ct7 oc8 kV8 dc8 pm8 cd8 ct8 : Value} 
    (a1 : PySem.W.nsIn K mainGlobals "cut_rows" = some (some (.ref f1))) (l1 : K.lookup f1 = some ⟨oc1, od1, .func (PySem.W.fnOf "cut_rows" "cut_rows" (defArgs sCut) (defBody sCut) (defScope sCut) .none kV1 dc1 pm1 an1 cd1 ct1), sl1⟩) (c1 : PySem.W.codeIn K cd1 "cut_rows" = true) (k1 : PySem.W.keepIn K (.ref f1) = true)
    (a2 : PySem.W.nsIn K mainGlobals "blocks_of" = some (some (.ref f2))) (l2 : K.lookup f2 = some ⟨oc2, od2, .func (PySem.W.fnOf "blocks_of" "blocks_of" (defArgs sBlocks) (defBody sBlocks) (defScope sBlocks) .none kV2 dc2 pm2 an2 cd2 ct2), sl2⟩) (c2 : PySem.W.codeIn K cd2 "blocks_of" = true) (k2 : PySem.W.keepIn K (.ref f2) = true)
    (a3 : PySem.W.nsIn K mainGlobals "homes_of" = some (some (.ref f3))) (l3 : K.lookup f3 = some ⟨oc3, od3, .func (PySem.W.fnOf "homes_of" "homes_of" (defArgs sHomes) (defBody sHomes) (defScope sHomes) .none kV3 dc3 pm3 an3 cd3 ct3), sl3⟩) (c3 : PySem.W.codeIn K cd3 "homes_of" = true) (k3 : PySem.W.keepIn K (.ref f3) = true)
    (a4 : PySem.W.nsIn K mainGlobals "_law_cell_at" = some (some (.ref f4))) (l4 : K.lookup f4 = some ⟨oc4, od4, .func (PySem.W.fnOf "_law_cell_at" "_law_cell_at" (defArgs sCell) (defBody sCell) (defScope sCell) .none kV4 dc4 pm4 an4 cd4 ct4), sl4⟩) (c4 : PySem.W.codeIn K cd4 "_law_cell_at" = true) (k4 : PySem.W.keepIn K (.ref f4) = true)
    (a5 : PySem.W.nsIn K mainGlobals "_law_draw" = some (some (.ref f5))) (l5 : K.lookup f5 = some ⟨oc5, od5, .func (PySem.W.fnOf "_law_draw" "_law_draw" (defArgs sDraw) (defBody sDraw) (defScope sDraw) .none kV5 dc5 pm5 an5 cd5 ct5), sl5⟩) (c5 : PySem.W.codeIn K cd5 "_law_draw" = true) (k5 : PySem.W.keepIn K (.ref f5) = true)
    (a6 : PySem.W.nsIn K mainGlobals "_law_number" = some (some (.ref f6))) (l6 : K.lookup f6 = some ⟨oc6, od6, .func (PySem.W.fnOf "_law_number" "_law_number" (defArgs sNumb) (defBody sNumb) (defScope sNumb) .none kV6 dc6 pm6 an6 cd6 ct6), sl6⟩) (c6 : PySem.W.codeIn K cd6 "_law_number" = true) (k6 : PySem.W.keepIn K (.ref f6) = true)
    (a7 : PySem.W.nsIn K mainGlobals "_law_next" = some (some (.ref f7))) (l7 : K.lookup f7 = some ⟨oc7, od7, .func (PySem.W.fnOf "_law_next" "_law_next" (defArgs sNext) (defBody sNext) (defScope sNext) .none kV7 dc7 pm7 an7 cd7 ct7), sl7⟩) (c7 : PySem.W.codeIn K cd7 "_law_next" = true) (k7 : PySem.W.keepIn K (.ref f7) = true)
    (a8 : PySem.W.nsIn K mainGlobals "law" = some (some (.ref f8))) (l8 : K.lookup f8 = some ⟨oc8, od8, .func (PySem.W.fnOf "law" "law" (defArgs sLaw) (defBody sLaw) (defScope sLaw) .none kV8 dc8 pm8 an8 cd8 ct8), sl8⟩) (c8 : PySem.W.codeIn K cd8 "law" = true) (k8 : PySem.W.keepIn K (.ref f8) = true)
    (z1 : PySem.W.nsIn K mainGlobals "len" = some none)
    (z2 : PySem.W.nsIn K mainGlobals "int" = some none)
    (z3 : PySem.W.nsIn K mainGlobals "range" = some none)
    (z4 : PySem.W.nsIn K mainGlobals "sorted" = some none)
    (z5 : PySem.W.nsIn K mainGlobals "tuple" = some none)
    (z6 : PySem.W.nsIn K mainGlobals "list" = some none)
    (z7 : PySem.W.nsIn K mainGlobals "divmod" = some none)
    (z8 : PySem.W.nsIn K mainGlobals "min" = some none)
    (z9 : PySem.W.nsIn K mainGlobals "max" = some none)
    (z10 : PySem.W.nsIn K mainGlobals "all" = some none)
    (z11 : PySem.W.nsIn K mainGlobals "isinstance" = some none) :
    ∃ fd : FuncData, (∀ (s : Shared) (v : Value), BindsTo s fd ⟨[v], []⟩ [("script", v)]) ∧ ∀ base : Heap, K.In base → base.Ns mainGlobals mg → FnOk l.prog w K mg base CX0 4 fa fd ["script"] (spLaw K) := by
  have e := hfa.symm.trans (PySem.W.mg_of X G a8)
  cases e
  have F1 := fun_mk (st := sCut) l1 c1 k1
  have b1 := F1.binds (ps := ["rows", "many"]) fun _ _ _ _ _ _ us hl => match us, hl with | [_, _], _ => rfl
  have m1 := PySem.W.mg_of X G a1
  have F2 := fun_mk (st := sBlocks) l2 c2 k2
  have b2 := F2.binds (ps := ["data", "cuts"]) fun _ _ _ _ _ _ us hl => match us, hl with | [_, _], _ => rfl
  have m2 := PySem.W.mg_of X G a2
  have F3 := fun_mk (st := sHomes) l3 c3 k3
  have b3 := F3.binds (ps := ["number", "copies", "machines"]) fun _ _ _ _ _ _ us hl => match us, hl with | [_, _, _], _ => rfl
  have m3 := PySem.W.mg_of X G a3
  have F4 := fun_mk (st := sCell) l4 c4 k4
  have b4 := F4.binds (ps := ["script", "k"]) fun _ _ _ _ _ _ us hl => match us, hl with | [_, _], _ => rfl
  have m4 := PySem.W.mg_of X G a4
  have F5 := fun_mk (st := sDraw) l5 c5 k5
  have b5 := F5.binds (ps := ["cell", "k", "bound"]) fun _ _ _ _ _ _ us hl => match us, hl with | [_, _, _], _ => rfl
  have m5 := PySem.W.mg_of X G a5
  have F6 := fun_mk (st := sNumb) l6 c6 k6
  have b6 := F6.binds (ps := ["cell", "k", "bound"]) fun _ _ _ _ _ _ us hl => match us, hl with | [_, _, _], _ => rfl
  have m6 := PySem.W.mg_of X G a6
  have F7 := fun_mk (st := sNext) l7 c7 k7
  have b7 := F7.binds (ps := ["draw", "bound"]) fun _ _ _ _ _ _ us hl => match us, hl with | [_, _], _ => rfl
  have m7 := PySem.W.mg_of X G a7
  have F8 := fun_mk (st := sLaw) l8 c8 k8
  have m_len := PySem.W.mg_none_of X G z1
  have m_int := PySem.W.mg_none_of X G z2
  have m_range := PySem.W.mg_none_of X G z3
  have m_sorted := PySem.W.mg_none_of X G z4
  have m_tuple := PySem.W.mg_none_of X G z5
  have m_list := PySem.W.mg_none_of X G z6
  have m_divmod := PySem.W.mg_none_of X G z7
  have m_min := PySem.W.mg_none_of X G z8
  have m_max := PySem.W.mg_none_of X G z9
  have m_all := PySem.W.mg_none_of X G z10
  have m_isinstance := PySem.W.mg_none_of X G z11
  refine ⟨PySem.W.fnOf "law" "law" (defArgs sLaw) (defBody sLaw) (defScope sLaw) .none kV8 dc8 pm8 an8 cd8 ct8, fun s v => .of_eq rfl, fun base _ _ => ?_⟩
  have R_cut : Ready l.prog w K mg base 1 "cut_rows" ["rows", "many"] (spCut K) := ⟨⟨f1, _, ok_cut F1 m_len m_divmod m_range m_tuple, b1, m1, k1⟩⟩
  have R_blocks : Ready l.prog w K mg base 2 "blocks_of" ["data", "cuts"] (spBlocks K) := ⟨⟨f2, _, ok_blocks F2 R_cut, b2, m2, k2⟩⟩
  have R_homes : Ready l.prog w K mg base 1 "homes_of" ["number", "copies", "machines"] (spHomes K) := ⟨⟨f3, _, ok_homes F3 m_range m_tuple m_min, b3, m3, k3⟩⟩
  have R_cell : Ready l.prog w K mg base 1 "_law_cell_at" ["script", "k"] (spCell K) := ⟨⟨f4, _, ok_cell F4 m_len, b4, m4, k4⟩⟩
  have R_draw : Ready l.prog w K mg base 1 "_law_draw" ["cell", "k", "bound"] spDraw := ⟨⟨f5, _, ok_draw F5 m_int, b5, m5, k5⟩⟩
  have R_numb : Ready l.prog w K mg base 2 "_law_number" ["cell", "k", "bound"] spNumb := ⟨⟨f6, _, ok_numb F6 m_int m_range R_draw, b6, m6, k6⟩⟩
  have R_next : Ready l.prog w K mg base 3 "_law_next" ["draw", "bound"] spNext := ⟨⟨f7, _, ok_next F7 m_int R_cell R_numb, b7, m7, k7⟩⟩
  exact ok_law F8 m_range m_len m_list m_sorted m_max m_min m_all m_isinstance m_tuple R_next R_cut R_blocks R_homes
theorem walk {l : PySem.W.OpenLaw} {q : Program} {loose : List Str} {XP : (Str → Option Value) → Heap → Prop} {YP : World → Heap → Prop} {d : DefRec} {K : Params → PySem.W.Frag} (hn : l.most = some 63) (hdf : d.params.defaults = [])
    (hY : ∀ (w : World) (h : Heap), YP w h → (K w.params).In h)
    (F : ∀ (w : World) (mg : Str → Option Value) (fa : Addr) (h : Heap), (K w.params).In h → h.Ns mainGlobals mg → mg d.name = some (.ref fa) →
      ∃ fd : FuncData, (∀ (s : Shared) (u : Value), BindsTo s fd ⟨[u], []⟩ [("script", u)]) ∧ ∀ base : Heap, (K w.params).In base → base.Ns mainGlobals mg → FnOk l.prog w (K w.params) mg base CX0 4 fa fd ["script"] (spLaw (K w.params))) :
    PySem.W.WalkO q loose XP YP l.row.toRowW d [] (fun f vs => PySem.call f vs) :=
  L2.walk_of (n := 63) (k := 4) (x := "script") (CX := fun _ => CX0) (sp := fun w => spLaw (K w.params)) hn (by decide) hdf ⟨rfl, by decide, by decide⟩ hY F (fun _ _ a ns hl _ hS => ⟨a, ns, rfl, hS, fun _ => rfl⟩) fun _ _ _ _ _ z => z
end Kx
open PySem PySem.W PyProof.Rows
set_option maxRecDepth 100000 in
set_option maxHeartbeats 0 in
theorem PySem.Challenge.cw_countedonce_k18_blocks_and_homes_holds : PySem.Challenge.rw_countedonce_k18_blocks_and_homes.Holds := by
  w_on; o_law; k_head; (case hw => w_witness2)
  k_fill
  refine Kx.walk (l := PySem.Challenge.rw_countedonce_k18_blocks_and_homes) rfl rfl (fun w h Y => PySem.W.kIn_of Y) ?F
  case F =>
    intro w mg fa h KX G hmg
    refine' Kx.all_mk KX G hmg ?a1 ?l1 ?c1 ?k1 ?a2 ?l2 ?c2 ?k2 ?a3 ?l3 ?c3 ?k3 ?a4 ?l4 ?c4 ?k4 ?a5 ?l5 ?c5 ?k5 ?a6 ?l6 ?c6 ?k6 ?a7 ?l7 ?c7 ?k7 ?a8 ?l8 ?c8 ?k8 ?z1 ?z2 ?z3 ?z4 ?z5 ?z6 ?z7 ?z8 ?z9 ?z10 ?z11
    (case a1 => k_is)
    (case l1 => k_is)
    (case c1 => k_is)
    (case k1 => k_is)
    (case a2 => k_is)
    (case l2 => k_is)
    (case c2 => k_is)
    (case k2 => k_is)
    (case a3 => k_is)
    (case l3 => k_is)
    (case c3 => k_is)
    (case k3 => k_is)
    (case a4 => k_is)
    (case l4 => k_is)
    (case c4 => k_is)
    (case k4 => k_is)
    (case a5 => k_is)
    (case l5 => k_is)
    (case c5 => k_is)
    (case k5 => k_is)
    (case a6 => k_is)
    (case l6 => k_is)
    (case c6 => k_is)
    (case k6 => k_is)
    (case a7 => k_is)
    (case l7 => k_is)
    (case c7 => k_is)
    (case k7 => k_is)
    (case a8 => k_is)
    (case l8 => k_is)
    (case c8 => k_is)
    (case k8 => k_is)
    (case z1 => k_is)
    (case z2 => k_is)
    (case z3 => k_is)
    (case z4 => k_is)
    (case z5 => k_is)
    (case z6 => k_is)
    (case z7 => k_is)
    (case z8 => k_is)
    (case z9 => k_is)
    (case z10 => k_is)
    (case z11 => k_is)

#print axioms PySem.Challenge.cw_countedonce_k18_blocks_and_homes_holds

