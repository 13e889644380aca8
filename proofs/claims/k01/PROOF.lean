import PyProof.Rows.All
import Wide.All
import OpenK.AllK
import Wide.FinOn
import HandS.Base
import HandS.Call
import HandS.List
import HandS.Comp
import HandS.Ends
import HandS.Words
import HandS.WordsList
import HandS.Wide
import HandS.Dict
import HandS.Text
import HandS.More
import HandS.Style
import KE.KDictZip
import HandS.Zip0
import PySem.Challenge.RW_countedonce_k01_whole_worth
set_option Elab.async false
set_option linter.all false
set_option maxRecDepth 100000
set_option maxHeartbeats 4000000
namespace Kx
open PySem PySem.Spec PyProof.Rows L2
def topS (i : Nat) : Stmt := PySem.Challenge.pw_countedonce_k01_whole_worth.main.body.getD i (.Pass ⟨0, 0, 0, 0⟩)
abbrev sCell : Stmt := topS 11
abbrev sDraw : Stmt := topS 12
abbrev sNumb : Stmt := topS 13
abbrev sNext : Stmt := topS 14
abbrev sPick : Stmt := topS 15
section
variable {P : Program} {w : World} {K : PySem.W.Frag} {mg : Str → Option Value} {base : Heap}
/-- a def of the top that keeps a promise, and may be called by its name -/
structure Ready (P : Program) (w : World) (K : PySem.W.Frag) (mg : Str → Option Value) (base : Heap) (k : Nat) (x : Str) (ps : List Str) (sp : Sp) : Prop where
  ex : ∃ f fd, FnOk P w K mg base CX0 k f fd ps sp ∧ Binds K fd ps [] ∧ mg x = some (.ref f) ∧ PySem.W.keepIn K (.ref f) = true
end
theorem pe_fn {X : Cx} {k : Nat} {x : Str} {ps : List Str} {sp : Sp} {p pos : Pos} {e : Expr} {es : List Expr} {t : TA} (G : Ready X.prog X.w X.K X.mg X.base k x ps sp) (hr : Room k X.A) (ha : PA X (e :: es) t) (hg : Gl X x := by rfl)
    (hdb : (x == ("__debug__" : Str)) = false := by decide) (he : starEach (e :: es) X.env = (false, eval e X.env) :: starEach es X.env := by rfl) (hpl : (backTo pos (starEach es X.env)).any (·.1) = false := by rfl) :
    PE X (.Call (.Name x p) (e :: es) [] pos) (tCall sp [] E0 t) := by
  obtain ⟨f, fd, h, hb, hm, hk⟩ := G.ex
  exact pe_call h hr hg hm hk hb .nil pass0 ha hdb he hpl
/-- all that was tracked is as it was, but what stands at d -/
def But (d : Addr) (H H' : Hp) : Prop := ∀ b o, b ≠ d → H b = some o → H' b = some o
theorem But.refl (d : Addr) (H : Hp) : But d H H := fun _ _ _ h => h
theorem But.trans {d : Addr} {H H1 H2 : Hp} (a : But d H H1) (b : But d H1 H2) : But d H H2 := fun c o n h => b c o n (a c o n h)
theorem same_but {d : Addr} {H H' : Hp} (a : Same H H') : But d H H' := fun c o _ h => a c o h
theorem same_upd {H : Hp} {p : Addr} {o : HO} (h : H p = none) : Same H (upd H p o) := fun b x e => by
  rw [upd_ne (ne_of_none e h)]
  exact e
section
variable {P : Program} {w : World} {K : PySem.W.Frag} {mg : Str → Option Value} {base : Heap}
/-! ### the law's draws -/
def spCell (K : PySem.W.Frag) : Sp := fun vs H Q _ => ∃ (a : Addr) (ns : List Int) (k : Int), vs = [.ref a, .int k] ∧ SqL K H a (ns.map V.int) ∧ 0 ≤ k ∧ ∀ c : Int, Q (.int c) H
theorem sc_cell : FnScope ["script", "k"] ["script", "k"] (defScope sCell) := ⟨rfl, rfl, rfl, by decide +kernel, rfl, by decide +kernel, by decide +kernel⟩
theorem ok_cell {f : Addr} {fd : FuncData} (F : Fun K "_law_cell_at" "_law_cell_at" sCell f fd) (m_len : mg "len" = none) : FnOk P w K mg base CX0 1 f fd ["script", "k"] (spCell K) := by
  refine F.ok sc_cell (fun vs H Q E h => ?_) (fun cdv A outer s H vs Q E hr h => ?_)
  · obtain ⟨a, ns, k, rfl, _⟩ := h
    rfl
  obtain ⟨a, ns, k, rfl, hS, h0, q⟩ := h
  refine ⟨_, pss_cons (ps_if (pt_cmpR op_lt (pv 1) (pe_callB call_len_seq (by rfl) m_len PySem.boot_len (pa_cons (pv 0) pa_nil)) (nomark _)) (pss_one (ps_ret (pe_ix ix_list (pv 0) (pv 1) (fun _ _ => rfl)))) (pss_nil))
      (pss_one (ps_ret pe_int)), ?_⟩
  refine ⟨_, rfl, _, rfl, a, _, rfl, .inl hS, _, _, rfl, rfl, _, rfl, ?_⟩
  refine ite2 (fun c => ?_) (fun c => q 0)
  have c' : k < ((ns.map V.int).length : Int) := of_decide_eq_true c
  have ek : k = ((k.toNat : Nat) : Int) := by omega
  have hk : k.toNat < ns.length := by rw [List.length_map] at c'; omega
  have ha : atI (ns.map V.int) ((k.toNat : Nat) : Int) = some (.int ns[k.toNat]) := atI_nat (by rw [List.getElem?_map, List.getElem?_eq_getElem hk] <;> rfl)
  rw [← ek] at ha
  exact ⟨_, rfl, _, rfl, a, _, _, _, rfl, rfl, hS, ha, q _⟩
def spDraw : Sp := fun vs H Q _ => ∃ (c k b : Int), vs = [.int c, .int k, .int b] ∧ 0 < b ∧ ∀ (r : Int) (H' : Hp), 0 ≤ r → r < b → Same H H' → Q (.int r) H'
theorem sc_draw : FnScope ["cell", "k", "bound", "primes"] ["cell", "k", "bound"] (defScope sDraw) := ⟨rfl, rfl, rfl, by decide +kernel, rfl, by decide +kernel, by decide +kernel⟩
def primesL : List Int := [1000003, 1000033, 1000037, 1000039, 1000081, 1000099, 1000117, 1000121, 1000133, 1000151, 1000159, 1000171, 1000183, 1000187, 1000193, 1000199]
theorem primes_at {i : Int} (h0 : 0 ≤ i) (h : i < 16) : ∃ p : Int, 0 < p ∧ atI (primesL.map V.int) i = some (.int p) := by
  have ei : i = ((i.toNat : Nat) : Int) := by omega
  have hk : i.toNat < primesL.length := by show i.toNat < 16; omega
  refine ⟨primesL[i.toNat], ?_, ?_⟩
  · have : ∀ x ∈ primesL, (0 : Int) < x := by decide
    exact this _ (List.getElem_mem hk)
  · have q : atI (primesL.map V.int) ((i.toNat : Nat) : Int) = some (.int primesL[i.toNat]) := atI_nat (by rw [List.getElem?_map, List.getElem?_eq_getElem hk] <;> rfl)
    rw [← ei] at q
    exact q
theorem ok_draw {f : Addr} {fd : FuncData} (F : Fun K "_law_draw" "_law_draw" sDraw f fd) (m_int : mg "int" = none) : FnOk P w K mg base CX0 1 f fd ["cell", "k", "bound"] spDraw := by
  refine F.ok sc_draw (fun vs H Q E h => ?_) (fun cdv A outer s H vs Q E hr h => ?_)
  · obtain ⟨c, k, b, rfl, _⟩ := h
    rfl
  obtain ⟨c, k, b, rfl, hb, q⟩ := h
  have nd := sc_draw.nd
  refine ⟨_, pss_cons (ps_set (i := 3) nd rfl (.inl rfl) (pe_tup (pa_cons pe_int (pa_cons pe_int (pa_cons pe_int (pa_cons pe_int (pa_cons pe_int (pa_cons pe_int (pa_cons pe_int (pa_cons pe_int (pa_cons pe_int (pa_cons pe_int (pa_cons pe_int (pa_cons pe_int (pa_cons pe_int (pa_cons pe_int (pa_cons pe_int (pa_cons pe_int pa_nil))))))))))))))))))
      (pss_one (ps_ret (pe_op op_mod (pe_op op_mod (pe_callTy call_int1 (by rfl) m_int boot_int (pa_cons (pe_op op_add (pe_op op_mul (pv 0) pe_int) (pe_op op_mul (pv 1) pe_int)) pa_nil)) (pe_ix ix_tup (pv 3) (pe_op op_mod (pe_callTy call_int1 (by rfl) m_int boot_int (pa_cons (pv 1) pa_nil)) pe_int) (fun _ _ => rfl))) (pv 2)))), ?_⟩
  refine ⟨by show 16 ≤ sizeLine; decide, fun t ht => ?_⟩
  obtain ⟨p, hp, hat⟩ := primes_at (i := k % 16) (by omega) (by omega)
  refine ⟨_, rfl, _, _, rfl, rfl, .inr (by show _ ∧ _; decide), _, rfl, _, _, rfl, rfl, .inr (by show _ ∧ _; decide), _, _, rfl, rfl, .inl ⟨_, rfl, ?_⟩⟩
  refine ⟨_, rfl, _, rfl, .inl ⟨_, rfl, _, _, rfl, rfl, (by show (0 : Int) < 16; decide), ?_⟩⟩
  refine ⟨t, primesL.map V.int, _, _, rfl, rfl, SqT.of upd_same, hat, _, _, rfl, rfl, hp, _, rfl, _, _, rfl, rfl, hb, ?_⟩
  exact q _ _ (Int.emod_nonneg _ (by omega)) (Int.emod_lt_of_pos _ hb) (same_upd ht)
end
end Kx

namespace Kx
open PySem PySem.Spec PyProof.Rows L2
section
variable {P : Program} {w : World} {K : PySem.W.Frag} {mg : Str → Option Value} {base : Heap}
theorem pow_lt : ∀ i : Nat, i < 24 → (1009 ^ i : Nat) < 2 ^ 240 := by decide +kernel
theorem sc_numb : FnScope ["cell", "k", "bound", "power", "lap", "remains", "small"] ["cell", "k", "bound"] (defScope sNumb) := ⟨rfl, rfl, rfl, by decide +kernel, rfl, by decide +kernel, by decide +kernel⟩
def spNumb : Sp := fun vs H Q _ => ∃ (c k b : Int), vs = [.int c, .int k, .int b] ∧ 0 ≤ k ∧ k ≤ 100 ∧ 0 < b ∧ ∀ (r : Int) (H' : Hp), 0 ≤ r → r < b → Same H H' → Q (.int r) H'
theorem ok_numb {f : Addr} {fd : FuncData} (F : Fun K "_law_number" "_law_number" sNumb f fd) (m_int : mg "int" = none) (m_range : mg "range" = none) (G_law_draw : Ready P w K mg base 1 "_law_draw" ["cell", "k", "bound"] spDraw) :
    FnOk P w K mg base CX0 2 f fd ["cell", "k", "bound"] spNumb := by
  refine F.ok sc_numb (fun vs H Q E h => ?_) (fun cdv A outer s H vs Q E hr h => ?_)
  · obtain ⟨c, k, b, rfl, _⟩ := h
    rfl
  obtain ⟨c, k, b, rfl, k0, k1, hb, q⟩ := h
  have nd := sc_numb.nd
  refine ⟨_, pss_cons (ps_set (i := 3) nd rfl (.inl rfl) pe_int)
      (pss_cons (ps_for PassesOwn.never rfl (pi_range1 rfl m_range (pa_cons (pe_op op_mod (pe_callTy call_int1 (by rfl) m_int boot_int (pa_cons (pv 1) pa_nil)) pe_int) pa_nil)) (pg_name (i := 4) nd rfl (.inl rfl)) (pss_one (ps_set (i := 3) nd rfl (.inl rfl) (pe_op op_mul (pv 3) pe_int))))
      (pss_cons (ps_set (i := 5) nd rfl (.inl rfl) (pe_op op_fdivW (pe_op op_sub (pv 0) (pe_op op_pow pe_int pe_int)) (pv 3)))
      (pss_cons (ps_if (pt_cmpR op_gt (pv 5) pe_int (nomark _)) (pss_one (ps_ret (pe_op op_mod (pe_op op_mod (pe_callTy call_int1 (by rfl) m_int boot_int (pa_cons (pv 5) pa_nil)) pe_int) (pv 2)))) (pss_nil))
      (pss_cons (ps_set (i := 6) nd rfl (.inl rfl) (pe_op op_mod (pe_callTy call_int1 (by rfl) m_int boot_int (pa_cons (pv 0) pa_nil)) pe_int))
      (pss_one (ps_ret (pe_op op_mod (pe_fn (G_law_draw) (hr.mono (by decide)) (pa_cons (pe_op op_mul (pe_op op_add (pv 6) (pe_op op_mul pe_int (pv 1))) (pe_op op_add (pe_op op_add (pv 6) (pe_op op_mul pe_int (pv 1))) pe_int)) (pa_cons (pe_op op_add (pe_op op_mod (pe_callTy call_int1 (by rfl) m_int boot_int (pa_cons (pv 1) pa_nil)) pe_int) pe_int) (pa_cons pe_int pa_nil)))) (pv 2)))))))), ?_⟩
  refine ⟨_, rfl, .inl ⟨_, rfl, _, _, rfl, rfl, (by show (0 : Int) < 24; decide), _, rfl, by omega, by omega, ?_⟩⟩
  have m0 : 0 ≤ k % 24 := Int.emod_nonneg _ (by omega)
  have m1 : k % 24 < 24 := Int.emod_lt_of_pos _ (by omega)
  refine for_range (fun i σ H' => ∃ y4, σ = [some (.int c), some (.int k), some (.int b), some (.int ((1009 ^ i : Nat) : Int)), y4, none, none] ∧ H' = H) ⟨none, rfl, rfl⟩ ?_ ?_
  · rintro i σ H' hi ⟨y4, rfl, rfl⟩
    refine ⟨_, rfl, _, _, rfl, rfl, .inr (by show _ ∧ _; decide), ?_⟩
    refine ⟨some (.int (0 + (i : Nat))), ?_, rfl⟩
    rw [Nat.pow_succ, Int.natCast_mul]
    rfl
  · rintro σ H' ⟨y4, rfl, rfl⟩
    have hj : (k % 24).toNat < 24 := by omega
    have hp := pow_lt _ hj
    have hp0 : 0 < (1009 ^ (k % 24).toNat : Nat) := Nat.pow_pos (by decide)
    generalize (1009 ^ (k % 24).toNat : Nat) = pw at hp hp0
    refine ⟨_, rfl, _, _, rfl, rfl, (by show _ ∧ _ ∧ _; decide), _, _, rfl, rfl, _, rfl, _, _, rfl, rfl, wide_div (b := 240) (by omega) (by omega) (by decide) (by decide), ?_⟩
    refine ⟨_, rfl, _, _, rfl, rfl, _, rfl, ?_⟩
    refine ite2 (fun _ => ?_) (fun _ => ?_)
    · refine ⟨_, rfl, .inl ⟨_, rfl, _, _, rfl, rfl, (by show (0 : Int) < 1009; decide), _, rfl, _, _, rfl, rfl, hb, ?_⟩⟩
      exact q _ _ (Int.emod_nonneg _ (by omega)) (Int.emod_lt_of_pos _ hb) (Same.refl _)
    · refine ⟨_, rfl, .inl ⟨_, rfl, _, _, rfl, rfl, (by show (0 : Int) < 1000003; decide), ?_⟩⟩
      have s0 : 0 ≤ c % 1000003 := Int.emod_nonneg _ (by omega)
      have s1 : c % 1000003 < 1000003 := Int.emod_lt_of_pos _ (by omega)
      refine ⟨_, rfl, _, rfl, _, _, rfl, rfl, .inl (by show _ ∧ _; decide), _, _, rfl, rfl, ?_⟩
      refine ⟨_, rfl, _, rfl, _, _, rfl, rfl, .inl (by show _ ∧ _; decide), _, _, rfl, rfl, _, _, rfl, rfl, _, _, rfl, rfl, .inl (by show _ ∧ _; omega), ?_⟩
      refine ⟨_, rfl, .inl ⟨_, rfl, _, _, rfl, rfl, (by show (0 : Int) < 9; decide), _, _, rfl, rfl, _, _, _, rfl, by decide, fun r H2 r0 r1 sm => ?_⟩⟩
      refine ⟨_, rfl, _, _, rfl, rfl, hb, ?_⟩
      exact q _ _ (Int.emod_nonneg _ (by omega)) (Int.emod_lt_of_pos _ hb) sm
/-- the three things of a draw: the script's first cells, where it begins, how many were drawn -/
structure DrawAt (H : Hp) (d s : Addr) (ns : List Int) (n : Int) : Prop where
  at_d : H d = some (.lst [.ref s, .int 0, .int n])
  at_s : H s = some (.lst (ns.map V.int))
  n0 : 0 ≤ n
theorem DrawAt.ne {H : Hp} {d s : Addr} {ns : List Int} {n : Int} (D : DrawAt H d s ns n) : s ≠ d := fun e => by
  have a := D.at_s
  rw [e, D.at_d] at a
  cases ns with
  | nil => cases a
  | cons x r => cases a
theorem DrawAt.keep {H H' : Hp} {d s : Addr} {ns : List Int} {n : Int} (D : DrawAt H d s ns n) (h : Same H H') : DrawAt H' d s ns n := ⟨h _ _ D.at_d, h _ _ D.at_s, D.n0⟩
def spNext : Sp := fun vs H Q _ => ∃ (d s : Addr) (ns : List Int) (n b : Int), vs = [.ref d, .int b] ∧ DrawAt H d s ns n ∧ 0 < b ∧ ∀ (r : Int) (H' : Hp), 0 ≤ r → r < b → But d H H' → DrawAt H' d s ns (n + 1) → Q (.int r) H'
theorem sc_next : FnScope ["draw", "bound", "at", "cell"] ["draw", "bound"] (defScope sNext) := ⟨rfl, rfl, rfl, by decide +kernel, rfl, by decide +kernel, by decide +kernel⟩
theorem ok_next {f : Addr} {fd : FuncData} (F : Fun K "_law_next" "_law_next" sNext f fd) (m_int : mg "int" = none) (G_law_cell_at : Ready P w K mg base 1 "_law_cell_at" ["script", "k"] (spCell K)) (G_law_number : Ready P w K mg base 2 "_law_number" ["cell", "k", "bound"] spNumb) :
    FnOk P w K mg base CX0 3 f fd ["draw", "bound"] spNext := by
  refine F.ok sc_next (fun vs H Q E h => ?_) (fun cdv A outer s H vs Q E hr h => ?_)
  · obtain ⟨d, s, ns, n, b, rfl, _⟩ := h
    rfl
  obtain ⟨d, s, ns, n, b, rfl, D, hb, q⟩ := h
  have nd := sc_next.nd
  refine ⟨_, pss_cons (ps_asg (pe_op op_add (pe_ix ix_list (pv 0) pe_int (fun _ _ => rfl)) pe_int) (pg_sub (pv 0) pe_int set_list))
      (pss_cons (ps_set (i := 2) nd rfl (.inl rfl) (pe_op op_fdiv (pe_ix ix_list (pv 0) pe_int (fun _ _ => rfl)) pe_int))
      (pss_cons (ps_set (i := 3) nd rfl (.inl rfl) (pe_op op_add (pe_fn (G_law_cell_at) (hr.mono (by decide)) (pa_cons (pe_ix ix_list (pv 0) pe_int (fun _ _ => rfl)) (pa_cons (pe_op op_add (pe_ix ix_list (pv 0) pe_int (fun _ _ => rfl)) (pv 2)) pa_nil))) (pe_op op_mul pe_int (pv 2))))
      (pss_one (ps_ret (pe_fn (G_law_number) (hr.mono (by decide)) (pa_cons (pv 3) (pa_cons (pe_op op_add (pe_op op_mod (pe_callTy call_int1 (by rfl) m_int boot_int (pa_cons (pe_ix ix_list (pv 0) pe_int (fun _ _ => rfl)) pa_nil)) pe_int) pe_int) (pa_cons (pv 1) pa_nil)))))))), ?_⟩
  refine ⟨_, rfl, d, _, 2, _, rfl, rfl, SqL.of D.at_d, rfl, _, _, rfl, rfl, _, rfl, d, _, _, _, rfl, rfl, D.at_d, rfl, ?_⟩
  have D1 : DrawAt (upd H d (.lst [.ref s, .int 0, .int (n + 1)])) d s ns (n + 1) := ⟨upd_same, by rw [upd_ne D.ne]; exact D.at_s, by have := D.n0; omega⟩
  have b1 : But d H (upd H d (.lst [.ref s, .int 0, .int (n + 1)])) := fun c o hc e => by rw [upd_ne hc]; exact e
  have n0 := D1.n0
  refine ⟨_, rfl, d, _, 2, _, rfl, rfl, SqL.of D1.at_d, rfl, _, _, rfl, rfl, (by show _ ∧ _; decide), ?_⟩
  refine ⟨_, rfl, d, _, 0, _, rfl, rfl, SqL.of D1.at_d, rfl, _, rfl, d, _, 1, _, rfl, rfl, SqL.of D1.at_d, rfl, _, rfl, _, _, rfl, rfl, s, ns, _, rfl, SqL.of D1.at_s, by omega, fun c => ?_⟩
  refine ⟨_, rfl, _, _, rfl, rfl, .inl (by show _ ∧ _; decide), _, _, rfl, rfl, ?_⟩
  refine ⟨_, rfl, _, rfl, d, _, 2, _, rfl, rfl, SqL.of D1.at_d, rfl, .inl ⟨_, rfl, _, _, rfl, rfl, (by show (0 : Int) < 12; decide), _, _, rfl, rfl, _, rfl, ?_⟩⟩
  refine ⟨_, _, _, rfl, by omega, by omega, hb, fun r H' r0 r1 sm => ?_⟩
  exact q r H' r0 r1 (b1.trans (same_but sm)) (D1.keep sm)
/-- a list or a tuple of values -/
def Seq (K : PySem.W.Frag) (H : Hp) (a : Addr) (xs : List V) : Prop := SqL K H a xs ∨ SqT K H a xs
theorem nth {xs : List V} {r : Int} (h0 : 0 ≤ r) (h1 : r < (xs.length : Int)) : ∃ v, v ∈ xs ∧ atI xs r = some v := by
  have er : r = ((r.toNat : Nat) : Int) := by omega
  have hk : r.toNat < xs.length := by omega
  have q : atI xs ((r.toNat : Nat) : Int) = some xs[r.toNat] := atI_nat (List.getElem?_eq_getElem hk)
  rw [← er] at q
  exact ⟨_, List.getElem_mem hk, q⟩
theorem But.sqT {H H' : Hp} {d a : Addr} {xs : List V} (h : But d H H') (hd : ∃ l, H d = some (.lst l)) (q : SqT K H a xs) : SqT K H' a xs := by
  rcases q with (q | ⟨o, q⟩) | q
  · refine .inl (.inl (h _ _ (fun e => ?_) q))
    obtain ⟨l, hl⟩ := hd
    rw [e, hl] at q
    cases q
  · refine .inl (.inr ⟨o, h _ _ (fun e => ?_) q⟩)
    obtain ⟨l, hl⟩ := hd
    rw [e, hl] at q
    cases q
  · exact .inr q
def spPick (K : PySem.W.Frag) : Sp := fun vs H Q _ => ∃ (d s t : Addr) (ns : List Int) (n : Int) (xs : List V), vs = [.ref d, .ref t] ∧ DrawAt H d s ns n ∧ t ≠ d ∧ Seq K H t xs ∧ xs ≠ [] ∧ ∀ (v : V) (H' : Hp), v ∈ xs → But d H H' → DrawAt H' d s ns (n + 1) → Q v H'
theorem sc_pick : FnScope ["draw", "things"] ["draw", "things"] (defScope sPick) := ⟨rfl, rfl, rfl, by decide +kernel, rfl, by decide +kernel, by decide +kernel⟩
theorem But.seq {H H' : Hp} {d a : Addr} {xs : List V} (h : But d H H') (hd : a ≠ d) (q : Seq K H a xs) : Seq K H' a xs := by
  rcases q with ((q | ⟨o, q⟩) | q) | ((q | ⟨o, q⟩) | q)
  · exact .inl (.inl (.inl (h _ _ hd q)))
  · exact .inl (.inl (.inr ⟨o, h _ _ hd q⟩))
  · exact .inl (.inr q)
  · exact .inr (.inl (.inl (h _ _ hd q)))
  · exact .inr (.inl (.inr ⟨o, h _ _ hd q⟩))
  · exact .inr (.inr q)
theorem ok_pick {f : Addr} {fd : FuncData} (F : Fun K "_law_pick" "_law_pick" sPick f fd) (m_len : mg "len" = none) (G_law_next : Ready P w K mg base 3 "_law_next" ["draw", "bound"] spNext) :
    FnOk P w K mg base CX0 4 f fd ["draw", "things"] (spPick K) := by
  refine F.ok sc_pick (fun vs H Q E h => ?_) (fun cdv A outer s H vs Q E hr h => ?_)
  · obtain ⟨d, s, t, ns, n, xs, rfl, _⟩ := h
    rfl
  obtain ⟨d, s, t, ns, n, xs, rfl, D, td, hS, hne, q⟩ := h
  have nd := sc_pick.nd
  refine ⟨_, pss_one (ps_ret (pe_ix ix_seq (pv 1) (pe_fn (G_law_next) (hr.mono (by decide)) (pa_cons (pv 0) (pa_cons (pe_callB call_len_seq (by rfl) m_len PySem.boot_len (pa_cons (pv 1) pa_nil)) pa_nil))) (fun _ _ => rfl))), ?_⟩
  have hl : 0 < (xs.length : Int) := by
    have := List.length_pos_iff.mpr hne
    omega
  refine ⟨_, rfl, _, rfl, _, rfl, t, xs, rfl, hS, d, s, ns, n, _, rfl, D, hl, fun r H' r0 r1 bt D' => ?_⟩
  obtain ⟨v, hv, hat⟩ := nth r0 r1
  rcases bt.seq td hS with hL | hT
  · exact .inl ⟨t, xs, _, _, rfl, rfl, hL, hat, q _ _ hv bt D'⟩
  · exact .inr (.inl ⟨t, xs, _, _, rfl, rfl, hT, hat, q _ _ hv bt D'⟩)
end
end Kx

namespace Kx
open PySem PySem.Spec PyProof.Rows L2
abbrev sWrap : Stmt := topS 2
abbrev sIsSo : Stmt := topS 6
abbrev sCount : Stmt := topS 7
abbrev sTwo : Stmt := topS 8
abbrev sWorth : Stmt := topS 9
/-! ### what expressions are worth, in plain Lean -/
def wrap (n : Int) : Int := (n + 9223372036854775808) % 18446744073709551616 - 9223372036854775808
theorem wrap_in (n : Int) : -9223372036854775808 ≤ wrap n ∧ wrap n < 9223372036854775808 := by
  unfold wrap
  omega
theorem wrap_id {n : Int} (h : -9223372036854775808 ≤ n ∧ n < 9223372036854775808) : wrap n = n := by
  unfold wrap
  omega
def b2 (b : Bool) : Int := if b then 1 else 0
theorem b2_in (b : Bool) : -9223372036854775808 ≤ b2 b ∧ b2 b < 9223372036854775808 := by cases b <;> decide
def ltV : V → V → Bool
  | .int i, .int j => decide (i < j)
  | .str a, .str b => decide (a.cps.toList < b.cps.toList)
  | _, _ => false
def leV : V → V → Bool
  | .int i, .int j => decide (i ≤ j)
  | .str a, .str b => !decide (b.cps.toList < a.cps.toList)
  | _, _ => false
def isSo (op : Str) (x y : V) : Bool :=
  if V.str op = .str "=" then decide (x = y) else if V.str op = .str "!=" then !decide (x = y) else if V.str op = .str "<" then ltV x y else if V.str op = .str "<=" then leV x y else if V.str op = .str ">" then ltV y x else leV y x
def counted (op : Str) (a b : Int) : Int :=
  if V.str op = .str "+" then a + b else if V.str op = .str "-" then a - b else if V.str op = .str "*" then a * b else if V.int b = .int 0 then 0 else if V.str op = .str "/" then a.fdiv b else a.fmod b
def toI : V → Int
  | .int i => i
  | _ => 0
/-- the six comparisons; the five others -/
def cmps : List Str := ["=", "!=", "<", "<=", ">", ">="]
/-- those that texts are compared by -/
def cmpsT : List Str := ["=", "!=", "<", ">="]
theorem cmpsT_sub : ∀ op ∈ cmpsT, op ∈ cmps := by decide +kernel
def sums : List Str := ["+", "-", "*", "/", "mod"]
def two (op : Str) (x y : V) : Int :=
  if V.str op = .str "and" then b2 (!decide (x = .int 0) && !decide (y = .int 0)) else if V.str op = .str "or" then b2 (!decide (x = .int 0) || !decide (y = .int 0)) else if op ∈ cmps then b2 (isSo op x y) else wrap (counted op (toI x) (toI y))
/-- both ints, or both texts -/
def Alike (x y : V) : Prop := (∃ i j : Int, x = .int i ∧ y = .int j) ∨ ∃ a b : Str, x = .str a ∧ y = .str b
inductive Ex where
  | num (i : Int)
  | quo (z : Str)
  | col (x : Str)
  | two (op : Str) (a b : Ex)
  | nt (a : Ex)
  | mn (a : Ex)
  | ln (a : Ex)
def Ex.dep : Ex → Nat
  | .two _ a b => max a.dep b.dep + 1
  | .nt a => a.dep + 1
  | .mn a => a.dep + 1
  | .ln a => a.dep + 1
  | _ => 1
theorem Ex.dep_pos (e : Ex) : 0 < e.dep := by cases e <;> exact Nat.succ_pos _
def lenV : V → Int
  | .str z => (z.length : Nat)
  | _ => 0
def Ex.val (ρ : Str → V) : Ex → V
  | .num i => .int i
  | .quo z => .str z
  | .col x => ρ x
  | .two op a b => .int (Kx.two op (a.val ρ) (b.val ρ))
  | .nt a => .int (b2 (decide (a.val ρ = .int 0)))
  | .mn a => .int (wrap (-(toI (a.val ρ))))
  | .ln a => .int (lenV (a.val ρ))
/-- the kinds: true an int, false a text; c the kinds of the columns -/
inductive Kind (c : Str → Option Bool) : Ex → Bool → Prop where
  | num {i : Int} (h : -9223372036854775808 ≤ i ∧ i < 9223372036854775808) : Kind c (.num i) true
  | quo {z : Str} (h : z.length ≤ 100) : Kind c (.quo z) false
  | col {x : Str} {b : Bool} (h : c x = some b) : Kind c (.col x) b
  | arith {op : Str} {a b : Ex} (h : op ∈ sums ∨ op ∈ cmps ∨ op = "and" ∨ op = "or") (ha : Kind c a true) (hb : Kind c b true) : Kind c (.two op a b) true
  | text {op : Str} {a b : Ex} (h : op ∈ cmpsT) (ha : Kind c a false) (hb : Kind c b false) : Kind c (.two op a b) true
  | nt {a : Ex} (ha : Kind c a true) : Kind c (.nt a) true
  | mn {a : Ex} (ha : Kind c a true) : Kind c (.mn a) true
  | ln {a : Ex} (ha : Kind c a false) : Kind c (.ln a) true
/-- a value of a kind -/
def Fits : Bool → V → Prop
  | true, v => ∃ i : Int, v = .int i ∧ -9223372036854775808 ≤ i ∧ i < 9223372036854775808
  | false, v => ∃ z : Str, v = .str z ∧ z.length ≤ 100
theorem two_in (op : Str) (x y : V) : -9223372036854775808 ≤ two op x y ∧ two op x y < 9223372036854775808 := by
  unfold two
  split
  · exact b2_in _
  split
  · exact b2_in _
  split
  · exact b2_in _
  · exact wrap_in _
theorem val_fits {c : Str → Option Bool} {ρ : Str → V} (hρ : ∀ x b, c x = some b → Fits b (ρ x)) {e : Ex} {b : Bool} (h : Kind c e b) : Fits b (e.val ρ) := by
  induction h with
  | num h => exact ⟨_, rfl, h⟩
  | quo h => exact ⟨_, rfl, h⟩
  | col h => exact hρ _ _ h
  | arith h ha hb iha ihb => exact ⟨_, rfl, two_in _ _ _⟩
  | text h ha hb iha ihb => exact ⟨_, rfl, two_in _ _ _⟩
  | nt ha ih => exact ⟨_, rfl, b2_in _⟩
  | mn ha ih => exact ⟨_, rfl, wrap_in _⟩
  | ln ha ih =>
    obtain ⟨z, e, hz⟩ := ih
    refine ⟨_, rfl, ?_⟩
    rw [e]
    show -9223372036854775808 ≤ ((z.length : Nat) : Int) ∧ ((z.length : Nat) : Int) < 9223372036854775808
    omega
/-- how an expression stands in the heap -/
def ExAt (H : Hp) : V → Ex → Prop
  | v, .num i => ∃ a, v = .ref a ∧ H a = some (.tup [.str "number", .int i])
  | v, .quo z => ∃ a, v = .ref a ∧ H a = some (.tup [.str "quoted", .str z])
  | v, .col x => ∃ a, v = .ref a ∧ H a = some (.tup [.str "column", .str x])
  | v, .two op x y => ∃ a vx vy, v = .ref a ∧ H a = some (.tup [.str "two", .str op, vx, vy]) ∧ ExAt H vx x ∧ ExAt H vy y
  | v, .nt x => ∃ a vx, v = .ref a ∧ H a = some (.tup [.str "not", vx]) ∧ ExAt H vx x
  | v, .mn x => ∃ a vx, v = .ref a ∧ H a = some (.tup [.str "minus", vx]) ∧ ExAt H vx x
  | v, .ln x => ∃ a vx, v = .ref a ∧ H a = some (.tup [.str "length", vx]) ∧ ExAt H vx x
theorem ExAt.keep {H H' : Hp} (h : ∀ (a : Addr) (xs : List V), H a = some (.tup xs) → H' a = some (.tup xs)) : ∀ {e : Ex} {v : V}, ExAt H v e → ExAt H' v e
  | .num _, _, ⟨a, e, q⟩ => ⟨a, e, h _ _ q⟩
  | .quo _, _, ⟨a, e, q⟩ => ⟨a, e, h _ _ q⟩
  | .col _, _, ⟨a, e, q⟩ => ⟨a, e, h _ _ q⟩
  | .two _ _ _, _, ⟨a, vx, vy, e, q, x, y⟩ => ⟨a, vx, vy, e, h _ _ q, x.keep h, y.keep h⟩
  | .nt _, _, ⟨a, vx, e, q, x⟩ => ⟨a, vx, e, h _ _ q, x.keep h⟩
  | .mn _, _, ⟨a, vx, e, q, x⟩ => ⟨a, vx, e, h _ _ q, x.keep h⟩
  | .ln _, _, ⟨a, vx, e, q, x⟩ => ⟨a, vx, e, h _ _ q, x.keep h⟩
theorem But.tup {H H' : Hp} {d : Addr} {l : List V} (h : But d H H') (hd : H d = some (.lst l)) : ∀ (a : Addr) (xs : List V), H a = some (.tup xs) → H' a = some (.tup xs) := fun a xs e => h a _ (fun q => by rw [q, hd] at e; cases e) e
section
variable {X : Cx}
/-- // of ints of any sign -/
theorem op_fdivA : OpR X (binaryOp .FloorDiv) (rI (fun _ j => j ≠ 0 ∧ j.natAbs.log2 < 9000) fun i j => .int (i.fdiv j)) := opI fun i j _ _ _ _ _ hc q =>
  floordiv_int hc.1 q (.inl (PyProof.noPylong_of_log2 hc.2))
end
section
variable {P : Program} {w : World} {K : PySem.W.Frag} {mg : Str → Option Value} {base : Heap}
theorem str_eq {a b : Str} (h : V.str a = .str b) : a = b := by cases h; rfl
/-! ### wrapped -/
def spWrap : Sp := fun vs H Q _ => ∃ n : Int, vs = [.int n] ∧ Q (.int (wrap n)) H
theorem sc_wrap : FnScope ["number"] ["number"] (defScope sWrap) := ⟨rfl, rfl, rfl, by decide +kernel, rfl, by decide +kernel, by decide +kernel⟩
theorem ok_wrap {f : Addr} {fd : FuncData} (F : Fun K "wrapped" "wrapped" sWrap f fd) (m_LEAST : ∃ t, mg "LEAST_INT" = some (.int (-9223372036854775808) t)) : FnOk P w K mg base CX0 1 f fd ["number"] spWrap := by
  refine F.ok sc_wrap (fun vs H Q E h => ?_) (fun cdv A outer s H vs Q E hr h => ?_)
  · obtain ⟨n, rfl, _⟩ := h
    rfl
  obtain ⟨n, rfl, q⟩ := h
  obtain ⟨tk, m_L⟩ := m_LEAST
  refine ⟨_, pss_one (ps_ret (pe_op op_add (pe_op op_mod (pe_op op_sub (pv 0) (pe_glob (v := .int (-9223372036854775808)) rfl m_L ⟨_, rfl⟩)) (pe_op op_pow pe_int pe_int)) (pe_glob (v := .int (-9223372036854775808)) rfl m_L ⟨_, rfl⟩))), ?_⟩
  refine ⟨_, rfl, _, _, rfl, rfl, _, _, rfl, rfl, (by show _ ∧ _ ∧ _; decide), _, _, rfl, rfl, (by show (0 : Int) < 2 ^ 64; decide), _, _, rfl, rfl, ?_⟩
  have e : (n - -9223372036854775808) % (2 ^ (64 : Int).toNat) + -9223372036854775808 = wrap n := by
    unfold wrap
    show (n - -9223372036854775808) % 18446744073709551616 + -9223372036854775808 = _
    omega
  show Q (.int ((n - -9223372036854775808) % (2 ^ (64 : Int).toNat) + -9223372036854775808)) H
  rw [e]
  exact q
/-! ### is_so -/
theorem alike_scal {x y : V} (h : Alike x y) : scal x y = true := by
  rcases h with ⟨i, j, rfl, rfl⟩ | ⟨a, b, rfl, rfl⟩ <;> rfl
def spIsSo : Sp := fun vs H Q _ => ∃ (op : Str) (x y : V), vs = [.str op, x, y] ∧ Alike x y ∧ Q (.bl (isSo op x y)) H
theorem sc_isso : FnScope ["op", "one", "other"] ["op", "one", "other"] (defScope sIsSo) := ⟨rfl, rfl, rfl, by decide +kernel, rfl, by decide +kernel, by decide +kernel⟩
theorem ok_isso {f : Addr} {fd : FuncData} (F : Fun K "is_so" "is_so" sIsSo f fd) : FnOk P w K mg base CX0 1 f fd ["op", "one", "other"] spIsSo := by
  refine F.ok sc_isso (fun vs H Q E h => ?_) (fun cdv A outer s H vs Q E hr h => ?_)
  · obtain ⟨op, x, y, rfl, _⟩ := h
    rfl
  obtain ⟨op, x, y, rfl, hx, q⟩ := h
  have hs := alike_scal hx
  refine ⟨_, pss_cons (ps_if (pt_cmpR op_eq (pv 0) pe_str (nomark _)) (pss_one (ps_ret (pe_cmpR op_eq (pv 1) (pv 2) (nomark _)))) (pss_nil))
      (pss_cons (ps_if (pt_cmpR op_eq (pv 0) pe_str (nomark _)) (pss_one (ps_ret (pe_cmpR op_ne (pv 1) (pv 2) (nomark _)))) (pss_nil))
      (pss_cons (ps_if (pt_cmpR op_eq (pv 0) pe_str (nomark _)) (pss_one (ps_ret (pe_cmpR (op_lt.or op_lt_str) (pv 1) (pv 2) (nomark _)))) (pss_nil))
      (pss_cons (ps_if (pt_cmpR op_eq (pv 0) pe_str (nomark _)) (pss_one (ps_ret (pe_cmpR (op_le.or op_le_str) (pv 1) (pv 2) (nomark _)))) (pss_nil))
      (pss_cons (ps_if (pt_cmpR op_eq (pv 0) pe_str (nomark _)) (pss_one (ps_ret (pe_cmpR (op_gt.or op_gt_str) (pv 1) (pv 2) (nomark _)))) (pss_nil))
      (pss_one (ps_ret (pe_cmpR (op_ge.or op_ge_str) (pv 1) (pv 2) (nomark _)))))))), ?_⟩
  unfold isSo at q
  refine ⟨_, rfl, rfl, _, rfl, ite2 (fun c => ?_) (fun c => ?_)⟩
  · rw [if_pos (of_decide_eq_true c)] at q
    exact ⟨_, rfl, _, rfl, hs, q⟩
  rw [if_neg (fun e => c (decide_eq_true e))] at q
  refine ⟨_, rfl, rfl, _, rfl, ite2 (fun c => ?_) (fun c => ?_)⟩
  · rw [if_pos (of_decide_eq_true c)] at q
    exact ⟨_, rfl, _, rfl, hs, q⟩
  rw [if_neg (fun e => c (decide_eq_true e))] at q
  refine ⟨_, rfl, rfl, _, rfl, ite2 (fun c => ?_) (fun c => ?_)⟩
  · rw [if_pos (of_decide_eq_true c)] at q
    rcases hx with ⟨i, j, rfl, rfl⟩ | ⟨a, b, rfl, rfl⟩
    · exact ⟨_, rfl, _, rfl, .inl ⟨_, _, rfl, rfl, q⟩⟩
    · exact ⟨_, rfl, _, rfl, .inr ⟨_, _, rfl, rfl, q⟩⟩
  rw [if_neg (fun e => c (decide_eq_true e))] at q
  refine ⟨_, rfl, rfl, _, rfl, ite2 (fun c => ?_) (fun c => ?_)⟩
  · rw [if_pos (of_decide_eq_true c)] at q
    rcases hx with ⟨i, j, rfl, rfl⟩ | ⟨a, b, rfl, rfl⟩
    · exact ⟨_, rfl, _, rfl, .inl ⟨_, _, rfl, rfl, q⟩⟩
    · exact ⟨_, rfl, _, rfl, .inr ⟨_, _, rfl, rfl, q⟩⟩
  rw [if_neg (fun e => c (decide_eq_true e))] at q
  refine ⟨_, rfl, rfl, _, rfl, ite2 (fun c => ?_) (fun c => ?_)⟩
  · rw [if_pos (of_decide_eq_true c)] at q
    rcases hx with ⟨i, j, rfl, rfl⟩ | ⟨a, b, rfl, rfl⟩
    · exact ⟨_, rfl, _, rfl, .inl ⟨_, _, rfl, rfl, q⟩⟩
    · exact ⟨_, rfl, _, rfl, .inr ⟨_, _, rfl, rfl, q⟩⟩
  rw [if_neg (fun e => c (decide_eq_true e))] at q
  rcases hx with ⟨i, j, rfl, rfl⟩ | ⟨a, b, rfl, rfl⟩
  · exact ⟨_, rfl, _, rfl, .inl ⟨_, _, rfl, rfl, q⟩⟩
  · exact ⟨_, rfl, _, rfl, .inr ⟨_, _, rfl, rfl, q⟩⟩
/-! ### counted -/
def In64 (i : Int) : Prop := -9223372036854775808 ≤ i ∧ i < 9223372036854775808
def spCount : Sp := fun vs H Q _ => ∃ (op : Str) (a b : Int), vs = [.str op, .int a, .int b] ∧ In64 a ∧ In64 b ∧ Q (.int (counted op a b)) H
theorem sc_count : FnScope ["op", "one", "other"] ["op", "one", "other"] (defScope sCount) := ⟨rfl, rfl, rfl, by decide +kernel, rfl, by decide +kernel, by decide +kernel⟩
theorem log_ok {j : Int} (h : In64 j) : j.natAbs.log2 < 9000 := by
  have hj : j.natAbs < 2 ^ 64 := by unfold In64 at h; omega
  exact Nat.lt_trans (PySem.Flt.log2_lt_of (by decide) hj) (by decide)
theorem ok_count {f : Addr} {fd : FuncData} (F : Fun K "counted" "counted" sCount f fd) : FnOk P w K mg base CX0 1 f fd ["op", "one", "other"] spCount := by
  refine F.ok sc_count (fun vs H Q E h => ?_) (fun cdv A outer s H vs Q E hr h => ?_)
  · obtain ⟨op, x, y, rfl, _⟩ := h
    rfl
  obtain ⟨op, a, b, rfl, ha, hb, q⟩ := h
  refine ⟨_, pss_cons (ps_if (pt_cmpR op_eq (pv 0) pe_str (nomark _)) (pss_one (ps_ret (pe_op op_add (pv 1) (pv 2)))) (pss_nil))
      (pss_cons (ps_if (pt_cmpR op_eq (pv 0) pe_str (nomark _)) (pss_one (ps_ret (pe_op op_sub (pv 1) (pv 2)))) (pss_nil))
      (pss_cons (ps_if (pt_cmpR op_eq (pv 0) pe_str (nomark _)) (pss_one (ps_ret (pe_op op_mul (pv 1) (pv 2)))) (pss_nil))
      (pss_cons (ps_if (pt_cmpR op_eq (pv 2) pe_int (nomark _)) (pss_one (ps_ret pe_int)) (pss_nil))
      (pss_cons (ps_if (pt_cmpR op_eq (pv 0) pe_str (nomark _)) (pss_one (ps_ret (pe_op op_fdivA (pv 1) (pv 2)))) (pss_nil))
      (pss_one (ps_ret (pe_op op_modN (pv 1) (pv 2)))))))), ?_⟩
  unfold counted at q
  refine ⟨_, rfl, rfl, _, rfl, ite2 (fun c => ?_) (fun c => ?_)⟩
  · rw [if_pos (of_decide_eq_true c)] at q
    exact ⟨_, rfl, _, rfl, _, _, rfl, rfl, q⟩
  rw [if_neg (fun e => c (decide_eq_true e))] at q
  refine ⟨_, rfl, rfl, _, rfl, ite2 (fun c => ?_) (fun c => ?_)⟩
  · rw [if_pos (of_decide_eq_true c)] at q
    exact ⟨_, rfl, _, rfl, _, _, rfl, rfl, q⟩
  rw [if_neg (fun e => c (decide_eq_true e))] at q
  refine ⟨_, rfl, rfl, _, rfl, ite2 (fun c => ?_) (fun c => ?_)⟩
  · rw [if_pos (of_decide_eq_true c)] at q
    exact ⟨_, rfl, _, rfl, _, _, rfl, rfl, .inl (by unfold In64 at ha; omega), q⟩
  rw [if_neg (fun e => c (decide_eq_true e))] at q
  refine ⟨_, rfl, rfl, _, rfl, ite2 (fun c => ?_) (fun c => ?_)⟩
  · rw [if_pos (of_decide_eq_true c)] at q
    exact q
  rw [if_neg (fun e => c (decide_eq_true e))] at q
  have hb0 : b ≠ 0 := fun e => c (decide_eq_true (by rw [e]))
  refine ⟨_, rfl, rfl, _, rfl, ite2 (fun c => ?_) (fun c => ?_)⟩
  · rw [if_pos (of_decide_eq_true c)] at q
    exact ⟨_, rfl, _, rfl, _, _, rfl, rfl, ⟨hb0, log_ok hb⟩, q⟩
  rw [if_neg (fun e => c (decide_eq_true e))] at q
  exact ⟨_, rfl, _, rfl, _, _, rfl, rfl, hb0, q⟩
end
end Kx

namespace Kx
open PySem PySem.Spec PyProof.Rows L2
section
variable {P : Program} {w : World} {K : PySem.W.Frag} {mg : Str → Option Value} {base : Heap}
/-- the table of the ops' levels, as far as it is read -/
structure Levels (K : PySem.W.Frag) (w : World) (mg : Str → Option Value) : Prop where
  ex : ∃ d, mg "LEVELS" = some (.ref d) ∧ (∀ op ∈ cmps, KDct K w d op (.int 4)) ∧ ∀ op ∈ sums, ∃ l : Int, l ≠ 4 ∧ KDct K w d op (.int l)
  four : ∃ t, mg "COMPARISON" = some (.int 4 t)
def spTwo : Sp := fun vs H Q _ => ∃ (op : Str) (x y : V), vs = [.str op, x, y] ∧ (((op ∈ sums ∨ op ∈ cmps ∨ op = "and" ∨ op = "or") ∧ Fits true x ∧ Fits true y) ∨ (op ∈ cmps ∧ Fits false x ∧ Fits false y)) ∧ Q (.int (two op x y)) H
theorem sc_two : FnScope ["op", "one", "other"] ["op", "one", "other"] (defScope sTwo) := ⟨rfl, rfl, rfl, by decide +kernel, rfl, by decide +kernel, by decide +kernel⟩
theorem cmps_no : ("and" : Str) ∉ cmps ∧ ("or" : Str) ∉ cmps := by decide +kernel
theorem sums_no : ∀ op ∈ sums, op ∉ cmps := by decide +kernel
theorem ok_two {f : Addr} {fd : FuncData} (F : Fun K "worth_of_two" "worth_of_two" sTwo f fd) (m_int : mg "int" = none) (L : Levels K w mg) (G_is_so : Ready P w K mg base 1 "is_so" ["op", "one", "other"] spIsSo) (G_counted : Ready P w K mg base 1 "counted" ["op", "one", "other"] spCount)
    (G_wrapped : Ready P w K mg base 1 "wrapped" ["number"] spWrap) : FnOk P w K mg base CX0 2 f fd ["op", "one", "other"] spTwo := by
  refine F.ok sc_two (fun vs H Q E h => ?_) (fun cdv A outer s H vs Q E hr h => ?_)
  · obtain ⟨op, x, y, rfl, _⟩ := h
    rfl
  obtain ⟨op, x, y, rfl, hx, q⟩ := h
  obtain ⟨dl, m_LV, lc, ls⟩ := L.ex
  obtain ⟨t4, m_C⟩ := L.four
  refine ⟨_, pss_cons (ps_if (pt_cmpR op_eq (pv 0) pe_str (nomark _)) (pss_one (ps_ret (pe_callTy call_int1 (by rfl) m_int boot_int (pa_cons (pe_and (pe_cmpR op_ne (pv 1) pe_int (nomark _)) (pe_one (pe_cmpR op_ne (pv 2) pe_int (nomark _)))) pa_nil)))) (pss_nil))
      (pss_cons (ps_if (pt_cmpR op_eq (pv 0) pe_str (nomark _)) (pss_one (ps_ret (pe_callTy call_int1 (by rfl) m_int boot_int (pa_cons (pe_or (pe_cmpR op_ne (pv 1) pe_int (nomark _)) (pe_one (pe_cmpR op_ne (pv 2) pe_int (nomark _)))) pa_nil)))) (pss_nil))
      (pss_cons (ps_if (pt_cmpR op_eq (pe_ix ix_kdict (pe_glob (v := .ref dl) rfl m_LV rfl) (pv 0) (fun _ _ => rfl)) (pe_glob (v := .int 4) rfl m_C ⟨_, rfl⟩) (nomark _)) (pss_one (ps_ret (pe_callTy call_int1 (by rfl) m_int boot_int (pa_cons (pe_fn (G_is_so) (hr.mono (by decide)) (pa_cons (pv 0) (pa_cons (pv 1) (pa_cons (pv 2) pa_nil)))) pa_nil)))) (pss_nil))
      (pss_one (ps_ret (pe_fn (G_wrapped) (hr.mono (by decide)) (pa_cons (pe_fn (G_counted) (hr.mono (by decide)) (pa_cons (pv 0) (pa_cons (pv 1) (pa_cons (pv 2) pa_nil)))) pa_nil)))))), ?_⟩
  unfold two at q
  refine ⟨_, rfl, rfl, _, rfl, ite2 (fun c => ?_) (fun c => ?_)⟩
  · have c' := of_decide_eq_true c
    rw [if_pos c'] at q
    have e := str_eq c'
    have hi : Fits true x ∧ Fits true y := by
      rcases hx with h | h
      · exact h.2
      · rw [e] at h
        exact absurd h.1 cmps_no.1
    obtain ⟨⟨i, rfl, _⟩, ⟨j, rfl, _⟩⟩ := hi
    refine ⟨_, rfl, rfl, _, rfl, ite2 (fun d => ?_) (fun d => ?_)⟩
    · refine ⟨_, rfl, rfl, .inr ⟨_, rfl, ?_⟩⟩
      rw [show (!decide (V.int i = .int 0)) = true from d, Bool.true_and] at q
      exact q
    · refine .inr ⟨_, rfl, ?_⟩
      rw [show (!decide (V.int i = .int 0)) = false from Bool.eq_false_iff.mpr d, Bool.false_and] at q
      exact q
  rw [if_neg (fun e => c (decide_eq_true e))] at q
  have n1 : op ≠ "and" := fun e => c (decide_eq_true (by rw [e]))
  refine ⟨_, rfl, rfl, _, rfl, ite2 (fun c => ?_) (fun c => ?_)⟩
  · have c' := of_decide_eq_true c
    rw [if_pos c'] at q
    have e := str_eq c'
    have hi : Fits true x ∧ Fits true y := by
      rcases hx with h | h
      · exact h.2
      · rw [e] at h
        exact absurd h.1 cmps_no.2
    obtain ⟨⟨i, rfl, _⟩, ⟨j, rfl, _⟩⟩ := hi
    refine ⟨_, rfl, rfl, _, rfl, ite2 (fun d => ?_) (fun d => ?_)⟩
    · refine .inr ⟨_, rfl, ?_⟩
      rw [show (!decide (V.int i = .int 0)) = true from d, Bool.true_or] at q
      exact q
    · refine ⟨_, rfl, rfl, .inr ⟨_, rfl, ?_⟩⟩
      rw [show (!decide (V.int i = .int 0)) = false from Bool.eq_false_iff.mpr d, Bool.false_or] at q
      exact q
  rw [if_neg (fun e => c (decide_eq_true e))] at q
  have n2 : op ≠ "or" := fun e => c (decide_eq_true (by rw [e]))
  by_cases hc : op ∈ cmps
  · rw [if_pos hc] at q
    refine ⟨_, rfl, dl, op, _, rfl, rfl, lc op hc, rfl, _, rfl, iteT ?_⟩
    refine ⟨_, rfl, _, rfl, _, rfl, op, x, y, rfl, ?_, .inr ⟨_, rfl, q⟩⟩
    rcases hx with ⟨_, ⟨i, rfl, _⟩, ⟨j, rfl, _⟩⟩ | ⟨_, ⟨i, rfl, _⟩, ⟨j, rfl, _⟩⟩
    · exact .inl ⟨_, _, rfl, rfl⟩
    · exact .inr ⟨_, _, rfl, rfl⟩
  · rw [if_neg hc] at q
    have hs : op ∈ sums := by
      rcases hx with ⟨h | h | h | h, _⟩ | ⟨h, _⟩
      · exact h
      · exact absurd h hc
      · exact absurd h n1
      · exact absurd h n2
      · exact absurd h hc
    have hi : Fits true x ∧ Fits true y := by
      rcases hx with h | h
      · exact h.2
      · exact absurd h.1 hc
    obtain ⟨⟨i, rfl, i0, i1⟩, ⟨j, rfl, j0, j1⟩⟩ := hi
    obtain ⟨l, hl, kd⟩ := ls op hs
    have hd : decide (V.int l = .int 4) = false := decide_eq_false (fun e => hl (by cases e; rfl))
    refine ⟨_, rfl, dl, op, _, rfl, rfl, kd, rfl, _, rfl, ?_⟩
    rw [hd]
    refine iteF ?_
    exact ⟨_, rfl, _, rfl, _, rfl, op, i, j, rfl, ⟨i0, i1⟩, ⟨j0, j1⟩, _, rfl, q⟩
/-! ### worth -/
/-- a row of these three columns, and the dict of their places -/
structure RowAt (H : Hp) (pl rw_ : Addr) (k : Int) (t : Str) (n : Int) : Prop where
  pl : H pl = some (.dK [(.inr "k", .int 0), (.inr "t", .int 1), (.inr "n", .int 2)])
  rw_ : H rw_ = some (.tup [.int k, .str t, .int n])
def rho (k : Int) (t : Str) (n : Int) (x : Str) : V := if x = "k" then .int k else if x = "t" then .str t else .int n
def kinds (x : Str) : Option Bool := if x = "k" then some true else if x = "t" then some false else if x = "n" then some true else none
theorem rho_fits {k : Int} {t : Str} {n : Int} (hk : In64 k) (ht : t.length ≤ 100) (hn : In64 n) : ∀ x b, kinds x = some b → Fits b (rho k t n x) := by
  intro x b h
  unfold kinds at h
  unfold rho
  split at h
  · rename_i e
    cases h
    rw [if_pos e]
    exact ⟨_, rfl, hk⟩
  · rename_i e
    rw [if_neg e]
    split at h
    · rename_i e
      cases h
      rw [if_pos e]
      exact ⟨_, rfl, ht⟩
    · rename_i e
      rw [if_neg e]
      split at h
      · cases h
        exact ⟨_, rfl, hn⟩
      · cases h
def spWorth (m : Nat) : Sp := fun vs H Q _ => ∃ (v : V) (pl rw_ : Addr) (k : Int) (t : Str) (n : Int) (e : Ex) (b : Bool), vs = [v, .ref pl, .ref rw_] ∧ RowAt H pl rw_ k t n ∧ In64 k ∧ t.length ≤ 100 ∧ In64 n ∧ ExAt H v e ∧ Kind kinds e b ∧ e.dep ≤ m ∧ Q (e.val (rho k t n)) H
theorem sc_worth : FnScope ["told", "places", "row", "what"] ["told", "places", "row"] (defScope sWorth) := ⟨rfl, rfl, rfl, by decide +kernel, rfl, by decide +kernel, by decide +kernel⟩
theorem at0 {x : V} {r : List V} : atI (x :: r) 0 = some x := by
  have h : atI (x :: r) ((0 : Nat) : Int) = some x := atI_nat rfl
  exact h
theorem kinds_in {x : Str} {b : Bool} (h : kinds x = some b) : x = "k" ∨ x = "t" ∨ x = "n" := by
  unfold kinds at h
  split at h
  · exact .inl (by assumption)
  split at h
  · exact .inr (.inl (by assumption))
  split at h
  · exact .inr (.inr (by assumption))
  · cases h
theorem ok_worth {f : Addr} {fd : FuncData} {m : Nat} (F : Fun K "worth" "worth" sWorth f fd) (m_int : mg "int" = none) (m_len : mg "len" = none) (G_worth_of_two : Ready P w K mg base 2 "worth_of_two" ["op", "one", "other"] spTwo) (G_wrapped : Ready P w K mg base 1 "wrapped" ["number"] spWrap)
    (G_worth : Ready P w K mg base (m + 2) "worth" ["told", "places", "row"] (spWorth m)) : FnOk P w K mg base CX0 (m + 3) f fd ["told", "places", "row"] (spWorth (m + 1)) := by
  refine F.ok sc_worth (fun vs H Q E h => ?_) (fun cdv A outer s H vs Q E hr h => ?_)
  · obtain ⟨v, pl, rw_, k, t, n, e, b, rfl, _⟩ := h
    rfl
  obtain ⟨v, pl, rw_, k, t, n, e, b, rfl, R, hk, ht, hn, hv, hK, hd, q⟩ := h
  have nd := sc_worth.nd
  have hu := hu_of hr
  have hr1 : Room 1 _ := hr.mono (by omega)
  have hr2 : Room 2 _ := hr.mono (by omega)
  refine ⟨_, pss_cons (ps_set (i := 3) nd rfl (.inl rfl) (pe_ix ix_tup (pv 0) pe_int (fun _ _ => rfl)))
      (pss_cons (ps_if (pt_cmpR op_eq (pv 3) pe_str (nomark _)) (pss_one (ps_ret (pe_ix ix_tup (pv 2) (pe_dget hu (pv 1) (pe_ix ix_tup (pv 0) pe_int (fun _ _ => rfl)) (fun _ _ => rfl)) (fun _ _ => rfl)))) (pss_nil))
      (pss_cons (ps_if (pt_cmpR op_eq (pv 3) pe_str (nomark _)) (pss_one (ps_ret (pe_fn (G_worth_of_two) hr2 (pa_cons (pe_ix ix_tup (pv 0) pe_int (fun _ _ => rfl)) (pa_cons (pe_fn (G_worth) hr (pa_cons (pe_ix ix_tup (pv 0) pe_int (fun _ _ => rfl)) (pa_cons (pv 1) (pa_cons (pv 2) pa_nil)))) (pa_cons (pe_fn (G_worth) hr (pa_cons (pe_ix ix_tup (pv 0) pe_int (fun _ _ => rfl)) (pa_cons (pv 1) (pa_cons (pv 2) pa_nil)))) pa_nil)))))) (pss_nil))
      (pss_cons (ps_if (pt_cmpR op_eq (pv 3) pe_str (nomark _)) (pss_one (ps_ret (pe_callTy call_int1 (by rfl) m_int boot_int (pa_cons (pe_cmpR op_eq (pe_fn (G_worth) hr (pa_cons (pe_ix ix_tup (pv 0) pe_int (fun _ _ => rfl)) (pa_cons (pv 1) (pa_cons (pv 2) pa_nil)))) pe_int (nomark _)) pa_nil)))) (pss_nil))
      (pss_cons (ps_if (pt_cmpR op_eq (pv 3) pe_str (nomark _)) (pss_one (ps_ret (pe_fn (G_wrapped) hr1 (pa_cons (pe_un un_neg (pe_fn (G_worth) hr (pa_cons (pe_ix ix_tup (pv 0) pe_int (fun _ _ => rfl)) (pa_cons (pv 1) (pa_cons (pv 2) pa_nil))))) pa_nil)))) (pss_nil))
      (pss_cons (ps_if (pt_cmpR op_eq (pv 3) pe_str (nomark _)) (pss_one (ps_ret (pe_callB call_len_str (by rfl) m_len PySem.boot_len (pa_cons (pe_fn (G_worth) hr (pa_cons (pe_ix ix_tup (pv 0) pe_int (fun _ _ => rfl)) (pa_cons (pv 1) (pa_cons (pv 2) pa_nil)))) pa_nil)))) (pss_nil))
      (pss_one (ps_ret (pe_ix ix_tup (pv 0) pe_int (fun _ _ => rfl))))))))), ?_⟩
  have vf : ∀ {e b}, Kind kinds e b → Fits b (e.val (rho k t n)) := fun h => val_fits (rho_fits hk ht hn) h
  cases e with
  | num i =>
    obtain ⟨a, rfl, ha⟩ := hv
    refine ⟨_, rfl, a, _, 0, _, rfl, rfl, SqT.of ha, at0, ?_⟩
    refine ⟨_, rfl, rfl, _, rfl, iteF ⟨_, rfl, rfl, _, rfl, iteF ⟨_, rfl, rfl, _, rfl, iteF ⟨_, rfl, rfl, _, rfl, iteF ⟨_, rfl, rfl, _, rfl, iteF ?_⟩⟩⟩⟩⟩
    exact ⟨_, rfl, a, _, 1, _, rfl, rfl, SqT.of ha, rfl, q⟩
  | quo z =>
    obtain ⟨a, rfl, ha⟩ := hv
    refine ⟨_, rfl, a, _, 0, _, rfl, rfl, SqT.of ha, at0, ?_⟩
    refine ⟨_, rfl, rfl, _, rfl, iteF ⟨_, rfl, rfl, _, rfl, iteF ⟨_, rfl, rfl, _, rfl, iteF ⟨_, rfl, rfl, _, rfl, iteF ⟨_, rfl, rfl, _, rfl, iteF ?_⟩⟩⟩⟩⟩
    exact ⟨_, rfl, a, _, 1, _, rfl, rfl, SqT.of ha, rfl, q⟩
  | col x =>
    obtain ⟨a, rfl, ha⟩ := hv
    refine ⟨_, rfl, a, _, 0, _, rfl, rfl, SqT.of ha, at0, ?_⟩
    refine ⟨_, rfl, rfl, _, rfl, iteT ?_⟩
    have hx : kinds x = some b := by cases hK; assumption
    rcases kinds_in hx with rfl | rfl | rfl
    · exact ⟨_, rfl, _, rfl, _, rfl, a, _, 1, _, rfl, rfl, SqT.of ha, rfl, pl, _, rfl, DGet.k (k := Sum.inr "k") R.pl, rw_, _, 0, _, rfl, rfl, SqT.of R.rw_, rfl, q⟩
    · exact ⟨_, rfl, _, rfl, _, rfl, a, _, 1, _, rfl, rfl, SqT.of ha, rfl, pl, _, rfl, DGet.k (k := Sum.inr "t") R.pl, rw_, _, 1, _, rfl, rfl, SqT.of R.rw_, rfl, q⟩
    · exact ⟨_, rfl, _, rfl, _, rfl, a, _, 1, _, rfl, rfl, SqT.of ha, rfl, pl, _, rfl, DGet.k (k := Sum.inr "n") R.pl, rw_, _, 2, _, rfl, rfl, SqT.of R.rw_, rfl, q⟩
  | two op x y =>
    obtain ⟨a, vx, vy, rfl, ha, hx, hy⟩ := hv
    have hd2 : max x.dep y.dep + 1 ≤ m + 1 := hd
    refine ⟨_, rfl, a, _, 0, _, rfl, rfl, SqT.of ha, at0, ?_⟩
    refine ⟨_, rfl, rfl, _, rfl, iteF ⟨_, rfl, rfl, _, rfl, iteT ?_⟩⟩
    have hk2 : ∃ b1, Kind kinds x b1 ∧ Kind kinds y b1 ∧ (((op ∈ sums ∨ op ∈ cmps ∨ op = "and" ∨ op = "or") ∧ b1 = true) ∨ (op ∈ cmps ∧ b1 = false)) := by
      cases hK with
      | arith h h1 h2 => exact ⟨true, h1, h2, .inl ⟨h, rfl⟩⟩
      | text h h1 h2 => exact ⟨false, h1, h2, .inr ⟨cmpsT_sub _ h, rfl⟩⟩
    obtain ⟨b1, k1, k2, hop⟩ := hk2
    refine ⟨_, rfl, a, _, 1, _, rfl, rfl, SqT.of ha, rfl, _, rfl, a, _, 2, _, rfl, rfl, SqT.of ha, rfl, _, rfl, _, rfl, _, pl, rw_, k, t, n, x, b1, rfl, R, hk, ht, hn, hx, k1, by omega, ?_⟩
    refine ⟨_, rfl, a, _, 3, _, rfl, rfl, SqT.of ha, rfl, _, rfl, _, rfl, _, pl, rw_, k, t, n, y, b1, rfl, R, hk, ht, hn, hy, k2, by omega, op, _, _, rfl, ?_, q⟩
    rcases hop with ⟨h, rfl⟩ | ⟨h, rfl⟩
    · exact .inl ⟨h, vf k1, vf k2⟩
    · exact .inr ⟨h, vf k1, vf k2⟩
  | nt x =>
    obtain ⟨a, vx, rfl, ha, hx⟩ := hv
    have hd2 : x.dep + 1 ≤ m + 1 := hd
    refine ⟨_, rfl, a, _, 0, _, rfl, rfl, SqT.of ha, at0, ?_⟩
    refine ⟨_, rfl, rfl, _, rfl, iteF ⟨_, rfl, rfl, _, rfl, iteF ⟨_, rfl, rfl, _, rfl, iteT ?_⟩⟩⟩
    have k1 : Kind kinds x true := by cases hK; assumption
    obtain ⟨i, ei, _⟩ := vf k1
    refine ⟨_, rfl, a, _, 1, _, rfl, rfl, SqT.of ha, rfl, _, rfl, _, rfl, _, pl, rw_, k, t, n, x, true, rfl, R, hk, ht, hn, hx, k1, by omega, ?_, .inr ⟨_, rfl, q⟩⟩
    rw [ei]
    rfl
  | mn x =>
    obtain ⟨a, vx, rfl, ha, hx⟩ := hv
    have hd2 : x.dep + 1 ≤ m + 1 := hd
    refine ⟨_, rfl, a, _, 0, _, rfl, rfl, SqT.of ha, at0, ?_⟩
    refine ⟨_, rfl, rfl, _, rfl, iteF ⟨_, rfl, rfl, _, rfl, iteF ⟨_, rfl, rfl, _, rfl, iteF ⟨_, rfl, rfl, _, rfl, iteT ?_⟩⟩⟩⟩
    have k1 : Kind kinds x true := by cases hK; assumption
    obtain ⟨i, ei, _⟩ := vf k1
    have q' : Q (.int (wrap (-(toI (x.val (rho k t n)))))) H := q
    rw [ei] at q'
    refine ⟨_, rfl, a, _, 1, _, rfl, rfl, SqT.of ha, rfl, _, rfl, _, rfl, _, pl, rw_, k, t, n, x, true, rfl, R, hk, ht, hn, hx, k1, by omega, i, ei, _, rfl, q'⟩
  | ln x =>
    obtain ⟨a, vx, rfl, ha, hx⟩ := hv
    have hd2 : x.dep + 1 ≤ m + 1 := hd
    refine ⟨_, rfl, a, _, 0, _, rfl, rfl, SqT.of ha, at0, ?_⟩
    refine ⟨_, rfl, rfl, _, rfl, iteF ⟨_, rfl, rfl, _, rfl, iteF ⟨_, rfl, rfl, _, rfl, iteF ⟨_, rfl, rfl, _, rfl, iteF ⟨_, rfl, rfl, _, rfl, iteT ?_⟩⟩⟩⟩⟩
    have k1 : Kind kinds x false := by cases hK; assumption
    obtain ⟨z, ez, hz⟩ := vf k1
    have q' : Q (.int (lenV (x.val (rho k t n)))) H := q
    rw [ez] at q'
    refine ⟨_, rfl, a, _, 1, _, rfl, rfl, SqT.of ha, rfl, _, rfl, _, rfl, _, pl, rw_, k, t, n, x, false, rfl, R, hk, ht, hn, hx, k1, by omega, z, by rw [ez], Nat.le_trans hz (by decide), q'⟩
end
end Kx

namespace Kx
open PySem PySem.Spec PyProof.Rows L2
abbrev sLWrap : Stmt := topS 17
abbrev sLWorth : Stmt := topS 18
theorem inV_str (z : Str) : ∀ l : List Str, inV (.str z) (l.map V.str) = decide (z ∈ l)
  | [] => rfl
  | x :: r => by
    have ih := inV_str z r
    show (x == z || inV (.str z) (r.map V.str)) = _
    rw [ih]
    by_cases h : x = z
    · subst h
      simp
    · have h' : ¬ z = x := fun e => h e.symm
      simp [h, h']
/-- what the law says of an op of two ints -/
def lawTwo (op : Str) (i j : Int) : Int :=
  if op ∈ (["and", "or"] : List Str) then b2 (decide ((([i, j] : List Int).filter fun x => !decide (V.int x = .int 0)).length = 2) || (decide (V.str op = .str "or") && !decide ((([i, j] : List Int).filter fun x => !decide (V.int x = .int 0)) = [])))
  else if op ∈ cmps then b2 (isSo op (.int i) (.int j))
  else if op ∈ (["/", "mod"] : List Str) then (if V.int j = .int 0 then 0 else if V.str op = .str "/" then wrap (i.fdiv j) else i.fmod j)
  else wrap (if V.str op = .str "+" then i + j else if V.str op = .str "-" then i - j else i * j)
theorem fmod_in {i j : Int} (h : In64 j) (h0 : j ≠ 0) : wrap (i.fmod j) = i.fmod j := by
  apply wrap_id
  unfold In64 at h
  rcases Int.lt_or_gt_of_ne h0 with hn | hp
  · rw [Int.fmod_eq_emod]
    have h1 := Int.emod_nonneg i h0
    have h2 := Int.emod_lt_of_neg i hn
    split
    · rename_i hd
      rcases hd with hd | hd
      · omega
      · rw [Int.emod_eq_zero_of_dvd hd]
        omega
    · omega
  · have h1 := Int.fmod_nonneg_of_pos i hp
    have h2 := Int.fmod_lt_of_pos i hp
    omega
theorem law_two {op : Str} {i j : Int} (h : op ∈ sums ∨ op ∈ cmps ∨ op = "and" ∨ op = "or") (hj : In64 j) : lawTwo op i j = two op (.int i) (.int j) := by
  have e0 : ∀ x : Int, decide (V.int x = .int 0) = decide (x = 0) := fun x => by
    by_cases h : x = 0
    · subst h
      rfl
    · rw [decide_eq_false h, decide_eq_false (fun e => h (by cases e; rfl))]
  have hs : op = "+" ∨ op = "-" ∨ op = "*" ∨ op = "/" ∨ op = "mod" ∨ op ∈ cmps ∨ op = "and" ∨ op = "or" := by
    rcases h with h | h
    · have h' : op ∈ (["+", "-", "*", "/", "mod"] : List Str) := h
      simp only [List.mem_cons, List.not_mem_nil, or_false] at h'
      rcases h' with h | h | h | h | h
      · exact .inl h
      · exact .inr (.inl h)
      · exact .inr (.inr (.inl h))
      · exact .inr (.inr (.inr (.inl h)))
      · exact .inr (.inr (.inr (.inr (.inl h))))
    · exact .inr (.inr (.inr (.inr (.inr h))))
  rcases hs with rfl | rfl | rfl | rfl | rfl | hc | rfl | rfl
  · rfl
  · rfl
  · rfl
  · show (if V.int j = .int 0 then 0 else wrap (i.fdiv j)) = wrap (if V.int j = .int 0 then 0 else i.fdiv j)
    split <;> rfl
  · show (if V.int j = .int 0 then 0 else i.fmod j) = wrap (if V.int j = .int 0 then 0 else i.fmod j)
    split
    · rfl
    · rename_i hz
      exact (fmod_in hj (fun e => hz (by rw [e]))).symm
  · have n1 : op ∉ (["and", "or"] : List Str) := by
      intro hm
      simp only [List.mem_cons, List.not_mem_nil, or_false] at hm
      rcases hm with rfl | rfl
      · exact cmps_no.1 hc
      · exact cmps_no.2 hc
    unfold lawTwo two
    rw [if_neg n1, if_pos hc, if_neg (fun e => n1 (by rw [str_eq e]; exact List.mem_cons_self)), if_neg (fun e => n1 (by rw [str_eq e]; exact List.mem_cons_of_mem _ List.mem_cons_self)), if_pos hc]
  · show b2 _ = b2 _
    congr 1
    simp only [e0]
    have e1 : decide (V.str "and" = V.str "or") = false := rfl
    by_cases hi : i = 0 <;> by_cases hj : j = 0 <;> simp only [e1, List.filter, hi, hj, decide_true, decide_false, Bool.not_true, Bool.not_false] <;> rfl
  · show b2 _ = b2 _
    congr 1
    simp only [e0]
    have e1 : decide (V.str "or" = V.str "or") = true := rfl
    by_cases hi : i = 0 <;> by_cases hj : j = 0 <;> simp only [e1, List.filter, hi, hj, decide_true, decide_false, Bool.not_true, Bool.not_false] <;> rfl
theorem in_strs {z : Str} {l : List Str} {A B : Prop} (h1 : z ∈ l → A) (h2 : z ∉ l → B) : if (if false = true then !inV (.str z) (l.map V.str) else inV (.str z) (l.map V.str)) = true then A else B := by
  rw [if_neg Bool.false_ne_true, inV_str]
  by_cases h : z ∈ l
  · rw [decide_eq_true h]
    exact iteT (h1 h)
  · rw [decide_eq_false h]
    exact iteF (h2 h)
theorem lt_read {x y : V} {H : Hp} {Q : VK} (ha : Alike x y) (q : Q (.bl (ltV x y)) H) : rI0 (fun i j => V.bl (decide (i < j))) x y H Q ∨ ∃ i j, x = V.str i ∧ y = V.str j ∧ Q (.bl (decide (i.cps.toList < j.cps.toList))) H := by
  rcases ha with ⟨i, j, rfl, rfl⟩ | ⟨a, b, rfl, rfl⟩
  · exact .inl ⟨_, _, rfl, rfl, q⟩
  · exact .inr ⟨_, _, rfl, rfl, q⟩
def kv6 (less same : Bool) : List (Key × V) := [(.inr "=", .bl same), (.inr "!=", .bl (!same)), (.inr "<", .bl less), (.inr "<=", .bl (less || same)), (.inr ">", .bl (!less && !same)), (.inr ">=", .bl (!less))]
def tab (op : Str) (less same : Bool) : Bool :=
  if op = "=" then same else if op = "!=" then !same else if op = "<" then less else if op = "<=" then less || same else if op = ">" then !less && !same else !less
theorem tab_val : ∀ less same : Bool, ∀ op ∈ cmps, valV (mergeK [] (kv6 less same)) (.inr op : Key) = some (.bl (tab op less same)) := by decide +kernel
theorem tab_two {op : Str} {x y : V} (ho : op ∈ cmps) (h : (∃ i j : Int, x = .int i ∧ y = .int j) ∨ (op ∈ cmpsT ∧ ∃ a b : Str, x = .str a ∧ y = .str b)) : two op x y = b2 (tab op (ltV x y) (decide (x = y))) := by
  have ho' : op ∈ (["=", "!=", "<", "<=", ">", ">="] : List Str) := ho
  simp only [List.mem_cons, List.not_mem_nil, or_false] at ho'
  have e : ∀ i j : Int, decide (V.int i = V.int j) = decide (i = j) := fun i j => by
    by_cases h : i = j
    · subst h
      simp
    · rw [decide_eq_false h, decide_eq_false (fun e => h (by cases e; rfl))]
  rcases ho' with rfl | rfl | rfl | rfl | rfl | rfl
  · rfl
  · rfl
  · rfl
  · rcases h with ⟨i, j, rfl, rfl⟩ | ⟨hT, _⟩
    · show b2 (decide (i ≤ j)) = b2 (decide (i < j) || decide (V.int i = V.int j))
      rw [e]
      congr 1
      by_cases h1 : i < j
      · have : i ≤ j := by omega
        simp [h1, this]
      · by_cases h2 : i = j
        · subst h2
          simp
        · have : ¬ i ≤ j := by omega
          simp [h1, h2, this]
    · exact absurd hT (by decide +kernel)
  · rcases h with ⟨i, j, rfl, rfl⟩ | ⟨hT, _⟩
    · show b2 (decide (j < i)) = b2 (!decide (i < j) && !decide (V.int i = V.int j))
      rw [e]
      congr 1
      by_cases h1 : i < j
      · have : ¬ j < i := by omega
        simp [h1, this]
      · by_cases h2 : i = j
        · subst h2
          simp
        · have : j < i := by omega
          simp [h1, h2, this]
    · exact absurd hT (by decide +kernel)
  · rcases h with ⟨i, j, rfl, rfl⟩ | ⟨_, a, b, rfl, rfl⟩
    · show b2 (decide (j ≤ i)) = b2 (!decide (i < j))
      congr 1
      by_cases h1 : i < j
      · have : ¬ j ≤ i := by omega
        simp [h1, this]
      · have : j ≤ i := by omega
        simp [h1, this]
    · rfl
section
variable {P : Program} {w : World} {K : PySem.W.Frag} {mg : Str → Option Value} {base : Heap}
/-! ### _law_wrapped -/
theorem sc_lwrap : FnScope ["number"] ["number"] (defScope sLWrap) := ⟨rfl, rfl, rfl, by decide +kernel, rfl, by decide +kernel, by decide +kernel⟩
theorem ok_lwrap {f : Addr} {fd : FuncData} (F : Fun K "_law_wrapped" "_law_wrapped" sLWrap f fd) : FnOk P w K mg base CX0 1 f fd ["number"] spWrap := by
  refine F.ok sc_lwrap (fun vs H Q E h => ?_) (fun cdv A outer s H vs Q E hr h => ?_)
  · obtain ⟨n, rfl, _⟩ := h
    rfl
  obtain ⟨n, rfl, q⟩ := h
  refine ⟨_, pss_one (ps_ret (pe_op op_sub (pe_op op_mod (pe_op op_add (pv 0) (pe_op op_pow pe_int pe_int)) (pe_op op_pow pe_int pe_int)) (pe_op op_pow pe_int pe_int))), ?_⟩
  refine ⟨_, rfl, _, _, rfl, rfl, (by show _ ∧ _ ∧ _; decide), _, _, rfl, rfl, _, _, rfl, rfl, (by show _ ∧ _ ∧ _; decide), _, _, rfl, rfl, (by show (0 : Int) < 2 ^ 64; decide), _, _, rfl, rfl, (by show _ ∧ _ ∧ _; decide), _, _, rfl, rfl, ?_⟩
  exact q
/-! ### _law_worth -/
structure HasAt (H : Hp) (hs : Addr) (k : Int) (t : Str) (n : Int) : Prop where
  has : H hs = some (.dK [(.inr "k", .int k), (.inr "t", .str t), (.inr "n", .int n)])
def spLWorth (m : Nat) : Sp := fun vs H Q _ => ∃ (v : V) (hs : Addr) (k : Int) (t : Str) (n : Int) (e : Ex) (b : Bool), vs = [v, .ref hs] ∧ HasAt H hs k t n ∧ In64 k ∧ t.length ≤ 100 ∧ In64 n ∧ ExAt H v e ∧ Kind kinds e b ∧ e.dep ≤ m ∧ ∀ H', Same H H' → Q (e.val (rho k t n)) H'
abbrev N_law_worth : List Str := ["told", "has", "word", "a", "b", "op", "many", "one", "less", "same", "truths"]
theorem sc_lworth : FnScope N_law_worth ["told", "has"] (defScope sLWorth) := ⟨rfl, rfl, rfl, by decide +kernel, rfl, by decide +kernel, by decide +kernel⟩
theorem same_ex {H H' : Hp} (h : Same H H') {v : V} {e : Ex} (q : ExAt H v e) : ExAt H' v e := q.keep fun a xs e => h _ _ e
set_option maxHeartbeats 16000000 in
theorem ok_lworth {f : Addr} {fd : FuncData} {m : Nat} (F : Fun K "_law_worth" "_law_worth" sLWorth f fd) (m_len : mg "len" = none) (G_law_wrapped : Ready P w K mg base 1 "_law_wrapped" ["number"] spWrap)
    (G_law_worth : Ready P w K mg base (m + 2) "_law_worth" ["told", "has"] (spLWorth m)) : FnOk P w K mg base CX0 (m + 3) f fd ["told", "has"] (spLWorth (m + 1)) := by
  refine F.ok sc_lworth (fun vs H Q E h => ?_) (fun cdv A outer s H vs Q E hr h => ?_)
  · obtain ⟨v, hs, k, t, n, e, b, rfl, _⟩ := h
    rfl
  obtain ⟨v, hs, k, t, n, e, b, rfl, R, hk, ht, hn, hv, hK, hd, q⟩ := h
  have nd := sc_lworth.nd
  have hu := hu_of hr
  have hu64 : _ + 64 < cLine := hr.units
  have hr1 : Room 1 _ := hr.mono (by omega)
  refine ⟨_, pss_cons (ps_set (i := 2) nd rfl (.inl rfl) (pe_ix ix_tup (pv 0) pe_int (fun _ _ => rfl)))
      (pss_cons (ps_if (pt_cmpR op_in_seq (pv 2) (pe_tup (pa_cons pe_str (pa_cons pe_str pa_nil))) rfl) (pss_one (ps_ret (pe_ix ix_tup (pv 0) pe_int (fun _ _ => rfl)))) (pss_nil))
      (pss_cons (ps_if (pt_cmpR op_eq (pv 2) pe_str (nomark _)) (pss_one (ps_ret (pe_dget hu (pv 1) (pe_ix ix_tup (pv 0) pe_int (fun _ _ => rfl)) (fun _ _ => rfl)))) (pss_nil))
      (pss_cons (ps_if (pt_cmpR op_eq (pv 2) pe_str (nomark _)) (pss_one (ps_ret (pe_callB call_len_str (by rfl) m_len PySem.boot_len (pa_cons (pe_fn (G_law_worth) hr (pa_cons (pe_ix ix_tup (pv 0) pe_int (fun _ _ => rfl)) (pa_cons (pv 1) pa_nil))) pa_nil)))) (pss_nil))
      (pss_cons (ps_if (pt_cmpR op_eq (pv 2) pe_str (nomark _)) (pss_one (ps_ret (pe_ifExp (pt_cmpR op_eq (pe_fn (G_law_worth) hr (pa_cons (pe_ix ix_tup (pv 0) pe_int (fun _ _ => rfl)) (pa_cons (pv 1) pa_nil))) pe_int (nomark _)) pe_int pe_int))) (pss_nil))
      (pss_cons (ps_if (pt_cmpR op_eq (pv 2) pe_str (nomark _)) (pss_one (ps_ret (pe_fn (G_law_wrapped) hr1 (pa_cons (pe_un un_neg (pe_fn (G_law_worth) hr (pa_cons (pe_ix ix_tup (pv 0) pe_int (fun _ _ => rfl)) (pa_cons (pv 1) pa_nil)))) pa_nil)))) (pss_nil))
      (pss_cons (ps_par3 (i := 3) (j := 4) (l := 5) rfl nd rfl rfl rfl (by decide) (by decide) (by decide) rfl rfl rfl (pa_cons (pe_fn (G_law_worth) hr (pa_cons (pe_ix ix_tup (pv 0) pe_int (fun _ _ => rfl)) (pa_cons (pv 1) pa_nil))) (pa_cons (pe_fn (G_law_worth) hr (pa_cons (pe_ix ix_tup (pv 0) pe_int (fun _ _ => rfl)) (pa_cons (pv 1) pa_nil))) (pa_cons (pe_ix ix_tup (pv 0) pe_int (fun _ _ => rfl)) pa_nil))) rfl)
      (pss_cons (ps_if (pt_cmpR op_in_seq (pv 5) (pe_tup (pa_cons pe_str (pa_cons pe_str pa_nil))) rfl) (pss_cons (ps_setLc (i := 6) (own := [("one", 7)]) (g := gName 7) (tt := _) rfl nd rfl rfl (sw_true rfl rfl rfl (by decide +kernel)) (pi_tup (pe_tup (pa_cons (pv 3) (pa_cons (pv 4) pa_nil)))) (blkOk_by (N := N_law_worth) (sc := defScope sLWorth) (by decide +kernel)) (fun _ _ _ _ _ => pg_name (i := 7) nd rfl (Or.inl rfl)) (fun _ _ _ _ _ => pts_one (pt_cmpR op_ne (pv 7) pe_int (nomark _))) (fun _ _ _ _ _ => (pv 7)))
      (pss_one (ps_ret (pe_ifExp (PW.pt (pw_or (pt_cmpR op_eq (pe_callB call_len_seq (by rfl) m_len PySem.boot_len (pa_cons (pv 6) pa_nil)) pe_int (nomark _)) (pw_or1 (PW.pt (pw_and (pt_cmpR op_eq (pv 5) pe_str (nomark _)) (pw_and1 (pt_cmpR (op_neD hu64) (pv 6) (pe_lst pa_nil) (nomark _)))))))) pe_int pe_int)))) (pss_nil))
      (pss_cons (ps_if (pt_cmpR op_in_seq (pv 5) (pe_tup (pa_cons pe_str (pa_cons pe_str (pa_cons pe_str (pa_cons pe_str (pa_cons pe_str (pa_cons pe_str pa_nil))))))) rfl) (pss_cons (ps_par (i := 8) (j := 9) rfl nd rfl rfl (by decide) rfl rfl (pa_cons (pe_cmpR (op_lt.or op_lt_str) (pv 3) (pv 4) (nomark _)) (pa_cons (pe_cmpR op_eq (pv 3) (pv 4) (nomark _)) pa_nil)) rfl)
      (pss_cons (ps_set (i := 10) nd rfl (.inl rfl) (pe_disp (pps_cons pe_str (pv 9) (pps_cons pe_str (pe_not (pv 9)) (pps_cons pe_str (pv 8) (pps_cons pe_str (pe_or (pv 8) (pe_one (pv 9))) (pps_cons pe_str (pe_and (pe_not (pv 8)) (pe_one (pe_not (pv 9)))) (pps_cons pe_str (pe_not (pv 8)) pps_nil)))))) rfl rfl (by intro z; cases z) (by decide)))
      (pss_one (ps_ret (pe_ifExp (pt_val (pe_dget hu (pv 10) (pv 5) (fun _ _ => rfl))) pe_int pe_int))))) (pss_nil))
      (pss_cons (ps_if (pt_cmpR op_in_seq (pv 5) (pe_tup (pa_cons pe_str (pa_cons pe_str pa_nil))) rfl) (pss_cons (ps_if (pt_cmpR op_eq (pv 4) pe_int (nomark _)) (pss_one (ps_ret pe_int)) (pss_nil))
      (pss_one (ps_ret (pe_ifExp (pt_cmpR op_eq (pv 5) pe_str (nomark _)) (pe_fn (G_law_wrapped) hr1 (pa_cons (pe_op op_fdivA (pv 3) (pv 4)) pa_nil)) (pe_op op_modN (pv 3) (pv 4)))))) (pss_nil))
      (pss_one (ps_ret (pe_fn (G_law_wrapped) hr1 (pa_cons (pe_ifExp (pt_cmpR op_eq (pv 5) pe_str (nomark _)) (pe_op op_add (pv 3) (pv 4)) (pe_ifExp (pt_cmpR op_eq (pv 5) pe_str (nomark _)) (pe_op op_sub (pv 3) (pv 4)) (pe_op op_mul (pv 3) (pv 4)))) pa_nil))))))))))))), ?_⟩
  have vf : ∀ {e b}, Kind kinds e b → Fits b (e.val (rho k t n)) := fun h => val_fits (rho_fits hk ht hn) h
  have l2 : 2 ≤ sizeLine := by decide
  cases e with
  | num i =>
    obtain ⟨a, rfl, ha⟩ := hv
    refine ⟨_, rfl, a, _, 0, _, rfl, rfl, SqT.of ha, at0, ?_⟩
    refine ⟨_, rfl, l2, fun p hp => ?_⟩
    have s1 := same_upd (o := .tup [.str "number", .str "quoted"]) hp
    refine ⟨p, _, rfl, .inr (SqT.of upd_same), rfl, rfl, _, rfl, in_strs (l := ["number", "quoted"]) (fun _ => ?_) (fun h => absurd (by decide +kernel) h)⟩
    exact ⟨_, rfl, a, _, 1, _, rfl, rfl, SqT.of (s1 _ _ ha), rfl, q _ s1⟩
  | quo z =>
    obtain ⟨a, rfl, ha⟩ := hv
    refine ⟨_, rfl, a, _, 0, _, rfl, rfl, SqT.of ha, at0, ?_⟩
    refine ⟨_, rfl, l2, fun p hp => ?_⟩
    have s1 := same_upd (o := .tup [.str "number", .str "quoted"]) hp
    refine ⟨p, _, rfl, .inr (SqT.of upd_same), rfl, rfl, _, rfl, in_strs (l := ["number", "quoted"]) (fun _ => ?_) (fun h => absurd (by decide +kernel) h)⟩
    exact ⟨_, rfl, a, _, 1, _, rfl, rfl, SqT.of (s1 _ _ ha), rfl, q _ s1⟩
  | col x =>
    obtain ⟨a, rfl, ha⟩ := hv
    refine ⟨_, rfl, a, _, 0, _, rfl, rfl, SqT.of ha, at0, ?_⟩
    refine ⟨_, rfl, l2, fun p hp => ?_⟩
    have s1 := same_upd (o := .tup [.str "number", .str "quoted"]) hp
    refine ⟨p, _, rfl, .inr (SqT.of upd_same), rfl, rfl, _, rfl, in_strs (l := ["number", "quoted"]) (fun h => absurd h (by decide +kernel)) (fun _ => ?_)⟩
    refine ⟨_, rfl, rfl, _, rfl, iteT ?_⟩
    have hx : kinds x = some b := by cases hK; assumption
    rcases kinds_in hx with rfl | rfl | rfl
    · exact ⟨_, rfl, _, rfl, a, _, 1, _, rfl, rfl, SqT.of (s1 _ _ ha), rfl, hs, _, rfl, DGet.k (k := Sum.inr "k") (s1 _ _ R.has), q _ s1⟩
    · exact ⟨_, rfl, _, rfl, a, _, 1, _, rfl, rfl, SqT.of (s1 _ _ ha), rfl, hs, _, rfl, DGet.k (k := Sum.inr "t") (s1 _ _ R.has), q _ s1⟩
    · exact ⟨_, rfl, _, rfl, a, _, 1, _, rfl, rfl, SqT.of (s1 _ _ ha), rfl, hs, _, rfl, DGet.k (k := Sum.inr "n") (s1 _ _ R.has), q _ s1⟩
  | ln x =>
    obtain ⟨a, vx, rfl, ha, hx⟩ := hv
    have hd2 : x.dep + 1 ≤ m + 1 := hd
    refine ⟨_, rfl, a, _, 0, _, rfl, rfl, SqT.of ha, at0, ?_⟩
    refine ⟨_, rfl, l2, fun p hp => ?_⟩
    have s1 := same_upd (o := .tup [.str "number", .str "quoted"]) hp
    refine ⟨p, _, rfl, .inr (SqT.of upd_same), rfl, rfl, _, rfl, in_strs (l := ["number", "quoted"]) (fun h => absurd h (by decide +kernel)) (fun _ => ?_)⟩
    refine ⟨_, rfl, rfl, _, rfl, iteF ⟨_, rfl, rfl, _, rfl, iteT ?_⟩⟩
    have k1 : Kind kinds x false := by cases hK; assumption
    obtain ⟨z, ez, hz⟩ := vf k1
    have q' : ∀ H', Same H H' → Q (.int (lenV (x.val (rho k t n)))) H' := q
    rw [ez] at q'
    exact ⟨_, rfl, a, _, 1, _, rfl, rfl, SqT.of (s1 _ _ ha), rfl, _, rfl, vx, hs, k, t, n, x, false, rfl, ⟨s1 _ _ R.has⟩, hk, ht, hn, same_ex s1 hx, k1, by omega, fun H2 s2 => ⟨z, by rw [ez], Nat.le_trans hz (by decide), q' _ (s1.trans s2)⟩⟩
  | nt x =>
    obtain ⟨a, vx, rfl, ha, hx⟩ := hv
    have hd2 : x.dep + 1 ≤ m + 1 := hd
    refine ⟨_, rfl, a, _, 0, _, rfl, rfl, SqT.of ha, at0, ?_⟩
    refine ⟨_, rfl, l2, fun p hp => ?_⟩
    have s1 := same_upd (o := .tup [.str "number", .str "quoted"]) hp
    refine ⟨p, _, rfl, .inr (SqT.of upd_same), rfl, rfl, _, rfl, in_strs (l := ["number", "quoted"]) (fun h => absurd h (by decide +kernel)) (fun _ => ?_)⟩
    refine ⟨_, rfl, rfl, _, rfl, iteF ⟨_, rfl, rfl, _, rfl, iteF ⟨_, rfl, rfl, _, rfl, iteT ?_⟩⟩⟩
    have k1 : Kind kinds x true := by cases hK; assumption
    obtain ⟨i, ei, _⟩ := vf k1
    have q' : ∀ H', Same H H' → Q (.int (b2 (decide (x.val (rho k t n) = .int 0)))) H' := q
    rw [ei] at q'
    refine ⟨_, rfl, a, _, 1, _, rfl, rfl, SqT.of (s1 _ _ ha), rfl, _, rfl, vx, hs, k, t, n, x, true, rfl, ⟨s1 _ _ R.has⟩, hk, ht, hn, same_ex s1 hx, k1, by omega, fun H2 s2 => ?_⟩
    rw [ei]
    refine ⟨rfl, _, rfl, ite2 (fun c => ?_) (fun c => ?_)⟩
    · rw [show decide (V.int i = V.int 0) = true from c] at q'
      exact q' _ (s1.trans s2)
    · rw [show decide (V.int i = V.int 0) = false from Bool.eq_false_iff.mpr c] at q'
      exact q' _ (s1.trans s2)
  | mn x =>
    obtain ⟨a, vx, rfl, ha, hx⟩ := hv
    have hd2 : x.dep + 1 ≤ m + 1 := hd
    refine ⟨_, rfl, a, _, 0, _, rfl, rfl, SqT.of ha, at0, ?_⟩
    refine ⟨_, rfl, l2, fun p hp => ?_⟩
    have s1 := same_upd (o := .tup [.str "number", .str "quoted"]) hp
    refine ⟨p, _, rfl, .inr (SqT.of upd_same), rfl, rfl, _, rfl, in_strs (l := ["number", "quoted"]) (fun h => absurd h (by decide +kernel)) (fun _ => ?_)⟩
    refine ⟨_, rfl, rfl, _, rfl, iteF ⟨_, rfl, rfl, _, rfl, iteF ⟨_, rfl, rfl, _, rfl, iteF ⟨_, rfl, rfl, _, rfl, iteT ?_⟩⟩⟩⟩
    have k1 : Kind kinds x true := by cases hK; assumption
    obtain ⟨i, ei, _⟩ := vf k1
    have q' : ∀ H', Same H H' → Q (.int (wrap (-(toI (x.val (rho k t n)))))) H' := q
    rw [ei] at q'
    exact ⟨_, rfl, a, _, 1, _, rfl, rfl, SqT.of (s1 _ _ ha), rfl, _, rfl, vx, hs, k, t, n, x, true, rfl, ⟨s1 _ _ R.has⟩, hk, ht, hn, same_ex s1 hx, k1, by omega, fun H2 s2 => ⟨i, ei, _, rfl, q' _ (s1.trans s2)⟩⟩
  | two op x y =>
    obtain ⟨a, vx, vy, rfl, ha, hx, hy⟩ := hv
    have hd2 : max x.dep y.dep + 1 ≤ m + 1 := hd
    refine ⟨_, rfl, a, _, 0, _, rfl, rfl, SqT.of ha, at0, ?_⟩
    refine ⟨_, rfl, l2, fun p hp => ?_⟩
    have s1 := same_upd (o := .tup [.str "number", .str "quoted"]) hp
    refine ⟨p, _, rfl, .inr (SqT.of upd_same), rfl, rfl, _, rfl, in_strs (l := ["number", "quoted"]) (fun h => absurd h (by decide +kernel)) (fun _ => ?_)⟩
    refine ⟨_, rfl, rfl, _, rfl, iteF ⟨_, rfl, rfl, _, rfl, iteF ⟨_, rfl, rfl, _, rfl, iteF ⟨_, rfl, rfl, _, rfl, iteF ?_⟩⟩⟩⟩
    have hk2 : ∃ b1, Kind kinds x b1 ∧ Kind kinds y b1 ∧ (((op ∈ sums ∨ op ∈ cmps ∨ op = "and" ∨ op = "or") ∧ b1 = true) ∨ (op ∈ cmpsT ∧ b1 = false)) := by
      cases hK with
      | arith h h1 h2 => exact ⟨true, h1, h2, .inl ⟨h, rfl⟩⟩
      | text h h1 h2 => exact ⟨false, h1, h2, .inr ⟨h, rfl⟩⟩
    obtain ⟨b1, k1, k2, hop⟩ := hk2
    refine ⟨_, rfl, a, _, 2, _, rfl, rfl, SqT.of (s1 _ _ ha), rfl, _, rfl, vx, hs, k, t, n, x, b1, rfl, ⟨s1 _ _ R.has⟩, hk, ht, hn, same_ex s1 hx, k1, by omega, fun H2 s2 => ?_⟩
    have s12 := s1.trans s2
    refine ⟨_, rfl, a, _, 3, _, rfl, rfl, SqT.of (s12 _ _ ha), rfl, _, rfl, vy, hs, k, t, n, y, b1, rfl, ⟨s12 _ _ R.has⟩, hk, ht, hn, same_ex s12 hy, k2, by omega, fun H3 s3 => ?_⟩
    have s13 := s12.trans s3
    refine ⟨_, rfl, a, _, 1, _, rfl, rfl, SqT.of (s13 _ _ ha), rfl, _, _, _, rfl, ?_⟩
    have q1 : ∀ H', Same H H' → Q (.int (two op (x.val (rho k t n)) (y.val (rho k t n)))) H' := q
    have f1 := vf k1
    have f2 := vf k2
    generalize x.val (rho k t n) = X at f1 q1 ⊢
    generalize y.val (rho k t n) = Y at f2 q1 ⊢
    clear q
    -- op in ("and", "or")
    refine ⟨_, rfl, l2, fun p2 hp2 => ?_⟩
    have s14 := s13.trans (same_upd (o := .tup [.str "and", .str "or"]) hp2)
    refine ⟨p2, _, rfl, .inr (SqT.of upd_same), rfl, rfl, _, rfl, in_strs (l := ["and", "or"]) (fun ho => ?_) (fun ho => ?_)⟩
    · have hop2 : (op ∈ sums ∨ op ∈ cmps ∨ op = "and" ∨ op = "or") ∧ b1 = true := by
        rcases hop with h | ⟨h, _⟩
        · exact h
        · have h2 := cmpsT_sub _ h
          simp only [List.mem_cons, List.not_mem_nil, or_false] at ho
          rcases ho with rfl | rfl
          · exact absurd h2 cmps_no.1
          · exact absurd h2 cmps_no.2
      obtain ⟨hop2, rfl⟩ := hop2
      obtain ⟨i, rfl, i0⟩ := f1
      obtain ⟨j, rfl, j0⟩ := f2
      have q2 : ∀ H', Same H H' → Q (.int (b2 (decide ((([i, j] : List Int).filter fun x => !decide (V.int x = .int 0)).length = 2) || (decide (V.str op = .str "or") && !decide ((([i, j] : List Int).filter fun x => !decide (V.int x = .int 0)) = []))))) H' := fun H' s' => by
        have z := q1 H' s'
        rw [← law_two hop2 j0, lawTwo, if_pos ho] at z
        exact z
      refine ⟨_, rfl, _, rfl, l2, fun p3 hp3 => ?_⟩
      have s15 := s14.trans (same_upd (o := .tup [.int i, .int j]) hp3)
      refine ⟨p3, rfl, ⟨_, SqT.of upd_same⟩, fun D hD => lc_tup (xs := [.int i, .int j]) (fun ix H' => Same (upd (upd H3 p2 (.tup [.str "and", .str "or"])) p3 (.tup [.int i, .int j])) H' ∧ H' D = some (.lst (((([i, j] : List Int).take ix).filter fun x => !decide (V.int x = .int 0)).map V.int)))
        ⟨same_upd hD, upd_same⟩ (fun ix H' _ h => SqT.of (h.1 _ _ upd_same)) ?_ ?_⟩
      · rintro ix z H' hz ⟨sm, e⟩
        have hlt : ∀ {acc : List Int}, acc.length ≤ 2 → (acc.map V.int).length < sizeLine := fun h => by rw [List.length_map]; exact Nat.lt_of_le_of_lt h (by decide)
        have nD : ∀ {o}, Same (upd (upd H3 p2 (.tup [.str "and", .str "or"])) p3 (.tup [.int i, .int j])) (upd H' D o) := fun b o' e' => by
          rw [upd_ne (ne_of_none e' hD)]
          exact sm _ _ e'
        cases ix with
        | zero =>
          cases hz
          refine ⟨rfl, _, rfl, rfl, _, rfl, ite2 (fun c => ?_) (fun c => ?_)⟩
          · refine ⟨_, rfl, _, e, hlt (Nat.zero_le 2), nD, ?_⟩
            rw [upd_same]
            show _ = some (HO.lst ((([i] : List Int).filter fun x => !decide (V.int x = .int 0)).map V.int))
            rw [List.filter_cons_of_pos (p := fun x => !decide (V.int x = .int 0)) c]
            rfl
          · refine ⟨sm, ?_⟩
            rw [e]
            show _ = some (HO.lst ((([i] : List Int).filter fun x => !decide (V.int x = .int 0)).map V.int))
            rw [List.filter_cons_of_neg (p := fun x => !decide (V.int x = .int 0)) c]
            rfl
        | succ ix =>
          cases ix with
          | zero =>
            cases hz
            refine ⟨rfl, _, rfl, rfl, _, rfl, ite2 (fun c => ?_) (fun c => ?_)⟩
            · refine ⟨_, rfl, _, e, hlt (Nat.le_trans (List.length_filter_le _ _) (by show 1 ≤ 2; decide)), nD, ?_⟩
              rw [upd_same]
              show _ = some (HO.lst ((([i] ++ [j] : List Int).filter fun x => !decide (V.int x = .int 0)).map V.int))
              rw [List.filter_append, List.map_append, List.filter_cons_of_pos (a := j) (p := fun x => !decide (V.int x = .int 0)) c]
              rfl
            · refine ⟨sm, ?_⟩
              rw [e]
              show _ = some (HO.lst ((([i] ++ [j] : List Int).filter fun x => !decide (V.int x = .int 0)).map V.int))
              rw [List.filter_append, List.map_append, List.filter_cons_of_neg (a := j) (p := fun x => !decide (V.int x = .int 0)) c]
              show _ = some (HO.lst (_ ++ []))
              rw [List.append_nil]
              rfl
          | succ ix => cases hz
      · rintro H' ⟨sm, e⟩
        have s16 := s15.trans sm
        have e' : H' D = some (.lst ((([i, j] : List Int).filter fun x => !decide (V.int x = .int 0)).map V.int)) := e
        have hL : ∀ L : List Int, (([i, j] : List Int).filter fun x => !decide (V.int x = .int 0)) = L → (L = [] ∨ (∃ u, L = [u]) ∨ ∃ u v, L = [u, v]) := fun L hL => by
          by_cases c1 : (!decide (V.int i = .int 0)) = true <;> by_cases c2 : (!decide (V.int j = .int 0)) = true
          · rw [List.filter_cons_of_pos (p := fun x => !decide (V.int x = .int 0)) c1, List.filter_cons_of_pos (p := fun x => !decide (V.int x = .int 0)) c2] at hL
            exact .inr (.inr ⟨i, j, hL.symm⟩)
          · rw [List.filter_cons_of_pos (p := fun x => !decide (V.int x = .int 0)) c1, List.filter_cons_of_neg (p := fun x => !decide (V.int x = .int 0)) c2] at hL
            exact .inr (.inl ⟨i, hL.symm⟩)
          · rw [List.filter_cons_of_neg (p := fun x => !decide (V.int x = .int 0)) c1, List.filter_cons_of_pos (p := fun x => !decide (V.int x = .int 0)) c2] at hL
            exact .inr (.inl ⟨j, hL.symm⟩)
          · rw [List.filter_cons_of_neg (p := fun x => !decide (V.int x = .int 0)) c1, List.filter_cons_of_neg (p := fun x => !decide (V.int x = .int 0)) c2] at hL
            exact .inl hL.symm
        generalize hLe : (([i, j] : List Int).filter fun x => !decide (V.int x = .int 0)) = L at e' q2
        rcases hL L hLe with rfl | ⟨u, rfl⟩ | ⟨u, v, rfl⟩
        · refine ⟨_, rfl, D, _, rfl, .inl (SqL.of e'), rfl, _, rfl, iteF ?_⟩
          refine ⟨_, rfl, rfl, _, rfl, ite2 (fun c => ?_) (fun c => ?_)⟩
          · refine ⟨_, rfl, Nat.zero_le _, fun p4 hp4 => ?_⟩
            have s4 := same_upd (o := .lst []) hp4
            refine ⟨.list [], .list [], .lst (SqL.of (s4 _ _ e')) .nil, .lst (SqL.of upd_same) .nil, rfl, rfl, _, rfl, iteF ?_⟩
            have z := q2 _ (s16.trans s4)
            rw [show decide (V.str op = V.str "or") = true from c] at z
            exact z
          · have z := q2 _ s16
            rw [show decide (V.str op = V.str "or") = false from Bool.eq_false_iff.mpr c] at z
            exact iteF z
        · refine ⟨_, rfl, D, _, rfl, .inl (SqL.of e'), rfl, _, rfl, iteF ?_⟩
          refine ⟨_, rfl, rfl, _, rfl, ite2 (fun c => ?_) (fun c => ?_)⟩
          · refine ⟨_, rfl, Nat.zero_le _, fun p4 hp4 => ?_⟩
            have s4 := same_upd (o := .lst []) hp4
            refine ⟨.list [.int u], .list [], .lst (SqL.of (s4 _ _ e')) (.cons (.int u) .nil), .lst (SqL.of upd_same) .nil, rfl, rfl, _, rfl, iteT ?_⟩
            have z := q2 _ (s16.trans s4)
            rw [show decide (V.str op = V.str "or") = true from c] at z
            exact z
          · have z := q2 _ s16
            rw [show decide (V.str op = V.str "or") = false from Bool.eq_false_iff.mpr c] at z
            exact iteF z
        · refine ⟨_, rfl, D, _, rfl, .inl (SqL.of e'), rfl, _, rfl, iteT ?_⟩
          exact iteT (q2 _ s16)
    -- op in the comparisons
    refine ⟨_, rfl, (by show 6 ≤ sizeLine; decide), fun p3 hp3 => ?_⟩
    have s15 := s14.trans (same_upd (o := .tup [.str "=", .str "!=", .str "<", .str "<=", .str ">", .str ">="]) hp3)
    refine ⟨p3, _, rfl, .inr (SqT.of upd_same), rfl, rfl, _, rfl, in_strs (l := ["=", "!=", "<", "<=", ">", ">="]) (fun hc => ?_) (fun hc => ?_)⟩
    · have hal : (∃ i j : Int, X = .int i ∧ Y = .int j) ∨ (op ∈ cmpsT ∧ ∃ a b : Str, X = .str a ∧ Y = .str b) := by
        rcases hop with ⟨_, rfl⟩ | ⟨h, rfl⟩
        · obtain ⟨i, rfl, _⟩ := f1
          obtain ⟨j, rfl, _⟩ := f2
          exact .inl ⟨_, _, rfl, rfl⟩
        · obtain ⟨i, rfl, _⟩ := f1
          obtain ⟨j, rfl, _⟩ := f2
          exact .inr ⟨h, _, _, rfl, rfl⟩
      have ha2 : Alike X Y := by
        rcases hal with h | h
        · exact .inl h
        · exact .inr h.2
      have e2 := tab_two hc hal
      refine ⟨_, rfl, _, rfl, lt_read ha2 ⟨_, rfl, _, rfl, alike_scal ha2, _, _, rfl, ?_⟩⟩
      generalize ltV X Y = less at e2 ⊢
      generalize decide (X = Y) = same at e2 ⊢
      rw [e2] at q1
      have fin : ∀ d, (upd (upd H3 p2 (.tup [.str "and", .str "or"])) p3 (.tup [.str "=", .str "!=", .str "<", .str "<=", .str ">", .str ">="])) d = none → Same H (upd (upd (upd (upd H3 p2 (.tup [.str "and", .str "or"])) p3 (.tup [.str "=", .str "!=", .str "<", .str "<=", .str ">", .str ">="])) d (.dK [])) d (.dK (mergeK [] (kv6 less same)))) := fun d hd => by
        refine s15.trans fun b o e => ?_
        rw [upd_ne (ne_of_none e hd), upd_ne (ne_of_none e hd)]
        exact e
      have gt := tab_val less same op hc
      cases less <;> cases same
      · refine fun d hd => ?_
        have s16 := fin d hd
        refine ⟨_, rfl, _, rfl, _, rfl, _, rfl, _, rfl, _, rfl, iteF ⟨_, rfl, _, rfl, _, rfl, _, rfl, iteT ⟨_, rfl, _, rfl, _, rfl, _, rfl, upd_same, kv6 _ _, rfl, by decide, ?_⟩⟩⟩
        refine ⟨_, rfl, _, rfl, d, _, rfl, (by rw [← gt]; exact DGet.k (k := Sum.inr op) upd_same), _, rfl, ite2 (fun c => ?_) (fun c => ?_)⟩
        · have z := q1 _ s16
          rw [c] at z
          exact z
        · have z := q1 _ s16
          rw [Bool.eq_false_iff.mpr c] at z
          exact z
      · refine fun d hd => ?_
        have s16 := fin d hd
        refine ⟨_, rfl, _, rfl, _, rfl, _, rfl, _, rfl, _, rfl, iteF ⟨_, rfl, _, rfl, _, rfl, _, rfl, iteT ⟨_, rfl, _, rfl, _, rfl, _, rfl, upd_same, kv6 _ _, rfl, by decide, ?_⟩⟩⟩
        refine ⟨_, rfl, _, rfl, d, _, rfl, (by rw [← gt]; exact DGet.k (k := Sum.inr op) upd_same), _, rfl, ite2 (fun c => ?_) (fun c => ?_)⟩
        · have z := q1 _ s16
          rw [c] at z
          exact z
        · have z := q1 _ s16
          rw [Bool.eq_false_iff.mpr c] at z
          exact z
      · refine fun d hd => ?_
        have s16 := fin d hd
        refine ⟨_, rfl, _, rfl, _, rfl, _, rfl, _, rfl, _, rfl, iteT ⟨_, rfl, _, rfl, _, rfl, iteF ⟨_, rfl, _, rfl, upd_same, kv6 _ _, rfl, by decide, ?_⟩⟩⟩
        refine ⟨_, rfl, _, rfl, d, _, rfl, (by rw [← gt]; exact DGet.k (k := Sum.inr op) upd_same), _, rfl, ite2 (fun c => ?_) (fun c => ?_)⟩
        · have z := q1 _ s16
          rw [c] at z
          exact z
        · have z := q1 _ s16
          rw [Bool.eq_false_iff.mpr c] at z
          exact z
      · refine fun d hd => ?_
        have s16 := fin d hd
        refine ⟨_, rfl, _, rfl, _, rfl, _, rfl, _, rfl, _, rfl, iteT ⟨_, rfl, _, rfl, _, rfl, iteF ⟨_, rfl, _, rfl, upd_same, kv6 _ _, rfl, by decide, ?_⟩⟩⟩
        refine ⟨_, rfl, _, rfl, d, _, rfl, (by rw [← gt]; exact DGet.k (k := Sum.inr op) upd_same), _, rfl, ite2 (fun c => ?_) (fun c => ?_)⟩
        · have z := q1 _ s16
          rw [c] at z
          exact z
        · have z := q1 _ s16
          rw [Bool.eq_false_iff.mpr c] at z
          exact z
    -- op in ("/", "mod")
    have hc2 : op ∉ cmps := hc
    have hop2 : (op ∈ sums ∨ op ∈ cmps ∨ op = "and" ∨ op = "or") ∧ b1 = true := by
      rcases hop with h | ⟨h, _⟩
      · exact h
      · exact absurd (cmpsT_sub _ h) hc2
    obtain ⟨hop2, rfl⟩ := hop2
    obtain ⟨i, rfl, i0⟩ := f1
    obtain ⟨j, rfl, j0⟩ := f2
    refine ⟨_, rfl, l2, fun p4 hp4 => ?_⟩
    have s16 := s15.trans (same_upd (o := .tup [.str "/", .str "mod"]) hp4)
    refine ⟨p4, _, rfl, .inr (SqT.of upd_same), rfl, rfl, _, rfl, in_strs (l := ["/", "mod"]) (fun hm => ?_) (fun hm => ?_)⟩
    · have z := q1 _ s16
      rw [← law_two hop2 j0, lawTwo, if_neg ho, if_neg hc2, if_pos hm] at z
      refine ⟨_, rfl, rfl, _, rfl, ite2 (fun c => ?_) (fun c => ?_)⟩
      · rw [if_pos (of_decide_eq_true c)] at z
        exact z
      rw [if_neg (fun e => c (decide_eq_true e))] at z
      have hj0 : j ≠ 0 := fun e => c (decide_eq_true (by rw [e]))
      refine ⟨_, rfl, rfl, _, rfl, ite2 (fun c => ?_) (fun c => ?_)⟩
      · rw [if_pos (of_decide_eq_true c)] at z
        exact ⟨_, rfl, _, rfl, _, _, rfl, rfl, ⟨hj0, log_ok j0⟩, _, rfl, z⟩
      · rw [if_neg (fun e => c (decide_eq_true e))] at z
        exact ⟨_, rfl, _, rfl, _, _, rfl, rfl, hj0, z⟩
    · have z := q1 _ s16
      rw [← law_two hop2 j0, lawTwo, if_neg ho, if_neg hc2, if_neg hm] at z
      refine ⟨_, rfl, rfl, _, rfl, ite2 (fun c => ?_) (fun c => ?_)⟩
      · rw [if_pos (of_decide_eq_true c)] at z
        exact ⟨_, rfl, _, rfl, _, _, rfl, rfl, _, rfl, z⟩
      rw [if_neg (fun e => c (decide_eq_true e))] at z
      refine ⟨_, rfl, rfl, _, rfl, ite2 (fun c => ?_) (fun c => ?_)⟩
      · rw [if_pos (of_decide_eq_true c)] at z
        exact ⟨_, rfl, _, rfl, _, _, rfl, rfl, _, rfl, z⟩
      · rw [if_neg (fun e => c (decide_eq_true e))] at z
        exact ⟨_, rfl, _, rfl, _, _, rfl, rfl, .inl (by omega), _, rfl, z⟩
end
end Kx

namespace Kx
open PySem PySem.Spec PyProof.Rows L2
abbrev sInt : Stmt := topS 16
abbrev sValue : Stmt := topS 19
section
variable {P : Program} {w : World} {K : PySem.W.Frag} {mg : Str → Option Value} {base : Heap}
/-! ### _law_value -/
def spVal : Sp := fun vs H Q _ => ∃ (d s : Addr) (ns : List Int) (n : Int), vs = [.ref d] ∧ DrawAt H d s ns n ∧ ∀ (i n' : Int) (H' : Hp), In64 i → But d H H' → DrawAt H' d s ns n' → Q (.int i) H'
theorem sc_value : FnScope ["draw", "near"] ["draw"] (defScope sValue) := ⟨rfl, rfl, rfl, by decide +kernel, rfl, by decide +kernel, by decide +kernel⟩
def nears : List Int := [0, 0, 1, 2 ^ 63 - 1, -2 ^ 63, 2 ^ 31, 2 ^ 32]
theorem ok_value {f : Addr} {fd : FuncData} (F : Fun K "_law_value" "_law_value" sValue f fd) (G_law_next : Ready P w K mg base 3 "_law_next" ["draw", "bound"] spNext) (G_law_pick : Ready P w K mg base 4 "_law_pick" ["draw", "things"] (spPick K)) :
    FnOk P w K mg base CX0 5 f fd ["draw"] spVal := by
  refine F.ok sc_value (fun vs H Q E h => ?_) (fun cdv A outer s H vs Q E hr h => ?_)
  · obtain ⟨d, s, ns, n, rfl, _⟩ := h
    rfl
  obtain ⟨d, s, ns, n, rfl, D, q⟩ := h
  have nd := sc_value.nd
  have hp : CPow 2 63 := by show _ ∧ _ ∧ _; decide
  have hp1 : CPow 2 31 := by show _ ∧ _ ∧ _; decide
  have hp2 : CPow 2 32 := by show _ ∧ _ ∧ _; decide
  have hp4 : CPow 2 64 := by show _ ∧ _ ∧ _; decide
  refine ⟨_, pss_cons (ps_set (i := 1) nd rfl (.inl rfl) (pe_fn (G_law_pick) (hr.mono (by decide)) (pa_cons (pv 0) (pa_cons (pe_lst (pa_cons pe_int (pa_cons pe_int (pa_cons pe_int (pa_cons (pe_op op_sub (pe_op op_pow pe_int pe_int) pe_int) (pa_cons (pe_un un_neg (pe_op op_pow pe_int pe_int)) (pa_cons (pe_op op_pow pe_int pe_int) (pa_cons (pe_op op_pow pe_int pe_int) pa_nil)))))))) pa_nil))))
      (pss_one (ps_ret (pe_op op_sub (pe_op op_mod (pe_op op_add (pe_op op_sub (pe_op op_add (pv 1) (pe_fn (G_law_next) (hr.mono (by decide)) (pa_cons (pv 0) (pa_cons pe_int pa_nil)))) pe_int) (pe_op op_pow pe_int pe_int)) (pe_op op_pow pe_int pe_int)) (pe_op op_pow pe_int pe_int)))), ?_⟩
  refine ⟨_, rfl, _, _, rfl, rfl, hp, _, _, rfl, rfl, _, _, rfl, rfl, hp, _, rfl, _, _, rfl, rfl, hp1, _, _, rfl, rfl, hp2, (by show 7 ≤ sizeLine; decide), fun p np => ?_⟩
  have s1 := same_upd (o := .lst (nears.map V.int)) np
  have pd : p ≠ d := (ne_of_none D.at_d np).symm
  refine ⟨d, s, p, ns, n, nears.map V.int, rfl, D.keep s1, pd, .inl (SqL.of upd_same), (by intro z; cases z), fun v H1 hv b1 D1 => ?_⟩
  obtain ⟨i, _, rfl⟩ := List.mem_map.mp hv
  refine ⟨_, rfl, _, rfl, d, s, ns, _, _, rfl, D1, (by show (0 : Int) < 9; decide), fun r H2 r0 r1 b2 D2 => ?_⟩
  refine ⟨_, _, rfl, rfl, _, _, rfl, rfl, _, _, rfl, rfl, hp, _, _, rfl, rfl, _, _, rfl, rfl, hp4, _, _, rfl, rfl, (by show (0 : Int) < 2 ^ 64; decide), _, _, rfl, rfl, hp, _, _, rfl, rfl, ?_⟩
  refine q _ _ H2 ?_ ((same_but s1).trans (b1.trans b2)) D2
  show In64 ((i + r - 4 + 2 ^ 63) % 2 ^ 64 - 2 ^ 63)
  unfold In64
  omega
/-! ### _law_int -/
structure ColsAt (H : Hp) (cols c1 c2 c3 : Addr) : Prop where
  all : H cols = some (.lst [.ref c1, .ref c2, .ref c3])
  k : H c1 = some (.tup [.str "k", .str "int"])
  t : H c2 = some (.tup [.str "t", .str "text"])
  n : H c3 = some (.tup [.str "n", .str "int"])
theorem ColsAt.keep {H H' : Hp} {cols c1 c2 c3 : Addr} (C : ColsAt H cols c1 c2 c3) (h : Same H H') : ColsAt H' cols c1 c2 c3 := ⟨h _ _ C.all, h _ _ C.k, h _ _ C.t, h _ _ C.n⟩
theorem ColsAt.ne {H : Hp} {cols c1 c2 c3 d s : Addr} {ns : List Int} {n : Int} (C : ColsAt H cols c1 c2 c3) (D : DrawAt H d s ns n) : cols ≠ d := fun e => by
  have a := C.all
  rw [e, D.at_d] at a
  cases a
theorem ColsAt.but {H H' : Hp} {cols c1 c2 c3 d s : Addr} {ns : List Int} {n : Int} (C : ColsAt H cols c1 c2 c3) (D : DrawAt H d s ns n) (h : But d H H') : ColsAt H' cols c1 c2 c3 :=
  ⟨h _ _ (C.ne D) C.all, h.tup D.at_d _ _ C.k, h.tup D.at_d _ _ C.t, h.tup D.at_d _ _ C.n⟩
def spInt (m : Nat) : Sp := fun vs H Q _ => ∃ (d s cols c1 c2 c3 : Addr) (ns : List Int) (n deep : Int), vs = [.ref d, .ref cols, .int deep] ∧ DrawAt H d s ns n ∧ ColsAt H cols c1 c2 c3 ∧ 0 ≤ deep ∧ deep + 1 = (m : Int) ∧
  ∀ (v : V) (e : Ex) (n' : Int) (H' : Hp), Kind kinds e true → e.dep ≤ m + 1 → ExAt H' v e → But d H H' → DrawAt H' d s ns n' → Q v H'
abbrev N_law_int : List Str := ["draw", "columns", "deep", "ints", "name", "kind", "texts", "one"]
theorem sc_int : FnScope N_law_int ["draw", "columns", "deep"] (defScope sInt) := ⟨rfl, rfl, rfl, by decide +kernel, rfl, by decide +kernel, by decide +kernel⟩
/-- where the def stands behind its first two lines -/
structure IntSt (H0 H : Hp) (d s D1 D2 : Addr) (ns : List Int) (n : Int) : Prop where
  dr : DrawAt H d s ns n
  b : But d H0 H
  i1 : H D1 = some (.lst [.str "k", .str "n"])
  i2 : H D2 = some (.lst [.str "t"])
  n1 : D1 ≠ d
  n2 : D2 ≠ d
theorem IntSt.step {H0 H H' : Hp} {d s D1 D2 : Addr} {ns : List Int} {n n' : Int} (S : IntSt H0 H d s D1 D2 ns n) (b : But d H H') (D : DrawAt H' d s ns n') : IntSt H0 H' d s D1 D2 ns n' :=
  ⟨D, S.b.trans b, b _ _ S.n1 S.i1, b _ _ S.n2 S.i2, S.n1, S.n2⟩
theorem IntSt.new {H0 H : Hp} {d s D1 D2 p : Addr} {ns : List Int} {n : Int} {o : HO} (S : IntSt H0 H d s D1 D2 ns n) (h : H p = none) : IntSt H0 (upd H p o) d s D1 D2 ns n :=
  S.step (same_but (same_upd h)) (S.dr.keep (same_upd h))
def i1s : Nat → List V
  | 0 => []
  | 1 => [.str "k"]
  | 2 => [.str "k"]
  | _ => [.str "k", .str "n"]
def i2s : Nat → List V
  | 0 => []
  | 1 => []
  | 2 => [.str "t"]
  | _ => [.str "t"]
theorem mem_strs {v : V} {l : List Str} (h : v ∈ l.map V.str) : ∃ z, z ∈ l ∧ v = .str z := by
  obtain ⟨z, hz, e⟩ := List.mem_map.mp h
  exact ⟨z, hz, e.symm⟩
def ops13 : List Str := ["+", "-", "*", "/", "mod", "=", "!=", "<", "<=", ">", ">=", "and", "or"]
theorem ops13_in : ∀ op ∈ ops13, op ∈ sums ∨ op ∈ cmps ∨ op = "and" ∨ op = "or" := by decide +kernel
set_option maxHeartbeats 16000000 in
theorem ok_int {f : Addr} {fd : FuncData} {m : Nat} (F : Fun K "_law_int" "_law_int" sInt f fd) (m_len : mg "len" = none) (G_law_next : Ready P w K mg base 3 "_law_next" ["draw", "bound"] spNext) (G_law_pick : Ready P w K mg base 4 "_law_pick" ["draw", "things"] (spPick K))
    (G_law_int : Ready P w K mg base (m + 4) "_law_int" ["draw", "columns", "deep"] (spInt m)) : FnOk P w K mg base CX0 (m + 5) f fd ["draw", "columns", "deep"] (spInt (m + 1)) := by
  refine F.ok sc_int (fun vs H Q E h => ?_) (fun cdv A outer s0 H vs Q E hr h => ?_)
  · obtain ⟨d, s, cols, c1, c2, c3, ns, n, deep, rfl, _⟩ := h
    rfl
  obtain ⟨d, s, cols, c1, c2, c3, ns, n, deep, rfl, D, C, hd0, hdm, q⟩ := h
  have nd := sc_int.nd
  have hu64 : _ + 64 < cLine := hr.units
  have hr4 : Room 4 _ := hr.mono (by omega)
  have hr3 : Room 3 _ := hr.mono (by omega)
  refine ⟨_, pss_cons (ps_setLc (i := 3) (own := [("name", 4), ("kind", 5)]) (g := (gTup K 2 (gCons (gName 4) (gCons (gName 5) gNil)))) (tt := _) rfl nd rfl rfl (sw_true rfl rfl rfl (by decide +kernel)) (pi_list (pv 1)) (blkOk_by (N := N_law_int) (sc := defScope sInt) (by decide +kernel)) (fun _ _ _ _ _ => pg_tup rfl (pgs_cons (pg_name (i := 4) nd rfl (.inl rfl)) (pgs_cons (pg_name (i := 5) nd rfl (.inl rfl)) pgs_nil))) (fun _ _ _ _ _ => pts_one (pt_cmpR op_eq (pv 5) pe_str (nomark _))) (fun _ _ _ _ _ => (pv 4)))
      (pss_cons (ps_setLc (i := 6) (own := [("name", 4), ("kind", 5)]) (g := (gTup K 2 (gCons (gName 4) (gCons (gName 5) gNil)))) (tt := _) rfl nd rfl rfl (sw_true rfl rfl rfl (by decide +kernel)) (pi_list (pv 1)) (blkOk_by (N := N_law_int) (sc := defScope sInt) (by decide +kernel)) (fun _ _ _ _ _ => pg_tup rfl (pgs_cons (pg_name (i := 4) nd rfl (.inl rfl)) (pgs_cons (pg_name (i := 5) nd rfl (.inl rfl)) pgs_nil))) (fun _ _ _ _ _ => pts_one (pt_cmpR op_eq (pv 5) pe_str (nomark _))) (fun _ _ _ _ _ => (pv 4)))
      (pss_cons (ps_set (i := 5) nd rfl (.inl rfl) (pe_fn (G_law_next) hr3 (pa_cons (pv 0) (pa_cons pe_int pa_nil))))
      (pss_cons (ps_if (PW.pt (pw_or (pt_cmpR op_eq (pv 2) pe_int (nomark _)) (pw_or1 (pt_cmpR op_lt (pv 5) pe_int (nomark _))))) (pss_one (ps_ret (pe_ifExp (PW.pt (pw_and (pt_cmpR (op_neD hu64) (pv 3) (pe_lst pa_nil) (nomark _)) (pw_and1 (pt_cmpR op_gt (pe_op op_mod (pv 5) pe_int) pe_int (nomark _))))) (pe_tup (pa_cons pe_str (pa_cons (pe_fn (G_law_pick) hr4 (pa_cons (pv 0) (pa_cons (pv 3) pa_nil))) pa_nil))) (pe_tup (pa_cons pe_str (pa_cons (pe_fn (G_law_next) hr3 (pa_cons (pv 0) (pa_cons pe_int pa_nil))) pa_nil)))))) (pss_nil))
      (pss_cons (ps_if (PW.pt (pw_and (pt_cmpR op_eq (pv 5) pe_int (nomark _)) (pw_and1 (pt_cmpR (op_neD hu64) (pv 6) (pe_lst pa_nil) (nomark _))))) (pss_one (ps_ret (pe_tup (pa_cons pe_str (pa_cons (pe_fn (G_law_pick) hr4 (pa_cons (pv 0) (pa_cons (pe_tup (pa_cons pe_str (pa_cons pe_str (pa_cons pe_str (pa_cons pe_str pa_nil))))) pa_nil))) (pa_cons (pe_tup (pa_cons pe_str (pa_cons (pe_fn (G_law_pick) hr4 (pa_cons (pv 0) (pa_cons (pv 6) pa_nil))) pa_nil))) (pa_cons (pe_tup (pa_cons pe_str (pa_cons (pe_fn (G_law_pick) hr4 (pa_cons (pv 0) (pa_cons (pe_tup (pa_cons pe_str (pa_cons pe_str (pa_cons pe_str (pa_cons pe_str pa_nil))))) pa_nil))) pa_nil))) pa_nil))))))) (pss_nil))
      (pss_cons (ps_if (PW.pt (pw_and (pt_cmpR op_eq (pv 5) pe_int (nomark _)) (pw_and1 (pt_cmpR (op_neD hu64) (pv 6) (pe_lst pa_nil) (nomark _))))) (pss_one (ps_ret (pe_tup (pa_cons pe_str (pa_cons (pe_tup (pa_cons pe_str (pa_cons (pe_fn (G_law_pick) hr4 (pa_cons (pv 0) (pa_cons (pv 6) pa_nil))) pa_nil))) pa_nil))))) (pss_nil))
      (pss_cons (ps_set (i := 7) nd rfl (.inl rfl) (pe_fn (G_law_int) hr (pa_cons (pv 0) (pa_cons (pv 1) (pa_cons (pe_op op_sub (pv 2) pe_int) pa_nil)))))
      (pss_cons (ps_if (pt_cmpR op_eq (pv 5) pe_int (nomark _)) (pss_one (ps_ret (pe_tup (pa_cons (pe_fn (G_law_pick) hr4 (pa_cons (pv 0) (pa_cons (pe_tup (pa_cons pe_str (pa_cons pe_str pa_nil))) pa_nil))) (pa_cons (pv 7) pa_nil))))) (pss_nil))
      (pss_one (ps_ret (pe_tup (pa_cons pe_str (pa_cons (pe_fn (G_law_pick) hr4 (pa_cons (pv 0) (pa_cons (pe_tup (pa_cons pe_str (pa_cons pe_str (pa_cons pe_str (pa_cons pe_str (pa_cons pe_str (pa_cons pe_str (pa_cons pe_str (pa_cons pe_str (pa_cons pe_str (pa_cons pe_str (pa_cons pe_str (pa_cons pe_str (pa_cons pe_str pa_nil)))))))))))))) pa_nil))) (pa_cons (pv 7) (pa_cons (pe_fn (G_law_int) hr (pa_cons (pv 0) (pa_cons (pv 1) (pa_cons (pe_op op_sub (pv 2) pe_int) pa_nil)))) pa_nil)))))))))))))), ?_⟩
  have small : ∀ {acc : List V}, acc.length ≤ 2 → acc.length < sizeLine := fun h => Nat.lt_of_le_of_lt h (by decide)
  -- ints
  refine ⟨_, rfl, cols, rfl, ⟨_, SqL.of C.all⟩, fun D1 hD1 => lc_list (xs := [.ref c1, .ref c2, .ref c3]) (fun i H' => Same H H' ∧ H' D1 = some (.lst (i1s i))) ⟨same_upd hD1, upd_same⟩ (fun i H' _ h => SqL.of (h.1 _ _ C.all)) ?_ ?_⟩
  · rintro i x H' hx ⟨sm, e⟩
    have nD : ∀ {o}, Same H (upd H' D1 o) := fun b o' e' => by
      rw [upd_ne (ne_of_none e' hD1)]
      exact sm _ _ e'
    match i, hx with
    | 0, hx =>
      cases hx
      refine ⟨c1, _, rfl, SqT.of (sm _ _ C.k), rfl, _, _, rfl, _, _, rfl, rfl, rfl, _, rfl, rfl, _, rfl, iteT ?_⟩
      exact ⟨_, rfl, _, e, by decide, nD, upd_same⟩
    | 1, hx =>
      cases hx
      refine ⟨c2, _, rfl, SqT.of (sm _ _ C.t), rfl, _, _, rfl, _, _, rfl, rfl, rfl, _, rfl, rfl, _, rfl, iteF ?_⟩
      exact ⟨sm, e⟩
    | 2, hx =>
      cases hx
      refine ⟨c3, _, rfl, SqT.of (sm _ _ C.n), rfl, _, _, rfl, _, _, rfl, rfl, rfl, _, rfl, rfl, _, rfl, iteT ?_⟩
      exact ⟨_, rfl, _, e, by decide, nD, upd_same⟩
    | i + 3, hx => cases hx
  rintro H1 ⟨s1, e1⟩
  have e1' : H1 D1 = some (.lst [.str "k", .str "n"]) := e1
  -- texts
  refine ⟨_, rfl, cols, rfl, ⟨_, SqL.of (s1 _ _ C.all)⟩, fun D2 hD2 => lc_list (xs := [.ref c1, .ref c2, .ref c3]) (fun i H' => Same H1 H' ∧ H' D2 = some (.lst (i2s i))) ⟨same_upd hD2, upd_same⟩ (fun i H' _ h => SqL.of (h.1 _ _ (s1 _ _ C.all))) ?_ ?_⟩
  · rintro i x H' hx ⟨sm, e⟩
    have nD : ∀ {o}, Same H1 (upd H' D2 o) := fun b o' e' => by
      rw [upd_ne (ne_of_none e' hD2)]
      exact sm _ _ e'
    have sm1 := s1.trans sm
    match i, hx with
    | 0, hx =>
      cases hx
      refine ⟨c1, _, rfl, SqT.of (sm1 _ _ C.k), rfl, _, _, rfl, _, _, rfl, rfl, rfl, _, rfl, rfl, _, rfl, iteF ?_⟩
      exact ⟨sm, e⟩
    | 1, hx =>
      cases hx
      refine ⟨c2, _, rfl, SqT.of (sm1 _ _ C.t), rfl, _, _, rfl, _, _, rfl, rfl, rfl, _, rfl, rfl, _, rfl, iteT ?_⟩
      exact ⟨_, rfl, _, e, by decide, nD, upd_same⟩
    | 2, hx =>
      cases hx
      refine ⟨c3, _, rfl, SqT.of (sm1 _ _ C.n), rfl, _, _, rfl, _, _, rfl, rfl, rfl, _, rfl, rfl, _, rfl, iteF ?_⟩
      exact ⟨sm, e⟩
    | i + 3, hx => cases hx
  rintro H2 ⟨s2, e2⟩
  have e2' : H2 D2 = some (.lst [.str "t"]) := e2
  have s12 := s1.trans s2
  have S2 : IntSt H H2 d s D1 D2 ns n := ⟨D.keep s12, same_but s12, s2 _ _ e1', e2', (ne_of_none D.at_d hD1).symm, (ne_of_none (s1 _ _ D.at_d) hD2).symm⟩
  have q' : ∀ (v : V) (e : Ex) (n' : Int) (H' : Hp), Kind kinds e true → e.dep ≤ m + 2 → ExAt H' v e → IntSt H H' d s D1 D2 ns n' → Q v H' := fun v e n' H' h1 h2 h3 h4 => q v e n' H' h1 h2 h3 h4.b h4.dr
  have Cb : ∀ {H' n'}, IntSt H H' d s D1 D2 ns n' → ColsAt H' cols c1 c2 c3 := fun S => C.but D S.b
  clear q s12 s2 s1
  -- kind
  refine ⟨_, rfl, d, s, ns, _, _, rfl, S2.dr, (by show (0 : Int) < 10; decide), fun kd H3 _ _ b3 D3 => ?_⟩
  have S3 := S2.step b3 D3
  clear S2
  have ne2 : ∀ {H' p n'}, IntSt H H' d s D1 D2 ns n' → H' p = none → p ≠ d := fun S h => (ne_of_none S.dr.at_d h).symm
  have z2 : 2 ≤ sizeLine := by decide
  have z4 : 4 ≤ sizeLine := by decide
  have tp : ∀ {H' n'}, IntSt H H' d s D1 D2 ns n' → ∀ {H''}, But d H' H'' → ∀ (a : Addr) (xs : List V), H' a = some (.tup xs) → H'' a = some (.tup xs) := fun {_ _} S {_} b => b.tup S.dr.at_d
  have kt : kinds "t" = some false := by decide +kernel
  refine ⟨_, rfl, rfl, _, rfl, ite2 (fun c => iteT ?_) (fun c => ⟨_, rfl, _, _, rfl, rfl, _, rfl, ite2 (fun cc => ?_) (fun cc => ?_)⟩)⟩
  rotate_left 2
  · -- deeper
    have hd1 : deep ≠ 0 := fun e => c (decide_eq_true (by rw [e]))
    refine ⟨_, rfl, rfl, _, rfl, ite2 (fun c => ?_) (fun c => iteF ?_)⟩
    · -- two texts
      refine ⟨_, rfl, Nat.zero_le _, fun p hp => ?_⟩
      have S4 := S3.new (o := .lst []) hp
      refine ⟨.list [.str "t"], .list [], .lst (SqL.of S4.i2) (.cons (.str _) .nil), .lst (SqL.of upd_same) .nil, by decide +kernel, rfl, _, rfl, iteT ?_⟩
      refine ⟨_, rfl, z4, fun p1 hp1 => ?_⟩
      have S5 := S4.new (o := .tup [.str "=", .str "!=", .str "<", .str ">="]) hp1
      refine ⟨d, s, p1, ns, _, [.str "=", .str "!=", .str "<", .str ">="], rfl, S5.dr, ne2 S4 hp1, .inr (SqT.of upd_same), (by intro z; cases z), fun v1 H6 hv1 b6 D6 => ?_⟩
      have S6 := S5.step b6 D6
      refine ⟨_, rfl, _, rfl, d, s, D2, ns, _, [.str "t"], rfl, S6.dr, S6.n2, .inl (SqL.of S6.i2), (by intro z; cases z), fun v2 H7 hv2 b7 D7 => ⟨z2, fun t2 ht2 => ?_⟩⟩
      have S7 := S6.step b7 D7
      have S8 := S7.new (o := .tup [.str "column", v2]) ht2
      refine ⟨_, rfl, z4, fun p3 hp3 => ?_⟩
      have S9 := S8.new (o := .tup [.str "a", .str "b", .str "bb", .str ""]) hp3
      refine ⟨d, s, p3, ns, _, [.str "a", .str "b", .str "bb", .str ""], rfl, S9.dr, ne2 S8 hp3, .inr (SqT.of upd_same), (by intro z; cases z), fun v3 H10 hv3 b10 D10 => ⟨z2, fun t4 ht4 => ⟨z4, fun t5 ht5 => ?_⟩⟩⟩
      have S10 := S9.step b10 D10
      have S11 := S10.new (o := .tup [.str "quoted", v3]) ht4
      have S12 := S11.new (o := .tup [.str "two", v1, .ref t2, .ref t4]) ht5
      obtain ⟨op, hop, rfl⟩ := mem_strs (l := ["=", "!=", "<", ">="]) hv1
      obtain ⟨x, hx, rfl⟩ := mem_strs (l := ["t"]) hv2
      obtain ⟨z, hz, rfl⟩ := mem_strs (l := ["a", "b", "bb", ""]) hv3
      have ex : x = "t" := List.mem_singleton.mp hx
      subst ex
      have hz2 : z.length ≤ 100 := by
        have : ∀ z ∈ (["a", "b", "bb", ""] : List Str), z.length ≤ 100 := by decide +kernel
        exact this z hz
      have a1 : (upd (upd H10 t4 (.tup [.str "quoted", .str z])) t5 (.tup [.str "two", .str op, .ref t2, .ref t4])) t2 = some (.tup [.str "column", .str "t"]) := by
        have e0 := b10.tup S9.dr.at_d t2 [.str "column", .str "t"] (by rw [upd_ne (ne_of_none upd_same hp3)]; exact upd_same)
        exact same_upd ht5 _ _ (same_upd ht4 _ _ e0)
      refine q' (.ref t5) (.two op (.col "t") (.quo z)) _ _ (.text hop (.col kt) (.quo hz2)) (by show 2 ≤ m + 2; omega) ?_ S12
      exact ⟨t5, _, _, rfl, upd_same, ⟨t2, rfl, a1⟩, ⟨t4, rfl, same_upd ht5 _ _ upd_same⟩⟩
    refine ⟨_, rfl, rfl, _, rfl, ite2 (fun c => ?_) (fun c => iteF ?_)⟩
    · -- a length
      refine ⟨_, rfl, Nat.zero_le _, fun p hp => ?_⟩
      have S4 := S3.new (o := .lst []) hp
      refine ⟨.list [.str "t"], .list [], .lst (SqL.of S4.i2) (.cons (.str _) .nil), .lst (SqL.of upd_same) .nil, by decide +kernel, rfl, _, rfl, iteT ?_⟩
      refine ⟨_, rfl, _, rfl, d, s, D2, ns, _, [.str "t"], rfl, S4.dr, S4.n2, .inl (SqL.of S4.i2), (by intro z; cases z), fun v2 H7 hv2 b7 D7 => ⟨z2, fun t2 ht2 => ⟨z2, fun t5 ht5 => ?_⟩⟩⟩
      have S7 := S4.step b7 D7
      have S8 := S7.new (o := .tup [.str "column", v2]) ht2
      have S9 := S8.new (o := .tup [.str "length", .ref t2]) ht5
      obtain ⟨x, hx, rfl⟩ := mem_strs (l := ["t"]) hv2
      have ex : x = "t" := List.mem_singleton.mp hx
      subst ex
      refine q' (.ref t5) (.ln (.col "t")) _ _ (.ln (.col kt)) (by show 2 ≤ m + 2; omega) ?_ S9
      exact ⟨t5, _, rfl, upd_same, ⟨t2, rfl, same_upd ht5 _ _ upd_same⟩⟩
    -- one
    refine ⟨_, rfl, _, rfl, _, rfl, _, _, rfl, rfl, d, s, cols, c1, c2, c3, ns, _, deep - 1, rfl, S3.dr, Cb S3, by omega, by omega, fun v1 e1 n1 H4 k1 dp1 x1 b4 D4 => ?_⟩
    have S4 := S3.step b4 D4
    refine ⟨_, rfl, rfl, _, rfl, ite2 (fun c => ?_) (fun c => ?_)⟩
    · refine ⟨_, rfl, z2, fun p1 hp1 => ?_⟩
      have S5 := S4.new (o := .tup [.str "not", .str "minus"]) hp1
      refine ⟨d, s, p1, ns, _, [.str "not", .str "minus"], rfl, S5.dr, ne2 S4 hp1, .inr (SqT.of upd_same), (by intro z; cases z), fun v2 H6 hv2 b6 D6 => ⟨_, rfl, z2, fun t5 ht5 => ?_⟩⟩
      have S6 := S5.step b6 D6
      have S7 := S6.new (o := .tup [v2, v1]) ht5
      have x2 : ExAt (upd H6 t5 (.tup [v2, v1])) v1 e1 := ((x1.keep fun a xs e => same_upd hp1 _ _ e).keep (tp S5 b6)).keep fun a xs e => same_upd ht5 _ _ e
      obtain ⟨op, hop, rfl⟩ := mem_strs (l := ["not", "minus"]) hv2
      simp only [List.mem_cons, List.not_mem_nil, or_false] at hop
      rcases hop with rfl | rfl
      · exact q' (.ref t5) (.nt e1) _ _ (.nt k1) (by show e1.dep + 1 ≤ m + 2; omega) ⟨t5, _, rfl, upd_same, x2⟩ S7
      · exact q' (.ref t5) (.mn e1) _ _ (.mn k1) (by show e1.dep + 1 ≤ m + 2; omega) ⟨t5, _, rfl, upd_same, x2⟩ S7
    · refine ⟨_, rfl, (by show 13 ≤ sizeLine; decide), fun p1 hp1 => ?_⟩
      have S5 := S4.new (o := .tup (ops13.map V.str)) hp1
      refine ⟨d, s, p1, ns, _, ops13.map V.str, rfl, S5.dr, ne2 S4 hp1, .inr (SqT.of upd_same), (by intro z; cases z), fun v2 H6 hv2 b6 D6 => ?_⟩
      have S6 := S5.step b6 D6
      refine ⟨_, rfl, _, rfl, _, rfl, _, rfl, _, _, rfl, rfl, d, s, cols, c1, c2, c3, ns, _, deep - 1, rfl, S6.dr, Cb S6, by omega, by omega, fun v3 e3 n3 H7 k3 dp3 x3 b7 D7 => ⟨z4, fun t5 ht5 => ?_⟩⟩
      have S7 := S6.step b7 D7
      have S8 := S7.new (o := .tup [.str "two", v2, v1, v3]) ht5
      have x2 : ExAt (upd H7 t5 (.tup [.str "two", v2, v1, v3])) v1 e1 := (((x1.keep fun a xs e => same_upd hp1 _ _ e).keep (tp S5 b6)).keep (tp S6 b7)).keep fun a xs e => same_upd ht5 _ _ e
      have x4 : ExAt (upd H7 t5 (.tup [.str "two", v2, v1, v3])) v3 e3 := x3.keep fun a xs e => same_upd ht5 _ _ e
      obtain ⟨op, hop, rfl⟩ := mem_strs hv2
      exact q' (.ref t5) (.two op e1 e3) _ _ (.arith (ops13_in op hop) k1 k3) (by show max e1.dep e3.dep + 1 ≤ m + 2; omega) ⟨t5, _, _, rfl, upd_same, x2, x4⟩ S8
  -- a column, a number
  all_goals
    refine ⟨_, rfl, Nat.zero_le _, fun p hp => ?_⟩
    have S4 := S3.new (o := .lst []) hp
    refine ⟨.list [.str "k", .str "n"], .list [], .lst (SqL.of S4.i1) (.cons (.str _) (.cons (.str _) .nil)), .lst (SqL.of upd_same) .nil, by decide +kernel, rfl, _, rfl, iteT ?_⟩
    refine ⟨_, rfl, _, _, rfl, rfl, (by show (0 : Int) < 4; decide), _, _, rfl, rfl, _, rfl, ite2 (fun c3 => ?_) (fun c3 => ?_)⟩
    · refine ⟨_, rfl, _, rfl, d, s, D1, ns, _, [.str "k", .str "n"], rfl, S4.dr, S4.n1, .inl (SqL.of S4.i1), (by intro z; cases z), fun v2 H7 hv2 b7 D7 => ⟨z2, fun t2 ht2 => ?_⟩⟩
      have S7 := S4.step b7 D7
      have S8 := S7.new (o := .tup [.str "column", v2]) ht2
      obtain ⟨x, hx, rfl⟩ := mem_strs (l := ["k", "n"]) hv2
      have kx : kinds x = some true := by
        have : ∀ x ∈ (["k", "n"] : List Str), kinds x = some true := by decide +kernel
        exact this x hx
      exact q' (.ref t2) (.col x) _ _ (.col kx) (by show 1 ≤ m + 2; omega) ⟨t2, rfl, upd_same⟩ S8
    · refine ⟨_, rfl, d, s, ns, _, _, rfl, S4.dr, (by show (0 : Int) < 6; decide), fun r H7 r0 r1 b7 D7 => ⟨z2, fun t2 ht2 => ?_⟩⟩
      have S7 := S4.step b7 D7
      have S8 := S7.new (o := .tup [.str "number", .int r]) ht2
      exact q' (.ref t2) (.num r) _ _ (.num (by omega)) (by show 1 ≤ m + 2; omega) ⟨t2, rfl, upd_same⟩ S8
end
end Kx

namespace Zk
open PySem
/-- something that zip draws from: at it an iterator, what it stands on at l, At n how it stands with n items drawn -/
structure Feed (prog : Program) (w : World) (it l : Addr) (xs : Array Value) (At : Nat → Heap → Prop) : Prop where
  item : ∀ {A : Around} {Er : Value → Shared → Prop} {s : Shared} {n : Nat} {x : Value} {R : Value → Shared → Prop}, At n s.heap → xs[n]? = some x →
    (∀ h, At (n + 1) h → Heap.SameBut it s.heap h → R x { s with heap := h }) → wpAny (model prog w) A (Builtin.SmallTypes.nextOf (.ref it)) R Er s
  stop : ∀ {A : Around} {Er : Value → Shared → Prop} {s : Shared} {n : Nat} {R : Value → Shared → Prop}, A.handled = none → At n s.heap → xs[n]? = none →
    (∀ h e, Heap.ExtBut it s.heap h → (∃ o, h.get? e = some o ∧ o.cls = .type "StopIteration") → Er (.ref e) { s with heap := h }) → wpAny (model prog w) A (Builtin.SmallTypes.nextOf (.ref it)) R Er s
  keep : ∀ {n : Nat} {h h' : Heap}, At n h → (∀ o, h.get? it = some o → h'.get? it = some o) → (∀ o, h.get? l = some o → h'.get? l = some o) → At n h'
  it_at : ∀ {n : Nat} {h : Heap}, At n h → ∃ o, h.get? it = some o
  l_at : ∀ {n : Nat} {h : Heap}, At n h → ∃ o, h.get? l = some o
theorem feedL (prog : Program) (w : World) {it l : Addr} (ne : l ≠ it) (xs : Array Value) : Feed prog w it l xs (fun n h => h.IsListIter it l n ∧ h.IsList l xs) where
  item := fun a hx q => wpAny_nextOf_list_item a.1 a.2 hx fun h i sb => q h ⟨i, a.2.extBut sb.extBut ne⟩ sb
  stop := fun hh a hx q => wpAny_nextOf_list_end hh a.1 a.2 hx fun h e k he => q h e k he
  keep := fun a h1 h2 => ⟨a.1.at h1, a.2.at h2⟩
  it_at := fun a => let ⟨o, e, _⟩ := a.1; ⟨o, e⟩
  l_at := fun a => let ⟨o, e, _⟩ := a.2; ⟨o, e⟩
theorem feedT (prog : Program) (w : World) {it l : Addr} (ne : l ≠ it) (xs : Array Value) : Feed prog w it l xs (fun n h => h.IsTupleIter it l n ∧ h.IsTuple l xs) where
  item := fun a hx q => RZ.nextOf_tuple_item a.1 a.2 hx fun h i sb => q h ⟨i, a.2.extBut sb.extBut ne⟩ sb
  stop := fun hh a hx q => RZ.nextOf_tuple_end hh a.1 a.2 hx fun h e k he => q h e k he
  keep := fun a h1 h2 => ⟨a.1.at h1, a.2.at h2⟩
  it_at := fun a => let ⟨o, e, _⟩ := a.1; ⟨o, e⟩
  l_at := fun a => let ⟨o, e, _⟩ := a.2; ⟨o, e⟩
section
variable {prog : Program} {w : World} {A : Around} {Er : Value → Shared → Prop} {s : Shared} {z TI TO i1 i2 l1 l2 : Addr} {n : Nat} {xs ys : Array Value} {x y : Value} {P1 P2 : Nat → Heap → Prop}
/-- what may change while an item is drawn -/
def Kept (bad : List Addr) (h h' : Heap) : Prop := ∀ c o, c ∉ bad → h.get? c = some o → h'.get? c = some o
/-- the first item: the spare tuple is still in hand -/
theorem first_item {u v : Value} {R : Value → Shared → Prop} (f1 : Feed prog w i1 l1 xs P1) (f2 : Feed prog w i2 l2 ys P2) (D : ZipApart z TI TO i1 i2 l1 l2)
    (hz : IsZip s.heap z TI TO .none) (hI : IsPair s.heap TI (.ref i1) (.ref i2)) (hO : IsPair s.heap TO u v) (a1 : P1 n s.heap) (a2 : P2 n s.heap) (ex : xs[n]? = some x) (ey : ys[n]? = some y)
    (q : ∀ h', IsZipHeld h' z TI TO s.heap.objs.size false → P1 (n + 1) h' → P2 (n + 1) h' → IsPair h' s.heap.objs.size x y → Kept [z, TO, i1, i2] s.heap h' → R (.ref s.heap.objs.size) { s with heap := h' }) :
    wpAny (model prog w) A (Builtin.«zip.__next__» ⟨[.ref z], []⟩) (fun fin s' => ∃ r, fin = .done (.ret r) ∧ R r s') Er s := by
  show wpAny _ _ (field (.ref z) 2 >>= _) _ _ _
  refine wpAny_bind (wpAny_field (x := .bool false) hz rfl rfl ?_)
  show wpAny _ _ (field (.ref z) 3 >>= _) _ _ _
  refine wpAny_bind (wpAny_field (x := .ref TI) hz rfl rfl ?_)
  refine wpAny_bind (wpAny_seqItems hI rfl ?_)
  show wpAny _ _ (Builtin.SmallTypes.ownedTupleIsFree (.ref z) >>= _) _ _ _
  refine wpAny_bind ?_
  unfold Builtin.SmallTypes.ownedTupleIsFree
  refine wpAny_bind (wpAny_field (x := .none) hz rfl rfl (wpAny_pure ?_))
  simp only [if_true]
  refine wpAny_bind (wpAny_rule ?_)
  refine wpAny_bind (wpAny_field (x := .ref TO) hz rfl rfl ?_)
  refine wpAny_bind (wpAny_setField_rec hz (by simp) fun g₁ z₁ b₁ => ?_)
  replace z₁ : IsZip g₁ z TI TO .ellipsis := z₁
  refine wpAny_bind ?_
  simp only [List.zipIdx_cons, List.zipIdx_nil, List.forIn_cons, List.forIn_nil]
  have c1 : P1 n g₁ := f1.keep a1 (fun o e => b₁.extBut _ _ D.i1z e) (fun o e => b₁.extBut _ _ D.l1z e)
  refine wpAny_bind (wpAny_bind (wpAny_onRaise ?_))
  show wpAny _ _ (Builtin.SmallTypes.nextOf (.ref i1) >>= _) _ _ _
  refine wpAny_bind (f1.item (s := { s with heap := g₁ }) c1 ex fun g₂ c₂ b₂ => wpAny_pure ?_)
  have O₂ : IsPair g₂ TO u v := b₂.extBut _ _ D.TOi1 (b₁.extBut _ _ D.TOz hO)
  refine wpAny_bind (wpAny_seqItems O₂ rfl ?_)
  refine wpAny_bind (wpAny_updateSeq_pair O₂ fun g₃ O₃ b₃ => ?_)
  replace O₃ : IsPair g₃ TO x v := O₃
  refine wpAny_bind (wpAny_letGo (wpAny_pure ?_))
  have c2 : P2 n g₃ := f2.keep a2 (fun o e => b₃.extBut _ _ D.TOi2.symm (b₂.extBut _ _ D.i12.symm (b₁.extBut _ _ D.i2z e))) (fun o e => b₃.extBut _ _ D.l2TO (b₂.extBut _ _ D.l2i1 (b₁.extBut _ _ D.l2z e)))
  refine wpAny_bind (wpAny_bind (wpAny_onRaise ?_))
  show wpAny _ _ (Builtin.SmallTypes.nextOf (.ref i2) >>= _) _ _ _
  refine wpAny_bind (f2.item (s := { s with heap := g₃ }) c2 ey fun g₄ c₄ b₄ => wpAny_pure ?_)
  have O₄ : IsPair g₄ TO x v := b₄.extBut _ _ D.TOi2 O₃
  refine wpAny_bind (wpAny_seqItems O₄ rfl ?_)
  refine wpAny_bind (wpAny_updateSeq_pair O₄ fun g₅ O₅ b₅ => ?_)
  replace O₅ : IsPair g₅ TO x y := O₅
  refine wpAny_bind (wpAny_letGo (wpAny_pure (wpAny_pure ?_)))
  refine wpAny_bind (wpAny_seqItems O₅ rfl ?_)
  refine wpAny_bind (wpAny_newTuple ?_)
  have sz : g₅.objs.size = s.heap.objs.size := by rw [b₅.1, b₄.1, b₃.1, b₂.1, b₁.1]
  have z₅ : IsZip g₅ z TI TO .ellipsis := b₅.extBut _ _ D.TOz.symm (b₄.extBut _ _ D.i2z.symm (b₃.extBut _ _ D.TOz.symm (b₂.extBut _ _ D.i1z.symm z₁)))
  have all₅ : ∀ c o, c ≠ z → c ≠ TO → c ≠ i1 → c ≠ i2 → s.heap.get? c = some o → g₅.get? c = some o := fun c o d1 d2 d3 d4 e => b₅.extBut _ _ d2 (b₄.extBut _ _ d4 (b₃.extBut _ _ d2 (b₂.extBut _ _ d3 (b₁.extBut _ _ d1 e))))
  have p1 : P1 (n + 1) g₅ := f1.keep c₂ (fun o e => b₅.extBut _ _ D.TOi1.symm (b₄.extBut _ _ D.i12 (b₃.extBut _ _ D.TOi1.symm e))) (fun o e => b₅.extBut _ _ D.l1TO (b₄.extBut _ _ D.l1i2 (b₃.extBut _ _ D.l1TO e)))
  have p2 : P2 (n + 1) g₅ := f2.keep c₄ (fun o e => b₅.extBut _ _ D.TOi2.symm e) (fun o e => b₅.extBut _ _ D.l2TO e)
  have lz : z < g₅.objs.size := Heap.lt_size z₅
  show wpAny _ _ (Builtin.SmallTypes.ownedTupleHandOut (.ref z) (.ref g₅.objs.size) >>= _) _ _ _
  refine wpAny_bind ?_
  unfold Builtin.SmallTypes.ownedTupleHandOut
  have z₆ : IsZip (g₅.push { cls := .type "tuple", data := .seq #[x, y] }) z TI TO .ellipsis := Heap.get?_push_of_some _ z₅
  refine wpAny_bind (wpAny_setField_rec z₆ (by simp) fun g₇ z₇ b₇ => ?_)
  replace z₇ : IsZip g₇ z TI TO (rawInt g₅.objs.size) := z₇
  refine wpAny_setField_rec z₇ (by simp) fun g₈ z₈ b₈ => ?_
  replace z₈ : IsZipHeld g₈ z TI TO g₅.objs.size false := z₈
  have up : ∀ c o, c ≠ z → g₅.get? c = some o → g₈.get? c = some o := fun c o d1 e => b₈.extBut _ _ d1 (b₇.extBut _ _ d1 (Heap.get?_push_of_some _ e))
  have T₈ : IsPair g₈ g₅.objs.size x y := b₈.extBut _ _ (Nat.ne_of_gt lz) (b₇.extBut _ _ (Nat.ne_of_gt lz) (Heap.get?_push_size _ rfl))
  rw [sz] at z₈ T₈
  refine wpAny_pure ⟨_, rfl, ?_⟩
  show R (.ref g₅.objs.size) _
  rw [sz]
  refine q g₈ z₈ (f1.keep p1 (fun o e => up _ _ D.i1z e) (fun o e => up _ _ D.l1z e)) (f2.keep p2 (fun o e => up _ _ D.i2z e) (fun o e => up _ _ D.l2z e)) T₈ fun c o hc e => ?_
  simp only [List.mem_cons, List.not_mem_nil, or_false, not_or] at hc
  exact up c o hc.1 (all₅ c o hc.1 hc.2.1 hc.2.2.1 hc.2.2.2 e)
/-- a later item: the last tuple is still out -/
theorem later_item {T : Addr} {f : Bool} {oT : Obj} {R : Value → Shared → Prop} (f1 : Feed prog w i1 l1 xs P1) (f2 : Feed prog w i2 l2 ys P2) (D : ZipApart z TI TO i1 i2 l1 l2)
    (hz : IsZipHeld s.heap z TI TO T f) (hT : s.heap.get? T = some oT) (hI : IsPair s.heap TI (.ref i1) (.ref i2)) (a1 : P1 n s.heap) (a2 : P2 n s.heap) (ex : xs[n]? = some x) (ey : ys[n]? = some y)
    (q : ∀ h', IsZipHeld h' z TI TO T true → P1 (n + 1) h' → P2 (n + 1) h' → IsPair h' s.heap.objs.size x y → Kept [z, i1, i2] s.heap h' → R (.ref s.heap.objs.size) { s with heap := h' }) :
    wpAny (model prog w) A (Builtin.«zip.__next__» ⟨[.ref z], []⟩) (fun fin s' => ∃ r, fin = .done (.ret r) ∧ R r s') Er s := by
  show wpAny _ _ (field (.ref z) 2 >>= _) _ _ _
  refine wpAny_bind (wpAny_field (x := .bool false) hz rfl rfl ?_)
  show wpAny _ _ (field (.ref z) 3 >>= _) _ _ _
  refine wpAny_bind (wpAny_field (x := .ref TI) hz rfl rfl ?_)
  refine wpAny_bind (wpAny_seqItems hI rfl ?_)
  show wpAny _ _ (Builtin.SmallTypes.ownedTupleIsFree (.ref z) >>= _) _ _ _
  refine wpAny_bind (wpAny_tupleHeld_zip hz hT fun g₁ z₁ b₁ => ?_)
  simp only [Bool.false_eq_true, if_false]
  refine wpAny_bind ?_
  rw [← Array.forIn_toList]
  simp only [List.forIn_cons, List.forIn_nil]
  have c1 : P1 n g₁ := f1.keep a1 (fun o e => b₁.extBut _ _ D.i1z e) (fun o e => b₁.extBut _ _ D.l1z e)
  refine wpAny_bind (wpAny_bind (wpAny_holding ?_))
  show wpAny _ _ (Builtin.SmallTypes.nextOf (.ref i1) >>= _) _ _ _
  refine wpAny_bind (f1.item (s := { s with heap := g₁ }) c1 ex fun g₂ c₂ b₂ => wpAny_pure ?_)
  refine wpAny_pure ?_
  have c2 : P2 n g₂ := f2.keep a2 (fun o e => b₂.extBut _ _ D.i12.symm (b₁.extBut _ _ D.i2z e)) (fun o e => b₂.extBut _ _ D.l2i1 (b₁.extBut _ _ D.l2z e))
  refine wpAny_bind (wpAny_bind (wpAny_holding ?_))
  show wpAny _ _ (Builtin.SmallTypes.nextOf (.ref i2) >>= _) _ _ _
  refine wpAny_bind (f2.item (s := { s with heap := g₂ }) c2 ey fun g₃ c₃ b₃ => wpAny_pure ?_)
  refine wpAny_pure (wpAny_pure ?_)
  show wpAny _ _ (newTuple [x, y] >>= _) _ _ _
  refine wpAny_bind (wpAny_newTuple ?_)
  have sz : g₃.objs.size = s.heap.objs.size := by rw [b₃.1, b₂.1, b₁.1]
  have z₃ : IsZipHeld g₃ z TI TO T true := b₃.extBut _ _ D.i2z.symm (b₂.extBut _ _ D.i1z.symm z₁)
  have p1 : P1 (n + 1) g₃ := f1.keep c₂ (fun o e => b₃.extBut _ _ D.i12 e) (fun o e => b₃.extBut _ _ D.l1i2 e)
  have up : ∀ c o, g₃.get? c = some o → (g₃.push { cls := .type "tuple", data := .seq #[x, y] }).get? c = some o := fun c o e => Heap.get?_push_of_some _ e
  refine wpAny_pure ⟨_, rfl, ?_⟩
  show R (.ref g₃.objs.size) _
  have hp : IsPair (g₃.push { cls := .type "tuple", data := .seq #[x, y] }) g₃.objs.size x y := Heap.get?_push_size _ rfl
  rw [sz] at hp ⊢
  refine q _ (up _ _ z₃) (f1.keep p1 (fun o e => up _ _ e) (fun o e => up _ _ e)) (f2.keep c₃ (fun o e => up _ _ e) (fun o e => up _ _ e)) hp fun c o hc e => ?_
  simp only [List.mem_cons, List.not_mem_nil, or_false, not_or] at hc
  exact up _ _ (b₃.extBut _ _ hc.2.2 (b₂.extBut _ _ hc.2.1 (b₁.extBut _ _ hc.1 e)))
/-- behind the last item, the last tuple still out; both end together -/
theorem later_end {T : Addr} {f : Bool} {oT : Obj} {R : Fin → Shared → Prop} (hh : A.handled = none) (f1 : Feed prog w i1 l1 xs P1) (D : ZipApart z TI TO i1 i2 l1 l2)
    (hz : IsZipHeld s.heap z TI TO T f) (hT : s.heap.get? T = some oT) (hI : IsPair s.heap TI (.ref i1) (.ref i2)) (a1 : P1 n s.heap) (ex : xs[n]? = none)
    (q : ∀ h' e, Kept [z, i1, i2] s.heap h' → (∃ o, h'.get? e = some o ∧ o.cls = .type "StopIteration") → Er (.ref e) { s with heap := h' }) :
    wpAny (model prog w) A (Builtin.«zip.__next__» ⟨[.ref z], []⟩) R Er s := by
  show wpAny _ _ (field (.ref z) 2 >>= _) _ _ _
  refine wpAny_bind (wpAny_field (x := .bool false) hz rfl rfl ?_)
  show wpAny _ _ (field (.ref z) 3 >>= _) _ _ _
  refine wpAny_bind (wpAny_field (x := .ref TI) hz rfl rfl ?_)
  refine wpAny_bind (wpAny_seqItems hI rfl ?_)
  show wpAny _ _ (Builtin.SmallTypes.ownedTupleIsFree (.ref z) >>= _) _ _ _
  refine wpAny_bind (wpAny_tupleHeld_zip hz hT fun g₁ z₁ b₁ => ?_)
  simp only [Bool.false_eq_true, if_false]
  refine wpAny_bind ?_
  rw [← Array.forIn_toList]
  simp only [List.forIn_cons, List.forIn_nil]
  have c1 : P1 n g₁ := f1.keep a1 (fun o e => b₁.extBut _ _ D.i1z e) (fun o e => b₁.extBut _ _ D.l1z e)
  refine wpAny_bind (wpAny_bind (wpAny_holding ?_))
  show wpAny _ _ (Builtin.SmallTypes.nextOf (.ref i1) >>= _) _ _ _
  refine wpAny_bind (f1.stop (s := { s with heap := g₁ }) hh c1 ex fun g₂ e k he => ?_)
  refine q g₂ e (fun c o hc y => ?_) he
  simp only [List.mem_cons, List.not_mem_nil, or_false, not_or] at hc
  exact k _ _ hc.2.1 (b₁.extBut _ _ hc.1 y)
theorem next_first {u v : Value} {R : Option Value → Shared → Prop} (f1 : Feed prog w i1 l1 xs P1) (f2 : Feed prog w i2 l2 ys P2) (D : ZipApart z TI TO i1 i2 l1 l2)
    (hz : IsZip s.heap z TI TO .none) (hI : IsPair s.heap TI (.ref i1) (.ref i2)) (hO : IsPair s.heap TO u v) (a1 : P1 n s.heap) (a2 : P2 n s.heap) (ex : xs[n]? = some x) (ey : ys[n]? = some y)
    (q : ∀ h', IsZipHeld h' z TI TO s.heap.objs.size false → P1 (n + 1) h' → P2 (n + 1) h' → IsPair h' s.heap.objs.size x y → Kept [z, TO, i1, i2] s.heap h' → R (some (.ref s.heap.objs.size)) { s with heap := h' }) :
    wpAny (model prog w) A (pyNext (.ref z)) R Er s := by
  have ty : s.TypeIs (.ref z) "zip" := ⟨_, hz, rfl⟩
  unfold pyNext
  exact wpAny_bind (wpAny_attempt (wpAny_callSpecial?_slot (name := ("__next__" : Str)) ty F.slot_zip_next (wpAny_call_entry F.slot_zip_next ty F.entry_zip_next
    (first_item f1 f2 D hz hI hO a1 a2 ex ey fun h' b1 b2 b3 b4 b5 => wpAny_pure (q h' b1 b2 b3 b4 b5)) (F.args_zip_next_1 _))))
theorem next_later {T : Addr} {f : Bool} {oT : Obj} {R : Option Value → Shared → Prop} (f1 : Feed prog w i1 l1 xs P1) (f2 : Feed prog w i2 l2 ys P2) (D : ZipApart z TI TO i1 i2 l1 l2)
    (hz : IsZipHeld s.heap z TI TO T f) (hT : s.heap.get? T = some oT) (hI : IsPair s.heap TI (.ref i1) (.ref i2)) (a1 : P1 n s.heap) (a2 : P2 n s.heap) (ex : xs[n]? = some x) (ey : ys[n]? = some y)
    (q : ∀ h', IsZipHeld h' z TI TO T true → P1 (n + 1) h' → P2 (n + 1) h' → IsPair h' s.heap.objs.size x y → Kept [z, i1, i2] s.heap h' → R (some (.ref s.heap.objs.size)) { s with heap := h' }) :
    wpAny (model prog w) A (pyNext (.ref z)) R Er s := by
  have ty : s.TypeIs (.ref z) "zip" := ⟨_, hz, rfl⟩
  unfold pyNext
  exact wpAny_bind (wpAny_attempt (wpAny_callSpecial?_slot (name := ("__next__" : Str)) ty F.slot_zip_next (wpAny_call_entry F.slot_zip_next ty F.entry_zip_next
    (later_item f1 f2 D hz hT hI a1 a2 ex ey fun h' b1 b2 b3 b4 b5 => wpAny_pure (q h' b1 b2 b3 b4 b5)) (F.args_zip_next_1 _))))
theorem next_end {T : Addr} {f : Bool} {oT : Obj} {R : Option Value → Shared → Prop} (hh : A.handled = none) (f1 : Feed prog w i1 l1 xs P1) (D : ZipApart z TI TO i1 i2 l1 l2)
    (hz : IsZipHeld s.heap z TI TO T f) (hT : s.heap.get? T = some oT) (hI : IsPair s.heap TI (.ref i1) (.ref i2)) (a1 : P1 n s.heap) (ex : xs[n]? = none)
    (q : ∀ h', Kept [z, i1, i2] s.heap h' → R none { s with heap := h' }) : wpAny (model prog w) A (pyNext (.ref z)) R Er s := by
  have ty : s.TypeIs (.ref z) "zip" := ⟨_, hz, rfl⟩
  unfold pyNext
  refine wpAny_bind (wpAny_attempt (wpAny_callSpecial?_slot (name := ("__next__" : Str)) ty F.slot_zip_next (wpAny_call_entry F.slot_zip_next ty F.entry_zip_next
    (later_end hh f1 D hz hT hI a1 ex fun h' e k he => ?_) (F.args_zip_next_1 _))))
  obtain ⟨o, ho, hc⟩ := he
  refine wpAny_bind (wpAny_isInstance (b := true) (T := "StopIteration") ⟨o, ho, hc⟩ isSubtype_stop ?_)
  exact wpAny_pure (q _ k)
end
section
variable {prog : Program} {w : World}
/-- dict(zip(..)) of two feeds of one length, one item at least -/
theorem argZip {z TI TO i1 i2 l1 l2 : Addr} {xs ys : Array Value} {P1 P2 : Nat → Heap → Prop} (f1 : Feed prog w i1 l1 xs P1) (f2 : Feed prog w i2 l2 ys P2) (D : ZipApart z TI TO i1 i2 l1 l2) (he : xs.size = ys.size) (h0 : 0 < xs.size) :
    PairArg prog w "zip" z [z, TI, TO, i1, i2, l1, l2] [z, TO, i1, i2] xs.size (fun i k v => xs[i]? = some k ∧ ys[i]? = some v)
      (fun h => IsZip h z TI TO .none ∧ IsPair h TI (.ref i1) (.ref i2) ∧ (∃ a b, IsPair h TO a b) ∧ P1 0 h ∧ P2 0 h) where
  type := fun s k => ⟨_, k.1, rfl⟩
  notDict := by decide
  keep := fun h h' k e => let ⟨a, b, ⟨c, d, o⟩, p, q⟩ := k; ⟨e _ _ a, e _ _ b, ⟨c, d, e _ _ o⟩, f1.keep p (fun o t => e _ o t) (fun o t => e _ o t), f2.keep q (fun o t => e _ o t) (fun o t => e _ o t)⟩
  there := fun h k b hb => by
    obtain ⟨a, c, ⟨u, v, o⟩, p, q⟩ := k
    simp only [List.mem_cons, List.not_mem_nil, or_false] at hb
    rcases hb with rfl | rfl | rfl | rfl | rfl | rfl | rfl
    · exact ⟨_, a⟩
    · exact ⟨_, c⟩
    · exact ⟨_, o⟩
    · exact f1.it_at p
    · exact f2.it_at q
    · exact f1.l_at p
    · exact f2.l_at q
  sub := fun b hb => by
    simp only [List.mem_cons, List.not_mem_nil, or_false] at hb ⊢
    rcases hb with e | e | e | e
    · exact .inl e
    · exact .inr (.inr (.inl e))
    · exact .inr (.inr (.inr (.inl e)))
    · exact .inr (.inr (.inr (.inr (.inl e))))
  noKeys := fun A s Q E hA k h => getAttrOr_miss_zip k.1 rfl rfl rfl zip_no_keys (by decide +kernel) hA h
  iter := fun A s d Q E hA k hd hn h => by
    obtain ⟨a, c, ⟨u, v, o⟩, p, q⟩ := k
    simp only [List.mem_cons, List.not_mem_nil, or_false, not_or] at hn
    obtain ⟨nz, nI, nO, n1, n2, m1, m2⟩ := hn
    refine wpAny_pyIter_zip a (h z [z, TO, i1, i2] (fun i g => IsPair g TI (.ref i1) (.ref i2) ∧ P1 i g ∧ P2 i g ∧ ((i = 0 ∧ IsZip g z TI TO .none ∧ ∃ a b, IsPair g TO a b) ∨ ∃ T f oT, IsZipHeld g z TI TO T f ∧ g.get? T = some oT ∧ T ≠ z ∧ T ≠ i1 ∧ T ≠ i2 ∧ T ≠ d))
      s.heap s.toks ?_ ⟨c, p, q, .inl ⟨rfl, a, u, v, o⟩⟩ (fun _ _ e => e) fun b hb => .inl hb)
    refine { off := fun hm => ?_, frame := fun i g g' st e => ?_, item := fun i s₁ Q₁ E₁ hi st hds hq => ?_, done := fun s₁ Q₁ E₁ st hq => ?_ }
    · simp only [List.mem_cons, List.not_mem_nil, or_false] at hm
      rcases hm with e | e | e | e
      · exact nz e
      · exact nO e
      · exact n1 e
      · exact n2 e
    · obtain ⟨tI, p1, p2, st⟩ := st
      refine ⟨e _ _ (Ne.symm nI) tI, f1.keep p1 (fun o t => e _ o (Ne.symm n1) t) (fun o t => e _ o (Ne.symm m1) t), f2.keep p2 (fun o t => e _ o (Ne.symm n2) t) (fun o t => e _ o (Ne.symm m2) t), ?_⟩
      rcases st with ⟨i0, tz, u, v, tO⟩ | ⟨T, f, oT, tz, hT, r1, r2, r3, r4⟩
      · exact .inl ⟨i0, e _ _ (Ne.symm nz) tz, u, v, e _ _ (Ne.symm nO) tO⟩
      · exact .inr ⟨T, f, oT, e _ _ (Ne.symm nz) tz, e _ _ r4 hT, r1, r2, r3, r4⟩
    · obtain ⟨tI, p1, p2, st⟩ := st
      have ex := Array.getElem?_eq_getElem hi
      have ey := Array.getElem?_eq_getElem (show i < ys.size by omega)
      have new : ∀ {c o}, s₁.heap.get? c = some o → s₁.heap.objs.size ≠ c := fun e => Nat.ne_of_gt (Heap.lt_size e)
      obtain ⟨_, e1⟩ := f1.it_at p1
      obtain ⟨_, e2⟩ := f2.it_at p2
      rcases st with ⟨i0, tz, u, v, tO⟩ | ⟨T, f, oT, tz, hT, r1, r2, r3, r4⟩
      · refine next_first f1 f2 D tz tI tO p1 p2 ex ey fun g b1 b2 b3 b4 b5 => ?_
        refine hq s₁.heap.objs.size _ _ g s₁.toks ⟨ex, ey⟩ (.inl ⟨_, b4, rfl, _, rfl⟩) ⟨b5 _ _ (by simp [D.TIz, D.TITO, D.TIi1, D.TIi2]) tI, b2, b3, .inr ⟨s₁.heap.objs.size, false, _, b1, b4, new tz, new e1, new e2, Nat.ne_of_gt hds⟩⟩ fun c o hc t => b5 c o hc t
      · refine next_later f1 f2 D tz hT tI p1 p2 ex ey fun g b1 b2 b3 b4 b5 => ?_
        have sub : ∀ c, c ∉ [z, TO, i1, i2] → c ∉ [z, i1, i2] := fun c hc hm => hc (by
          simp only [List.mem_cons, List.not_mem_nil, or_false] at hm ⊢
          rcases hm with e | e | e
          · exact .inl e
          · exact .inr (.inr (.inl e))
          · exact .inr (.inr (.inr e)))
        refine hq s₁.heap.objs.size _ _ g s₁.toks ⟨ex, ey⟩ (.inl ⟨_, b4, rfl, _, rfl⟩) ⟨b5 _ _ (by simp [D.TIz, D.TIi1, D.TIi2]) tI, b2, b3, .inr ⟨T, true, oT, b1, b5 _ _ (by simp [r1, r2, r3]) hT, r1, r2, r3, r4⟩⟩ fun c o hc t => b5 c o (sub c hc) t
    · obtain ⟨tI, p1, p2, st⟩ := st
      rcases st with ⟨i0, _⟩ | ⟨T, f, oT, tz, hT, r1, r2, r3, r4⟩
      · omega
      · refine next_end hA f1 D tz hT tI p1 (Array.getElem?_eq_none (Nat.le_refl _)) fun g b5 => hq g s₁.toks fun c o hc t => b5 c o (fun hm => hc ?_) t
        simp only [List.mem_cons, List.not_mem_nil, or_false] at hm ⊢
        rcases hm with e | e | e
        · exact .inl e
        · exact .inr (.inr (.inl e))
        · exact .inr (.inr (.inr e))
end
/-! zip(xs, t) of a list and a tuple -/
abbrev it1 (l : Addr) : Obj := { cls := .type "list_iterator", data := .fields #[.ref l, .int 0 0] }
abbrev it2 (l : Addr) : Obj := { cls := .type "tuple_iterator", data := .fields #[.ref l, .int 0 0] }
abbrev prO (u v : Value) : Obj := { cls := .type "tuple", data := .seq #[u, v] }
abbrev ziO (a b : Addr) : Obj := { cls := .type "zip", data := .fields #[.none, .bool false, .bool false, .ref a, .ref b] }
abbrev k1 (h : Heap) (l : Addr) : Heap := h.push (it1 l)
abbrev k2 (h : Heap) (l m : Addr) : Heap := (k1 h l).push (it2 m)
abbrev k3 (h : Heap) (l m : Addr) : Heap := (k2 h l m).push (prO (.ref h.objs.size) (.ref (k1 h l).objs.size))
abbrev k4 (h : Heap) (l m : Addr) : Heap := (k3 h l m).push (prO .none .none)
abbrev k5 (h : Heap) (l m : Addr) : Heap := (k4 h l m).push (ziO (k2 h l m).objs.size (k3 h l m).objs.size)
theorem new_zip (l m : Addr) (xs ys : Array Value) :
    Meets (Builtin.«zip.__new__» ⟨[.type "zip", .ref l, .ref m], []⟩) (fun _ R s => s.heap.IsList l xs ∧ s.heap.IsTuple m ys ∧ R (.ok (.ret (.ref (k4 s.heap l m).objs.size))) { s with heap := k5 s.heap l m }) :=
  .of_wp fun prog w A R s h => by
    obtain ⟨hp, g, d, tk, os⟩ := s
    obtain ⟨a, b, h⟩ := h
    have sb := sub_zip
    have e1 : Heap.IsList (Shared.heap ⟨hp, g, d, tk, os⟩) l xs := a
    have e2 : Heap.IsTuple (Shared.heap ⟨hp.push (it1 l), g, d, tk, os⟩) m ys := b.push _
    wp_walk using wpAny_pyIter_list e1, wpAny_pyIter_tuple e2
    exact ⟨_, rfl, h⟩
section
variable {prog : Program} {w : World} {A : Around} {E : Value → Shared → Prop} {s : Shared}
theorem call_zip {l m : Addr} {xs ys : Array Value} {Q : Value → Shared → Prop} (a : s.heap.IsList l xs) (b : s.heap.IsTuple m ys)
    (h : ∀ g, IsZip g (s.heap.objs.size + 4) (s.heap.objs.size + 2) (s.heap.objs.size + 3) .none → IsPair g (s.heap.objs.size + 2) (.ref s.heap.objs.size) (.ref (s.heap.objs.size + 1)) → IsPair g (s.heap.objs.size + 3) .none .none →
      g.IsListIter s.heap.objs.size l 0 → g.IsTupleIter (s.heap.objs.size + 1) m 0 → (∀ c o, s.heap.get? c = some o → g.get? c = some o) → Q (.ref (s.heap.objs.size + 4)) { s with heap := g }) :
    wpAny (model prog w) A (call (.type "zip") [.ref l, .ref m]) Q E s := by
  refine callType_new F.called_zip (by decide) (F.typeCall_zip_2 _ _) (F.newCall_zip_2 _ _) (fun o => F.args_object_init_3 o _ _) F.entry_zip_new (new_zip l m xs ys) ⟨a, b, ?_⟩
  have n1 : (k1 s.heap l).objs.size = s.heap.objs.size + 1 := Heap.size_push ..
  have n2 : (k2 s.heap l m).objs.size = s.heap.objs.size + 2 := by rw [Heap.size_push, n1]
  have n3 : (k3 s.heap l m).objs.size = s.heap.objs.size + 3 := by rw [Heap.size_push, n2]
  have n4 : (k4 s.heap l m).objs.size = s.heap.objs.size + 4 := by rw [Heap.size_push, n3]
  have q5 : (k5 s.heap l m).get? (k4 s.heap l m).objs.size = some (ziO (k2 s.heap l m).objs.size (k3 s.heap l m).objs.size) := Heap.get?_push_size _ rfl
  have q4 : (k5 s.heap l m).get? (k3 s.heap l m).objs.size = some (prO .none .none) := Heap.get?_push_of_some _ (Heap.get?_push_size _ rfl)
  have q3 : (k5 s.heap l m).get? (k2 s.heap l m).objs.size = some (prO (.ref s.heap.objs.size) (.ref (k1 s.heap l).objs.size)) := Heap.get?_push_of_some _ (Heap.get?_push_of_some _ (Heap.get?_push_size _ rfl))
  have q2 : (k5 s.heap l m).get? (k1 s.heap l).objs.size = some (it2 m) := Heap.get?_push_of_some _ (Heap.get?_push_of_some _ (Heap.get?_push_of_some _ (Heap.get?_push_size _ rfl)))
  have q1 : (k5 s.heap l m).get? s.heap.objs.size = some (it1 l) := Heap.get?_push_of_some _ (Heap.get?_push_of_some _ (Heap.get?_push_of_some _ (Heap.get?_push_of_some _ (Heap.get?_push_size _ rfl))))
  show _ ∧ _
  rw [n2, n3, n4] at q5
  rw [n1, n2] at q3
  rw [n3] at q4
  rw [n1] at q2
  rw [n4]
  refine ⟨⟨_, q5, rfl⟩, h _ q5 q3 q4 ⟨_, q1, rfl, rfl⟩ ⟨_, q2, rfl, rfl⟩ fun c o e => ?_⟩
  exact Heap.get?_push_of_some _ (Heap.get?_push_of_some _ (Heap.get?_push_of_some _ (Heap.get?_push_of_some _ (Heap.get?_push_of_some _ e))))
end
end Zk
namespace Kx
open PySem PySem.Spec PyProof.Rows L2
/-- dict(zip(xs, t)), xs a list of texts and ints, t a tuple as long, not empty -/
def tDictZip (K : PySem.W.Frag) (t : TA) : TE := fun σ H Q => t σ H fun vs H1 => ∃ (a b : Addr) (ks : List L2.Key) (ys : List V), vs = [.ref a, .ref b] ∧ SqL K H1 a (ks.map kV) ∧ SqT K H1 b ys ∧ ks.length = ys.length ∧ 0 < ks.length ∧ ks.length ≤ 1000 ∧
  ∀ p, H1 p = none → Q (.ref p) (upd H1 p (.dK (mergeK [] (ks.zip ys))))
theorem keys_of {P : Program} {w : World} : ∀ {ks : List L2.Key} {us : List Value}, Vals (ks.map kV) us → ∀ (i : Nat) (u : Value), us[i]? = some u → ∃ k, ks[i]? = some k ∧ (mixKind P w).is k u = true
  | [], _, r, i, u, e => by
    cases r
    cases e
  | k :: ks, _, r, i, u, e => by
    cases r with
    | cons h t =>
      cases i with
      | zero =>
        cases e
        exact ⟨k, rfl, kV_is (P := P) (w := w) h⟩
      | succ i =>
        obtain ⟨k', e1, e2⟩ := keys_of (P := P) (w := w) t i u e
        exact ⟨k', e1, e2⟩
theorem kv_zip : ∀ {ks : List L2.Key} {ys : List V} {us : List Value}, Vals ys us → KV (ks.zip ys) (ks.zip us)
  | [], _, _, _ => .nil
  | k :: ks, _, _, .nil => .nil
  | k :: ks, _, _, .cons h t => .cons ⟨rfl, h⟩ (kv_zip t)
theorem pe_dictzip {X : Cx} {e1 e2 : Expr} {ta : TA} {p1 p2 pos pos2 : Pos} (hc : X.calm = true) (hd : Gl X "dict") (hz : Gl X "zip") (md : X.mg "dict" = none) (mz : X.mg "zip" = none) (ha : PA X [e1, e2] ta)
    (hs : starEach [e1, e2] X.env = (false, eval e1 X.env) :: starEach [e2] X.env := by rfl) (hpl : (backTo pos2 (starEach [e2] X.env)).any (·.1) = false := by rfl)
    (hs1 : starEach [.Call (.Name "zip" p2) [e1, e2] [] pos2] X.env = (false, eval (.Call (.Name "zip" p2) [e1, e2] [] pos2) X.env) :: starEach [] X.env := by rfl) :
    PE X (.Call (.Name "dict" p1) [.Call (.Name "zip" p2) [e1, e2] [] pos2] [] pos) (tDictZip X.K ta) := by
  refine ⟨fun pins s σ H Q I h => ?_⟩
  refine wpAny_Call_Name_kw (ld_blt I hd md boot_dict ?_ (by decide) (by decide))
  refine PyProof.Rows.callWith_type1 ?_ hs1 rfl
  refine PyProof.Rows.args_cons ?_ hs1
  refine Call_ (ld_blt I hz mz PyProof.Rows.boot_zip (PyProof.Rows.callWith_type1 (thn (ha.run pos2 pins s σ H _ I h) fun us s1 ⟨vs, H1, I1, r1, q1⟩ => ?_) hs hpl))
  obtain ⟨a, b, ks, ys, rfl, qa, qb, hl, h0, h1000, q⟩ := q1
  cases r1 with
  | cons r rr =>
    cases rr with
    | cons r' rr =>
      cases rr
      cases r
      cases r'
      obtain ⟨ia, ra, pa, _⟩ := I1.list qa
      obtain ⟨ib, rb, pb, _⟩ := I1.tuple qb
      have la : a < s1.heap.objs.size := pa.lt
      obtain ⟨ob, hob, _⟩ := id pb
      have lb : b < s1.heap.objs.size := Heap.lt_size hob
      have na : ia.length = ks.length := by rw [← ra.length, List.length_map]
      have nb : ib.length = ys.length := rb.length.symm
      refine Zk.call_zip pa.isList (show s1.heap.IsTuple b ib.toArray from pb) fun g gz gI gO g1 g2 gk => ?_
      refine PyProof.Rows.args_nil ?_
      have D : ZipApart (s1.heap.objs.size + 4) (s1.heap.objs.size + 2) (s1.heap.objs.size + 3) s1.heap.objs.size (s1.heap.objs.size + 1) a b := PySem.W.ktu_apart s1.heap.objs.size a b la lb
      have arg := Zk.argZip (Zk.feedL X.prog X.w (Nat.ne_of_lt la) ia.toArray) (Zk.feedT X.prog X.w (Nat.ne_of_lt (Nat.lt_succ_of_lt lb)) ib.toArray) D (by simp only [List.size_toArray]; omega) (by simp only [List.size_toArray]; omega)
      have kl : ∀ c, c ∈ [s1.heap.objs.size + 4, s1.heap.objs.size + 3, s1.heap.objs.size, s1.heap.objs.size + 1] → s1.heap.objs.size ≤ c := fun c hc => by
        simp only [List.mem_cons, List.not_mem_nil, or_false] at hc
        omega
      refine PySem.call_dict_pairs (s := { s1 with heap := g }) (knd := mixKind X.prog X.w) (kvs := ks.zip ib) arg (I1.ok.hd hc)
        ⟨gz, gI, ⟨_, _, gO⟩, ⟨g1, pa.isList.at fun o e => gk _ o e⟩, ⟨g2, (show s1.heap.IsTuple b ib.toArray from pb).at fun o e => gk _ o e⟩⟩ ⟨?_, fun i key v hr => ?_⟩ ?_ fun h' tk hd' hk => ?_
      · simp only [List.length_zip, List.size_toArray]
        omega
      · obtain ⟨e1, e2⟩ := hr
        have e1' : ia[i]? = some key := by simpa using e1
        have e2' : ib[i]? = some v := by simpa using e2
        obtain ⟨k, ek, ik⟩ := keys_of (P := X.prog) (w := X.w) ra i key e1'
        exact ⟨k, by rw [List.getElem?_zip_eq_some]; exact ⟨ek, e2'⟩, ik⟩
      · simp only [List.size_toArray]
        exact Nat.le_trans (by omega) (show 1000 ≤ sizeLine by decide)
      · have kk : ∀ c u, s1.heap.get? c = some u → h'.get? c = some u := fun c u e => hk c u (fun hm => Nat.lt_irrefl _ (Nat.lt_of_lt_of_le (Heap.lt_size e) (kl c hm))) (gk c u e)
        have hg : s1.heap.objs.size ≤ g.objs.size := Nat.le_of_lt (Nat.lt_of_le_of_lt (Nat.le_add_right _ 4) (Heap.lt_size gz))
        have hm : (g.objs.size == sysModules) = false := beq_eq_false_iff_ne.mpr (Nat.ne_of_gt (Nat.lt_of_lt_of_le I1.big hg))
        have hlen : (mergeK [] (ks.zip ys)).length ≤ sizeLine := by
          refine Nat.le_trans (length_mergeK (ks.zip ys) []) ?_
          rw [List.length_nil, Nat.zero_add, List.length_zip]
          exact Nat.le_trans (by omega) (show 1000 ≤ sizeLine by decide)
        exact ⟨.ref g.objs.size, upd H1 g.objs.size (.dK (mergeK [] (ks.zip ys))), I1.laid (t' := tk) kk hg (show ObjOk X.prog X.w _ _ _ (.dK (mergeK [] (ks.zip ys))) from ⟨hlen, hm, merged [] (ks.zip ib), KV.merge (kv_zip rb) .nil, hd'⟩), rfl, q _ (I1.hok.fresh hg)⟩
end Kx

namespace Kx
open PySem PySem.Spec PyProof.Rows L2
abbrev sLaw : Stmt := topS 20
/-- where the law stands at every turn -/
structure LawSt (H : Hp) (d s cols c1 c2 c3 pl : Addr) (ns : List Int) (n : Int) : Prop where
  dr : DrawAt H d s ns n
  co : ColsAt H cols c1 c2 c3
  pl : H pl = some (.dK [(.inr "k", .int 0), (.inr "t", .int 1), (.inr "n", .int 2)])
theorem LawSt.ne {H : Hp} {d s cols c1 c2 c3 pl : Addr} {ns : List Int} {n : Int} (S : LawSt H d s cols c1 c2 c3 pl ns n) : pl ≠ d := fun e => by
  have a := S.pl
  rw [e, S.dr.at_d] at a
  cases a
theorem LawSt.step {H H' : Hp} {d s cols c1 c2 c3 pl : Addr} {ns : List Int} {n n' : Int} (S : LawSt H d s cols c1 c2 c3 pl ns n) (b : But d H H') (D : DrawAt H' d s ns n') : LawSt H' d s cols c1 c2 c3 pl ns n' :=
  ⟨D, S.co.but S.dr b, b _ _ S.ne S.pl⟩
theorem LawSt.same {H H' : Hp} {d s cols c1 c2 c3 pl : Addr} {ns : List Int} {n : Int} (S : LawSt H d s cols c1 c2 c3 pl ns n) (h : Same H H') : LawSt H' d s cols c1 c2 c3 pl ns n := S.step (same_but h) (S.dr.keep h)
theorem cut_map (xs : List Int) (lo hi : Option Int) : ∃ ys : List Int, cutV (xs.map V.int) lo hi = ys.map V.int := by
  unfold cutV
  rw [← List.map_drop, ← List.map_take]
  exact ⟨_, rfl⟩
def spLaw (K : PySem.W.Frag) : Sp := fun vs H Q _ => ∃ (a : Addr) (xs : List Int), vs = [.ref a] ∧ SqL K H a (xs.map V.int) ∧ ∀ H', Q (.bl true) H'
section
variable {P : Program} {w : World} {K : PySem.W.Frag} {mg : Str → Option Value} {base : Heap}
abbrev N_law : List Str := ["script", "draw", "columns", "places", "turn", "told", "by", "k", "row"]
theorem sc_law : FnScope N_law ["script"] (defScope sLaw) := ⟨rfl, rfl, rfl, by decide +kernel, rfl, by decide +kernel, by decide +kernel⟩
set_option maxHeartbeats 16000000 in
theorem ok_law {f : Addr} {fd : FuncData} (F : Fun K "law" "law" sLaw f fd) (m_range : mg "range" = none) (m_dict : mg "dict" = none) (m_zip : mg "zip" = none) (G_law_pick : Ready P w K mg base 4 "_law_pick" ["draw", "things"] (spPick K)) (G_law_value : Ready P w K mg base 5 "_law_value" ["draw"] spVal)
    (G_law_int : Ready P w K mg base 8 "_law_int" ["draw", "columns", "deep"] (spInt 4)) (G_worth : Ready P w K mg base 7 "worth" ["told", "places", "row"] (spWorth 5)) (G_law_worth : Ready P w K mg base 7 "_law_worth" ["told", "has"] (spLWorth 5)) :
    FnOk P w K mg base CX0 9 f fd ["script"] (spLaw K) := by
  refine F.ok sc_law (fun vs H Q E h => ?_) (fun cdv A outer s0 H vs Q E hr h => ?_)
  · obtain ⟨a, xs, rfl, _⟩ := h
    rfl
  obtain ⟨a, xs, rfl, hS, q⟩ := h
  have nd := sc_law.nd
  have hr7 : Room 7 _ := hr.mono (by decide)
  have hr5 : Room 5 _ := hr.mono (by decide)
  have hr4 : Room 4 _ := hr.mono (by decide)
  refine ⟨_, pss_cons (ps_set (i := 1) nd rfl (.inl rfl) (pe_lst (pa_cons (pe_slice sl_list (pv 0) po_none (po_some pe_int)) (pa_cons pe_int (pa_cons pe_int pa_nil)))))
      (pss_cons (ps_set (i := 2) nd rfl (.inl rfl) (pe_lst (pa_cons (pe_tup (pa_cons pe_str (pa_cons pe_str pa_nil))) (pa_cons (pe_tup (pa_cons pe_str (pa_cons pe_str pa_nil))) (pa_cons (pe_tup (pa_cons pe_str (pa_cons pe_str pa_nil))) pa_nil)))))
      (pss_cons (ps_set (i := 3) nd rfl (.inl rfl) (pe_disp (pps_cons pe_str pe_int (pps_cons pe_str pe_int (pps_cons pe_str pe_int pps_nil))) rfl rfl (by intro z; cases z) (by decide)))
      (pss_cons (ps_for PassesOwn.never rfl (pi_range1 rfl m_range (pa_cons pe_int pa_nil)) (pg_name (i := 4) nd rfl (.inl rfl)) (pss_cons (ps_set (i := 5) nd rfl (.inl rfl) (pe_fn (G_law_int) hr (pa_cons (pv 1) (pa_cons (pv 2) (pa_cons pe_int pa_nil)))))
      (pss_one (ps_for PassesOwn.never rfl (pi_range1 rfl m_range (pa_cons pe_int pa_nil)) (pg_name (i := 6) nd rfl (.inl rfl)) (pss_cons (ps_set (i := 7) nd rfl (.inl rfl) (pe_fn (G_law_value) hr5 (pa_cons (pv 1) pa_nil)))
      (pss_cons (ps_set (i := 8) nd rfl (.inl rfl) (pe_tup (pa_cons (pv 7) (pa_cons (pe_fn (G_law_pick) hr4 (pa_cons (pv 1) (pa_cons (pe_lst (pa_cons pe_str (pa_cons pe_str (pa_cons pe_str (pa_cons pe_str (pa_cons pe_str (pa_cons pe_str pa_nil))))))) pa_nil))) (pa_cons (pe_fn (G_law_pick) hr4 (pa_cons (pv 1) (pa_cons (pe_lst (pa_cons (pv 7) (pa_cons (pe_fn (G_law_value) hr5 (pa_cons (pv 1) pa_nil)) pa_nil))) pa_nil))) pa_nil)))))
      (pss_one (ps_if (pt_cmpR op_ne (pe_fn (G_worth) hr7 (pa_cons (pv 5) (pa_cons (pv 3) (pa_cons (pv 8) pa_nil)))) (pe_fn (G_law_worth) hr7 (pa_cons (pv 5) (pa_cons (pe_dictzip rfl (by rfl) (by rfl) m_dict m_zip (pa_cons (pe_lst (pa_cons pe_str (pa_cons pe_str (pa_cons pe_str pa_nil)))) (pa_cons (pv 8) pa_nil))) pa_nil))) (nomark _)) (pss_one (ps_ret pe_bl)) (pss_nil)))))))))
      (pss_one (ps_ret pe_bl))))), ?_⟩
  have z3 : 3 ≤ sizeLine := by decide
  have z2 : 2 ≤ sizeLine := by decide
  obtain ⟨ns, ens⟩ := cut_map xs none (some 63)
  -- draw
  refine ⟨_, rfl, _, rfl, a, _, rfl, hS, fun s ns0 => ⟨z3, fun d nd0 => ?_⟩⟩
  rw [ens] at nd0 ⊢
  have D0 : DrawAt (upd (upd H s (.lst (ns.map V.int))) d (.lst [.ref s, .int 0, .int 0])) d s ns 0 := ⟨upd_same, by rw [upd_ne (ne_of_none upd_same nd0)]; exact upd_same, Int.le_refl 0⟩
  generalize upd (upd H s (.lst (ns.map V.int))) d (.lst [.ref s, .int 0, .int 0]) = H0 at D0 ⊢
  -- columns
  refine ⟨z2, fun c1 e1 => ⟨z2, fun c2 e2 => ⟨z2, fun c3 e3 => ⟨z3, fun cols e4 => ?_⟩⟩⟩⟩
  have s1 := same_upd (o := .tup [.str "k", .str "int"]) e1
  have s2 := same_upd (o := .tup [.str "t", .str "text"]) e2
  have s3 := same_upd (o := .tup [.str "n", .str "int"]) e3
  have s4 := same_upd (o := .lst [.ref c1, .ref c2, .ref c3]) e4
  have C0 : ColsAt (upd (upd (upd (upd H0 c1 (.tup [.str "k", .str "int"])) c2 (.tup [.str "t", .str "text"])) c3 (.tup [.str "n", .str "int"])) cols (.lst [.ref c1, .ref c2, .ref c3])) cols c1 c2 c3 :=
    ⟨upd_same, s4 _ _ (s3 _ _ (s2 _ _ upd_same)), s4 _ _ (s3 _ _ upd_same), s4 _ _ upd_same⟩
  have D1 := D0.keep (s1.trans (s2.trans (s3.trans s4)))
  generalize upd (upd (upd (upd H0 c1 (.tup [.str "k", .str "int"])) c2 (.tup [.str "t", .str "text"])) c3 (.tup [.str "n", .str "int"])) cols (.lst [.ref c1, .ref c2, .ref c3]) = H1 at C0 D1 ⊢
  -- places
  refine fun pl npl => ⟨upd_same, [(.inr "k", .int 0), (.inr "t", .int 1), (.inr "n", .int 2)], rfl, by decide, ?_⟩
  have sp : Same H1 (upd (upd H1 pl (.dK [])) pl (.dK (mergeK [] [(.inr "k", .int 0), (.inr "t", .int 1), (.inr "n", .int 2)]))) := fun b o e => by
    rw [upd_ne (ne_of_none e npl), upd_ne (ne_of_none e npl)]
    exact e
  have S0 : LawSt (upd (upd H1 pl (.dK [])) pl (.dK (mergeK [] [(.inr "k", .int 0), (.inr "t", .int 1), (.inr "n", .int 2)]))) d s cols c1 c2 c3 pl ns 0 := ⟨D1.keep sp, C0.keep sp, upd_same⟩
  generalize upd (upd H1 pl (.dK [])) pl (.dK (mergeK [] [(.inr "k", .int 0), (.inr "t", .int 1), (.inr "n", .int 2)])) = H2 at S0 ⊢
  -- the turns
  refine ⟨6, rfl, by decide, by decide, for_range (n := 6) (fun i σ H' => ∃ n y4 y5 y6 y7 y8, σ = [some (.ref a), some (.ref d), some (.ref cols), some (.ref pl), y4, y5, y6, y7, y8] ∧ LawSt H' d s cols c1 c2 c3 pl ns n)
    ⟨0, none, none, none, none, none, rfl, S0⟩ ?_ ?_⟩
  · rintro i σ H' hi ⟨n, y4, y5, y6, y7, y8, rfl, S⟩
    refine ⟨_, rfl, _, rfl, d, s, cols, c1, c2, c3, ns, n, 3, rfl, S.dr, S.co, by decide, by decide, fun v e n1 H3 hK hdep hx b3 D3 => ?_⟩
    have S3 := S.step b3 D3
    refine ⟨4, rfl, by decide, by decide, for_range (n := 4) (fun i σ H' => ∃ n y4 y6 y7 y8, σ = [some (.ref a), some (.ref d), some (.ref cols), some (.ref pl), y4, some v, y6, y7, y8] ∧ LawSt H' d s cols c1 c2 c3 pl ns n ∧ ExAt H' v e)
      ⟨_, _, _, _, _, rfl, S3, hx⟩ ?_ ?_⟩
    · rintro j σ H4 hj ⟨n4, y4, y6, y7, y8, rfl, S4, x4⟩
      -- k
      refine ⟨_, rfl, d, s, ns, _, rfl, S4.dr, fun k n5 H5 hk b5 D5 => ?_⟩
      have S5 := S4.step b5 D5
      have x5 := x4.keep (b5.tup S4.dr.at_d)
      -- row
      refine ⟨_, rfl, _, rfl, (by show 6 ≤ sizeLine; decide), fun p1 e1 => ?_⟩
      have t1 := same_upd (o := .lst ((["", "a", "b", "bb", "ab", "A"] : List Str).map V.str)) e1
      have S6 := S5.same t1
      have x6 := same_ex t1 x5
      refine ⟨d, s, p1, ns, _, (["", "a", "b", "bb", "ab", "A"] : List Str).map V.str, rfl, S6.dr, (ne_of_none S5.dr.at_d e1).symm, .inl (SqL.of upd_same), (by intro z; cases z), fun v1 H7 hv1 b7 D7 => ?_⟩
      have S7 := S6.step b7 D7
      have x7 := x6.keep (b7.tup S6.dr.at_d)
      refine ⟨_, rfl, _, rfl, _, rfl, d, s, ns, _, rfl, S7.dr, fun k2 n8 H8 hk2 b8 D8 => ⟨z2, fun p2 e2 => ?_⟩⟩
      have S8 := S7.step b8 D8
      have x8 := x7.keep (b8.tup S7.dr.at_d)
      have t2 := same_upd (o := .lst [.int k, .int k2]) e2
      have S9 := S8.same t2
      have x9 := same_ex t2 x8
      refine ⟨d, s, p2, ns, _, [.int k, .int k2], rfl, S9.dr, (ne_of_none S8.dr.at_d e2).symm, .inl (SqL.of upd_same), (by intro z; cases z), fun v2 H10 hv2 b10 D10 => ⟨z3, fun rw_ e3 => ?_⟩⟩
      have S10 := S9.step b10 D10
      have x10 := x9.keep (b10.tup S9.dr.at_d)
      obtain ⟨t, ht, rfl⟩ := mem_strs (l := ["", "a", "b", "bb", "ab", "A"]) hv1
      have ht2 : t.length ≤ 100 := by
        have : ∀ z ∈ (["", "a", "b", "bb", "ab", "A"] : List Str), z.length ≤ 100 := by decide +kernel
        exact this t ht
      obtain ⟨m, hm, rfl⟩ : ∃ m, In64 m ∧ v2 = .int m := by
        simp only [List.mem_cons, List.not_mem_nil, or_false] at hv2
        rcases hv2 with rfl | rfl
        · exact ⟨_, hk, rfl⟩
        · exact ⟨_, hk2, rfl⟩
      have t3 := same_upd (o := .tup [.int k, .str t, .int m]) e3
      have S11 := S10.same t3
      have x11 := same_ex t3 x10
      have R11 : RowAt (upd H10 rw_ (.tup [.int k, .str t, .int m])) pl rw_ k t m := ⟨S11.pl, upd_same⟩
      obtain ⟨i0, ei, _⟩ := val_fits (rho_fits hk ht2 hm) hK
      -- worth, and the law's own
      refine ⟨_, rfl, _, rfl, _, rfl, v, pl, rw_, k, t, m, e, true, rfl, R11, hk, ht2, hm, x11, hK, hdep, ?_⟩
      refine ⟨_, rfl, z3, fun p3 e4 => ?_⟩
      have t4 := same_upd (o := .lst [.str "k", .str "t", .str "n"]) e4
      refine ⟨_, rfl, p3, rw_, [.inr "k", .inr "t", .inr "n"], [.int k, .str t, .int m], rfl, SqL.of upd_same, SqT.of (t4 _ _ R11.rw_), rfl, by decide, by decide, fun hs e5 => ?_⟩
      have t5 := same_upd (o := .dK [(.inr "k", .int k), (.inr "t", .str t), (.inr "n", .int m)]) e5
      refine ⟨v, hs, k, t, m, e, true, rfl, ⟨upd_same⟩, hk, ht2, hm, same_ex (t4.trans t5) x11, hK, hdep, fun H12 t6 => ?_⟩
      have t7 := t4.trans (t5.trans t6)
      rw [ei]
      refine ⟨rfl, _, rfl, iteNS rfl ?_⟩
      exact ⟨_, _, _, _, _, rfl, S11.same t7, same_ex t7 x11⟩
    · rintro σ H4 ⟨n4, y4, y6, y7, y8, rfl, S4, x4⟩
      exact ⟨_, _, _, _, _, _, rfl, S4⟩
  · rintro σ H' ⟨n, y4, y5, y6, y7, y8, rfl, S⟩
    exact q _
end
end Kx

namespace Kx
open PySem PySem.Spec PyProof.Rows L2
section
variable {P : Program} {w : World} {K : PySem.W.Frag} {mg : Str → Option Value} {base : Heap} {f : Addr} {fd : FuncData} {k : Nat}
theorem no_def {sp : Sp} {ps : List Str} (h : ∀ vs H Q E, ¬ sp vs H Q E) : FnOk P w K mg base CX0 k f fd ps sp :=
  ⟨fun vs H Q E z => absurd z (h vs H Q E), fun A outer s H args us vs Q E _ _ _ _ z => absurd z (h vs H Q E)⟩
theorem no_worth : FnOk P w K mg base CX0 k f fd ["told", "places", "row"] (spWorth 0) := no_def fun vs H Q E ⟨_, _, _, _, _, _, e, _, _, _, _, _, _, _, _, h, _⟩ => absurd e.dep_pos (by omega)
theorem no_lworth : FnOk P w K mg base CX0 k f fd ["told", "has"] (spLWorth 0) := no_def fun vs H Q E ⟨_, _, _, _, _, e, _, _, _, _, _, _, _, _, h, _⟩ => absurd e.dep_pos (by omega)
theorem no_int : FnOk P w K mg base CX0 k f fd ["draw", "columns", "deep"] (spInt 0) := no_def fun vs H Q E ⟨_, _, _, _, _, _, _, _, _, _, _, _, h0, h1, _⟩ => by omega
end
theorem all_mk {l : PySem.W.OpenLaw} {w : World} {K : PySem.W.Frag} {h : Heap} {mg : Str → Option Value} {fa : Addr} (X : K.In h) (G : h.Ns mainGlobals mg) (hfa : mg "law" = some (.ref fa))
    {f1 f2 f3 f4 f5 f6 f7 f8 f9 f10 f11 f12 f13 f14 f15 : Addr} {od1 an1 od2 an2 od3 an3 od4 an4 od5 an5 od6 an6 od7 an7 od8 an8 od9 an9 od10 an10 od11 an11 od12 an12 od13 an13 od14 an14 od15 an15 : Option Addr} {sl1 sl2 sl3 sl4 sl5 sl6 sl7 sl8 sl9 sl10 sl11 sl12 sl13 sl14 sl15 : Array (Option Value)} {oc1 kV1 dc1 pm1 cd1 ct1 oc2 kV2 dc2 pm2 cd2 ct2 oc3 kV3 dc3 pm3 cd3 ct3 oc4 kV4 dc4 pm4 cd4 ct4 oc5 kV5 dc5 pm5 cd5 ct5 oc6 kV6 dc6 pm6 cd6 ct6 oc7 kV7 dc7 pm7 cd7 ct7 oc8 kV8 dc8 pm8 cd8 ct8 oc9 kV9 dc9 pm9 cd9 ct9 oc10 kV10 dc10 pm10 cd10 ct10 oc11 kV11 dc11 pm11 cd11 ct11 oc12 kV12 dc12 pm12 cd12 ct12 oc13 kV13 dc13 pm13 cd13 ct13 oc14 kV14 dc14 pm14 cd14 ct14 oc15 kV15 dc15 pm15 cd15 ct15 : Value} {u1 u2 w1 w2 w3 w4 w5 w6 w7 w8 w9 w10 w11 : Tok} {dl : Addr} {es : Array DictEntry} {nn : Nat}
    (a1 : PySem.W.nsIn K mainGlobals "wrapped" = some (some (.ref f1))) (l1 : K.lookup f1 = some ⟨oc1, od1, .func (PySem.W.fnOf "wrapped" "wrapped" (defArgs sWrap) (defBody sWrap) (defScope sWrap) .none kV1 dc1 pm1 an1 cd1 ct1), sl1⟩) (c1 : PySem.W.codeIn K cd1 "wrapped" = true) (k1 : PySem.W.keepIn K (.ref f1) = true)
    (a2 : PySem.W.nsIn K mainGlobals "is_so" = some (some (.ref f2))) (l2 : K.lookup f2 = some ⟨oc2, od2, .func (PySem.W.fnOf "is_so" "is_so" (defArgs sIsSo) (defBody sIsSo) (defScope sIsSo) .none kV2 dc2 pm2 an2 cd2 ct2), sl2⟩) (c2 : PySem.W.codeIn K cd2 "is_so" = true) (k2 : PySem.W.keepIn K (.ref f2) = true)
    (a3 : PySem.W.nsIn K mainGlobals "counted" = some (some (.ref f3))) (l3 : K.lookup f3 = some ⟨oc3, od3, .func (PySem.W.fnOf "counted" "counted" (defArgs sCount) (defBody sCount) (defScope sCount) .none kV3 dc3 pm3 an3 cd3 ct3), sl3⟩) (c3 : PySem.W.codeIn K cd3 "counted" = true) (k3 : PySem.W.keepIn K (.ref f3) = true)
    (a4 : PySem.W.nsIn K mainGlobals "worth_of_two" = some (some (.ref f4))) (l4 : K.lookup f4 = some ⟨oc4, od4, .func (PySem.W.fnOf "worth_of_two" "worth_of_two" (defArgs sTwo) (defBody sTwo) (defScope sTwo) .none kV4 dc4 pm4 an4 cd4 ct4), sl4⟩) (c4 : PySem.W.codeIn K cd4 "worth_of_two" = true) (k4 : PySem.W.keepIn K (.ref f4) = true)
    (a5 : PySem.W.nsIn K mainGlobals "worth" = some (some (.ref f5))) (l5 : K.lookup f5 = some ⟨oc5, od5, .func (PySem.W.fnOf "worth" "worth" (defArgs sWorth) (defBody sWorth) (defScope sWorth) .none kV5 dc5 pm5 an5 cd5 ct5), sl5⟩) (c5 : PySem.W.codeIn K cd5 "worth" = true) (k5 : PySem.W.keepIn K (.ref f5) = true)
    (a6 : PySem.W.nsIn K mainGlobals "_law_cell_at" = some (some (.ref f6))) (l6 : K.lookup f6 = some ⟨oc6, od6, .func (PySem.W.fnOf "_law_cell_at" "_law_cell_at" (defArgs sCell) (defBody sCell) (defScope sCell) .none kV6 dc6 pm6 an6 cd6 ct6), sl6⟩) (c6 : PySem.W.codeIn K cd6 "_law_cell_at" = true) (k6 : PySem.W.keepIn K (.ref f6) = true)
    (a7 : PySem.W.nsIn K mainGlobals "_law_draw" = some (some (.ref f7))) (l7 : K.lookup f7 = some ⟨oc7, od7, .func (PySem.W.fnOf "_law_draw" "_law_draw" (defArgs sDraw) (defBody sDraw) (defScope sDraw) .none kV7 dc7 pm7 an7 cd7 ct7), sl7⟩) (c7 : PySem.W.codeIn K cd7 "_law_draw" = true) (k7 : PySem.W.keepIn K (.ref f7) = true)
    (a8 : PySem.W.nsIn K mainGlobals "_law_number" = some (some (.ref f8))) (l8 : K.lookup f8 = some ⟨oc8, od8, .func (PySem.W.fnOf "_law_number" "_law_number" (defArgs sNumb) (defBody sNumb) (defScope sNumb) .none kV8 dc8 pm8 an8 cd8 ct8), sl8⟩) (c8 : PySem.W.codeIn K cd8 "_law_number" = true) (k8 : PySem.W.keepIn K (.ref f8) = true)
    (a9 : PySem.W.nsIn K mainGlobals "_law_next" = some (some (.ref f9))) (l9 : K.lookup f9 = some ⟨oc9, od9, .func (PySem.W.fnOf "_law_next" "_law_next" (defArgs sNext) (defBody sNext) (defScope sNext) .none kV9 dc9 pm9 an9 cd9 ct9), sl9⟩) (c9 : PySem.W.codeIn K cd9 "_law_next" = true) (k9 : PySem.W.keepIn K (.ref f9) = true)
    (a10 : PySem.W.nsIn K mainGlobals "_law_pick" = some (some (.ref f10))) (l10 : K.lookup f10 = some ⟨oc10, od10, .func (PySem.W.fnOf "_law_pick" "_law_pick" (defArgs sPick) (defBody sPick) (defScope sPick) .none kV10 dc10 pm10 an10 cd10 ct10), sl10⟩) (c10 : PySem.W.codeIn K cd10 "_law_pick" = true) (k10 : PySem.W.keepIn K (.ref f10) = true)
    (a11 : PySem.W.nsIn K mainGlobals "_law_int" = some (some (.ref f11))) (l11 : K.lookup f11 = some ⟨oc11, od11, .func (PySem.W.fnOf "_law_int" "_law_int" (defArgs sInt) (defBody sInt) (defScope sInt) .none kV11 dc11 pm11 an11 cd11 ct11), sl11⟩) (c11 : PySem.W.codeIn K cd11 "_law_int" = true) (k11 : PySem.W.keepIn K (.ref f11) = true)
    (a12 : PySem.W.nsIn K mainGlobals "_law_wrapped" = some (some (.ref f12))) (l12 : K.lookup f12 = some ⟨oc12, od12, .func (PySem.W.fnOf "_law_wrapped" "_law_wrapped" (defArgs sLWrap) (defBody sLWrap) (defScope sLWrap) .none kV12 dc12 pm12 an12 cd12 ct12), sl12⟩) (c12 : PySem.W.codeIn K cd12 "_law_wrapped" = true) (k12 : PySem.W.keepIn K (.ref f12) = true)
    (a13 : PySem.W.nsIn K mainGlobals "_law_worth" = some (some (.ref f13))) (l13 : K.lookup f13 = some ⟨oc13, od13, .func (PySem.W.fnOf "_law_worth" "_law_worth" (defArgs sLWorth) (defBody sLWorth) (defScope sLWorth) .none kV13 dc13 pm13 an13 cd13 ct13), sl13⟩) (c13 : PySem.W.codeIn K cd13 "_law_worth" = true) (k13 : PySem.W.keepIn K (.ref f13) = true)
    (a14 : PySem.W.nsIn K mainGlobals "_law_value" = some (some (.ref f14))) (l14 : K.lookup f14 = some ⟨oc14, od14, .func (PySem.W.fnOf "_law_value" "_law_value" (defArgs sValue) (defBody sValue) (defScope sValue) .none kV14 dc14 pm14 an14 cd14 ct14), sl14⟩) (c14 : PySem.W.codeIn K cd14 "_law_value" = true) (k14 : PySem.W.keepIn K (.ref f14) = true)
    (a15 : PySem.W.nsIn K mainGlobals "law" = some (some (.ref f15))) (l15 : K.lookup f15 = some ⟨oc15, od15, .func (PySem.W.fnOf "law" "law" (defArgs sLaw) (defBody sLaw) (defScope sLaw) .none kV15 dc15 pm15 an15 cd15 ct15), sl15⟩) (c15 : PySem.W.codeIn K cd15 "law" = true) (k15 : PySem.W.keepIn K (.ref f15) = true)
    (z1 : PySem.W.nsIn K mainGlobals "len" = some none)
    (z2 : PySem.W.nsIn K mainGlobals "int" = some none)
    (z3 : PySem.W.nsIn K mainGlobals "range" = some none)
    (z4 : PySem.W.nsIn K mainGlobals "dict" = some none)
    (z5 : PySem.W.nsIn K mainGlobals "zip" = some none)
    (g1 : PySem.W.nsIn K mainGlobals "LEAST_INT" = some (some (.int (-9223372036854775808) u1))) (g2 : PySem.W.nsIn K mainGlobals "COMPARISON" = some (some (.int 4 u2))) (g3 : PySem.W.nsIn K mainGlobals "LEVELS" = some (some (.ref dl))) (g4 : K.lookup dl = some ⟨.type "dict", none, .dict es nn, #[]⟩)
    (o1 : PySem.W.nsIn K dl "=" = some (some (.int 4 w1)))
    (o2 : PySem.W.nsIn K dl "!=" = some (some (.int 4 w2)))
    (o3 : PySem.W.nsIn K dl "<" = some (some (.int 4 w3)))
    (o4 : PySem.W.nsIn K dl "<=" = some (some (.int 4 w4)))
    (o5 : PySem.W.nsIn K dl ">" = some (some (.int 4 w5)))
    (o6 : PySem.W.nsIn K dl ">=" = some (some (.int 4 w6)))
    (o7 : PySem.W.nsIn K dl "+" = some (some (.int 5 w7)))
    (o8 : PySem.W.nsIn K dl "-" = some (some (.int 5 w8)))
    (o9 : PySem.W.nsIn K dl "*" = some (some (.int 6 w9)))
    (o10 : PySem.W.nsIn K dl "/" = some (some (.int 6 w10)))
    (o11 : PySem.W.nsIn K dl "mod" = some (some (.int 6 w11)))
    (g5 : PySem.W.KeysLit w.params es.toList) :
    ∃ fd : FuncData, (∀ (s : Shared) (v : Value), BindsTo s fd ⟨[v], []⟩ [("script", v)]) ∧ ∀ base : Heap, K.In base → base.Ns mainGlobals mg → FnOk l.prog w K mg base CX0 9 fa fd ["script"] (spLaw K) := by
  have e := hfa.symm.trans (PySem.W.mg_of X G a15)
  cases e
  have F1 := fun_mk (st := sWrap) l1 c1 k1
  have b1 := F1.binds (ps := ["number"]) fun _ _ _ _ _ _ us hl => match us, hl with | [_], _ => rfl
  have m1 := PySem.W.mg_of X G a1
  have F2 := fun_mk (st := sIsSo) l2 c2 k2
  have b2 := F2.binds (ps := ["op", "one", "other"]) fun _ _ _ _ _ _ us hl => match us, hl with | [_, _, _], _ => rfl
  have m2 := PySem.W.mg_of X G a2
  have F3 := fun_mk (st := sCount) l3 c3 k3
  have b3 := F3.binds (ps := ["op", "one", "other"]) fun _ _ _ _ _ _ us hl => match us, hl with | [_, _, _], _ => rfl
  have m3 := PySem.W.mg_of X G a3
  have F4 := fun_mk (st := sTwo) l4 c4 k4
  have b4 := F4.binds (ps := ["op", "one", "other"]) fun _ _ _ _ _ _ us hl => match us, hl with | [_, _, _], _ => rfl
  have m4 := PySem.W.mg_of X G a4
  have F5 := fun_mk (st := sWorth) l5 c5 k5
  have b5 := F5.binds (ps := ["told", "places", "row"]) fun _ _ _ _ _ _ us hl => match us, hl with | [_, _, _], _ => rfl
  have m5 := PySem.W.mg_of X G a5
  have F6 := fun_mk (st := sCell) l6 c6 k6
  have b6 := F6.binds (ps := ["script", "k"]) fun _ _ _ _ _ _ us hl => match us, hl with | [_, _], _ => rfl
  have m6 := PySem.W.mg_of X G a6
  have F7 := fun_mk (st := sDraw) l7 c7 k7
  have b7 := F7.binds (ps := ["cell", "k", "bound"]) fun _ _ _ _ _ _ us hl => match us, hl with | [_, _, _], _ => rfl
  have m7 := PySem.W.mg_of X G a7
  have F8 := fun_mk (st := sNumb) l8 c8 k8
  have b8 := F8.binds (ps := ["cell", "k", "bound"]) fun _ _ _ _ _ _ us hl => match us, hl with | [_, _, _], _ => rfl
  have m8 := PySem.W.mg_of X G a8
  have F9 := fun_mk (st := sNext) l9 c9 k9
  have b9 := F9.binds (ps := ["draw", "bound"]) fun _ _ _ _ _ _ us hl => match us, hl with | [_, _], _ => rfl
  have m9 := PySem.W.mg_of X G a9
  have F10 := fun_mk (st := sPick) l10 c10 k10
  have b10 := F10.binds (ps := ["draw", "things"]) fun _ _ _ _ _ _ us hl => match us, hl with | [_, _], _ => rfl
  have m10 := PySem.W.mg_of X G a10
  have F11 := fun_mk (st := sInt) l11 c11 k11
  have b11 := F11.binds (ps := ["draw", "columns", "deep"]) fun _ _ _ _ _ _ us hl => match us, hl with | [_, _, _], _ => rfl
  have m11 := PySem.W.mg_of X G a11
  have F12 := fun_mk (st := sLWrap) l12 c12 k12
  have b12 := F12.binds (ps := ["number"]) fun _ _ _ _ _ _ us hl => match us, hl with | [_], _ => rfl
  have m12 := PySem.W.mg_of X G a12
  have F13 := fun_mk (st := sLWorth) l13 c13 k13
  have b13 := F13.binds (ps := ["told", "has"]) fun _ _ _ _ _ _ us hl => match us, hl with | [_, _], _ => rfl
  have m13 := PySem.W.mg_of X G a13
  have F14 := fun_mk (st := sValue) l14 c14 k14
  have b14 := F14.binds (ps := ["draw"]) fun _ _ _ _ _ _ us hl => match us, hl with | [_], _ => rfl
  have m14 := PySem.W.mg_of X G a14
  have F15 := fun_mk (st := sLaw) l15 c15 k15
  have m_len := PySem.W.mg_none_of X G z1
  have m_int := PySem.W.mg_none_of X G z2
  have m_range := PySem.W.mg_none_of X G z3
  have m_dict := PySem.W.mg_none_of X G z4
  have m_zip := PySem.W.mg_none_of X G z5
  have Lv : Levels K w mg := by
    refine ⟨⟨dl, PySem.W.mg_of X G g3, fun op h => ?_, fun op h => ?_⟩, _, PySem.W.mg_of X G g2⟩
    · have h' : op ∈ (["=", "!=", "<", "<=", ">", ">="] : List Str) := h
      simp only [List.mem_cons, List.not_mem_nil, or_false] at h'
      rcases h' with rfl | rfl | rfl | rfl | rfl | rfl
      · exact ⟨_, _, _, g4, g5, o1, _, rfl⟩
      · exact ⟨_, _, _, g4, g5, o2, _, rfl⟩
      · exact ⟨_, _, _, g4, g5, o3, _, rfl⟩
      · exact ⟨_, _, _, g4, g5, o4, _, rfl⟩
      · exact ⟨_, _, _, g4, g5, o5, _, rfl⟩
      · exact ⟨_, _, _, g4, g5, o6, _, rfl⟩
    · have h' : op ∈ (["+", "-", "*", "/", "mod"] : List Str) := h
      simp only [List.mem_cons, List.not_mem_nil, or_false] at h'
      rcases h' with rfl | rfl | rfl | rfl | rfl
      · exact ⟨5, by decide, _, _, _, g4, g5, o7, _, rfl⟩
      · exact ⟨5, by decide, _, _, _, g4, g5, o8, _, rfl⟩
      · exact ⟨6, by decide, _, _, _, g4, g5, o9, _, rfl⟩
      · exact ⟨6, by decide, _, _, _, g4, g5, o10, _, rfl⟩
      · exact ⟨6, by decide, _, _, _, g4, g5, o11, _, rfl⟩
  refine ⟨PySem.W.fnOf "law" "law" (defArgs sLaw) (defBody sLaw) (defScope sLaw) .none kV15 dc15 pm15 an15 cd15 ct15, fun s v => .of_eq rfl, fun base _ _ => ?_⟩
  have R_wrap : Ready l.prog w K mg base 1 "wrapped" ["number"] spWrap := ⟨⟨f1, _, ok_wrap F1 ⟨_, PySem.W.mg_of X G g1⟩, b1, m1, k1⟩⟩
  have R_isso : Ready l.prog w K mg base 1 "is_so" ["op", "one", "other"] spIsSo := ⟨⟨f2, _, ok_isso F2, b2, m2, k2⟩⟩
  have R_count : Ready l.prog w K mg base 1 "counted" ["op", "one", "other"] spCount := ⟨⟨f3, _, ok_count F3, b3, m3, k3⟩⟩
  have R_two : Ready l.prog w K mg base 2 "worth_of_two" ["op", "one", "other"] spTwo := ⟨⟨f4, _, ok_two F4 m_int Lv R_isso R_count R_wrap, b4, m4, k4⟩⟩
  have R_worth : ∀ m, Ready l.prog w K mg base (m + 2) "worth" ["told", "places", "row"] (spWorth m) := fun m => by
    induction m with
    | zero => exact ⟨⟨f5, _, no_worth, b5, m5, k5⟩⟩
    | succ m ih => exact ⟨⟨f5, _, ok_worth F5 m_int m_len R_two R_wrap ih, b5, m5, k5⟩⟩
  have R_cell : Ready l.prog w K mg base 1 "_law_cell_at" ["script", "k"] (spCell K) := ⟨⟨f6, _, ok_cell F6 m_len, b6, m6, k6⟩⟩
  have R_draw : Ready l.prog w K mg base 1 "_law_draw" ["cell", "k", "bound"] spDraw := ⟨⟨f7, _, ok_draw F7 m_int, b7, m7, k7⟩⟩
  have R_numb : Ready l.prog w K mg base 2 "_law_number" ["cell", "k", "bound"] spNumb := ⟨⟨f8, _, ok_numb F8 m_int m_range R_draw, b8, m8, k8⟩⟩
  have R_next : Ready l.prog w K mg base 3 "_law_next" ["draw", "bound"] spNext := ⟨⟨f9, _, ok_next F9 m_int R_cell R_numb, b9, m9, k9⟩⟩
  have R_pick : Ready l.prog w K mg base 4 "_law_pick" ["draw", "things"] (spPick K) := ⟨⟨f10, _, ok_pick F10 m_len R_next, b10, m10, k10⟩⟩
  have R_int : ∀ m, Ready l.prog w K mg base (m + 4) "_law_int" ["draw", "columns", "deep"] (spInt m) := fun m => by
    induction m with
    | zero => exact ⟨⟨f11, _, no_int, b11, m11, k11⟩⟩
    | succ m ih => exact ⟨⟨f11, _, ok_int F11 m_len R_next R_pick ih, b11, m11, k11⟩⟩
  have R_lwrap : Ready l.prog w K mg base 1 "_law_wrapped" ["number"] spWrap := ⟨⟨f12, _, ok_lwrap F12, b12, m12, k12⟩⟩
  have R_lworth : ∀ m, Ready l.prog w K mg base (m + 2) "_law_worth" ["told", "has"] (spLWorth m) := fun m => by
    induction m with
    | zero => exact ⟨⟨f13, _, no_lworth, b13, m13, k13⟩⟩
    | succ m ih => exact ⟨⟨f13, _, ok_lworth F13 m_len R_lwrap ih, b13, m13, k13⟩⟩
  have R_value : Ready l.prog w K mg base 5 "_law_value" ["draw"] spVal := ⟨⟨f14, _, ok_value F14 R_next R_pick, b14, m14, k14⟩⟩
  exact ok_law F15 m_range m_dict m_zip R_pick R_value (R_int 4) (R_worth 5) (R_lworth 5)
theorem walk {l : PySem.W.OpenLaw} {q : Program} {loose : List Str} {XP : (Str → Option Value) → Heap → Prop} {YP : World → Heap → Prop} {d : DefRec} {K : Params → PySem.W.Frag} (hn : l.most = some 63) (hdf : d.params.defaults = [])
    (hY : ∀ (w : World) (h : Heap), YP w h → (K w.params).In h)
    (F : ∀ (w : World) (mg : Str → Option Value) (fa : Addr) (h : Heap), (K w.params).In h → h.Ns mainGlobals mg → mg d.name = some (.ref fa) →
      ∃ fd : FuncData, (∀ (s : Shared) (u : Value), BindsTo s fd ⟨[u], []⟩ [("script", u)]) ∧ ∀ base : Heap, (K w.params).In base → base.Ns mainGlobals mg → FnOk l.prog w (K w.params) mg base CX0 9 fa fd ["script"] (spLaw (K w.params))) :
    PySem.W.WalkO q loose XP YP l.row.toRowW d [] (fun f vs => PySem.call f vs) :=
  L2.walk_of (n := 63) (k := 9) (x := "script") (CX := fun _ => CX0) (sp := fun w => spLaw (K w.params)) hn (by decide) hdf ⟨rfl, by decide, by decide⟩ hY F (fun _ _ a ns hl _ hS => ⟨a, ns, rfl, hS, fun _ => rfl⟩) fun _ _ _ _ _ z => z
end Kx
open PySem PySem.W PyProof.Rows
set_option maxRecDepth 100000 in
set_option maxHeartbeats 0 in
theorem PySem.Challenge.cw_countedonce_k01_whole_worth_holds : PySem.Challenge.rw_countedonce_k01_whole_worth.Holds := by
  w_on; o_law; k_head; (case hw => w_witness2)
  k_fill
  refine Kx.walk (l := PySem.Challenge.rw_countedonce_k01_whole_worth) rfl rfl (fun w h Y => PySem.W.kIn_of Y) ?F
  case F =>
    intro w mg fa h KX G hmg
    refine' Kx.all_mk KX G hmg ?a1 ?l1 ?c1 ?k1 ?a2 ?l2 ?c2 ?k2 ?a3 ?l3 ?c3 ?k3 ?a4 ?l4 ?c4 ?k4 ?a5 ?l5 ?c5 ?k5 ?a6 ?l6 ?c6 ?k6 ?a7 ?l7 ?c7 ?k7 ?a8 ?l8 ?c8 ?k8 ?a9 ?l9 ?c9 ?k9 ?a10 ?l10 ?c10 ?k10 ?a11 ?l11 ?c11 ?k11 ?a12 ?l12 ?c12 ?k12 ?a13 ?l13 ?c13 ?k13 ?a14 ?l14 ?c14 ?k14 ?a15 ?l15 ?c15 ?k15 ?z1 ?z2 ?z3 ?z4 ?z5 ?g1 ?g2 ?g3 ?g4 ?o1 ?o2 ?o3 ?o4 ?o5 ?o6 ?o7 ?o8 ?o9 ?o10 ?o11 ?g5
    (case a1 => k_is)
    (case l1 => k_is)
    (case c1 => k_is)
    (case k1 => k_is)
    (case a2 => k_is)
    (case l2 => k_is)
    (case c2 => k_is)
    (case k2 => k_is)
    (case a3 => k_is)
    (case l3 => k_is)
    (case c3 => k_is)
    (case k3 => k_is)
    (case a4 => k_is)
    (case l4 => k_is)
    (case c4 => k_is)
    (case k4 => k_is)
    (case a5 => k_is)
    (case l5 => k_is)
    (case c5 => k_is)
    (case k5 => k_is)
    (case a6 => k_is)
    (case l6 => k_is)
    (case c6 => k_is)
    (case k6 => k_is)
    (case a7 => k_is)
    (case l7 => k_is)
    (case c7 => k_is)
    (case k7 => k_is)
    (case a8 => k_is)
    (case l8 => k_is)
    (case c8 => k_is)
    (case k8 => k_is)
    (case a9 => k_is)
    (case l9 => k_is)
    (case c9 => k_is)
    (case k9 => k_is)
    (case a10 => k_is)
    (case l10 => k_is)
    (case c10 => k_is)
    (case k10 => k_is)
    (case a11 => k_is)
    (case l11 => k_is)
    (case c11 => k_is)
    (case k11 => k_is)
    (case a12 => k_is)
    (case l12 => k_is)
    (case c12 => k_is)
    (case k12 => k_is)
    (case a13 => k_is)
    (case l13 => k_is)
    (case c13 => k_is)
    (case k13 => k_is)
    (case a14 => k_is)
    (case l14 => k_is)
    (case c14 => k_is)
    (case k14 => k_is)
    (case a15 => k_is)
    (case l15 => k_is)
    (case c15 => k_is)
    (case k15 => k_is)
    (case z1 => k_is)
    (case z2 => k_is)
    (case z3 => k_is)
    (case z4 => k_is)
    (case z5 => k_is)
    (case g1 => k_is)
    (case g2 => k_is)
    (case g3 => k_is)
    (case g4 => k_is)
    (case o1 => k_is)
    (case o2 => k_is)
    (case o3 => k_is)
    (case o4 => k_is)
    (case o5 => k_is)
    (case o6 => k_is)
    (case o7 => k_is)
    (case o8 => k_is)
    (case o9 => k_is)
    (case o10 => k_is)
    (case o11 => k_is)
    (case g5 => repeat (first | exact True.intro | refine ⟨⟨_, _, rfl, rfl⟩, ?_⟩))
#print axioms PySem.Challenge.cw_countedonce_k01_whole_worth_holds

