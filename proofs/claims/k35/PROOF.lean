import PyProof.Rows.All
import Wide.All
import OpenK.AllK
import Wide.FinOn
import HandS.Base
import HandS.Call
import HandS.List
import HandS.Comp
import HandS.Ends
import HandS.Words
import HandS.WordsList
import HandS.Wide
import HandS.TupAny
import HandS.Style
import HandS.ForSpec
import KE.KExcInit
import HandS.ExcInit
import HandS.TryElse
import HandS.Text
import HandS.Walk
import KE.Datum
import HandS.Exc
import HandS.More
import HandS.IsInst
import HandS.StrMore
import HandS.Codes
import HandS.RaiseMore
import HandS.Zip
import PySem.Challenge.RW_countedonce_k35_tables_as_texts
set_option Elab.async false
set_option linter.all false
set_option maxRecDepth 100000
set_option maxHeartbeats 4000000
namespace Kx
open PySem PySem.Spec PyProof.Rows L2
def topS (i : Nat) : Stmt := PySem.Challenge.pw_countedonce_k35_tables_as_texts.main.body.getD i (.Pass ⟨0, 0, 0, 0⟩)
abbrev sCell : Stmt := topS 44
abbrev sDraw : Stmt := topS 45
abbrev sNumb : Stmt := topS 46
abbrev sNext : Stmt := topS 47
abbrev sPick : Stmt := topS 48
section
variable {P : Program} {w : World} {K : PySem.W.Frag} {mg : Str → Option Value} {base : Heap}
/-- a def of the top that keeps a promise, and may be called by its name -/
structure Ready (P : Program) (w : World) (K : PySem.W.Frag) (mg : Str → Option Value) (base : Heap) (k : Nat) (x : Str) (ps : List Str) (sp : Sp) : Prop where
  ex : ∃ f fd, FnOk P w K mg base CX0 k f fd ps sp ∧ Binds K fd ps [] ∧ mg x = some (.ref f) ∧ PySem.W.keepIn K (.ref f) = true
end
theorem pe_fn {X : Cx} {k : Nat} {x : Str} {ps : List Str} {sp : Sp} {p pos : Pos} {e : Expr} {es : List Expr} {t : TA} (G : Ready X.prog X.w X.K X.mg X.base k x ps sp) (hr : Room k X.A) (ha : PA X (e :: es) t) (hg : Gl X x := by rfl)
    (hdb : (x == ("__debug__" : Str)) = false := by decide) (he : starEach (e :: es) X.env = (false, eval e X.env) :: starEach es X.env := by rfl) (hpl : (backTo pos (starEach es X.env)).any (·.1) = false := by rfl) :
    PE X (.Call (.Name x p) (e :: es) [] pos) (tCall sp [] E0 t) := by
  obtain ⟨f, fd, h, hb, hm, hk⟩ := G.ex
  exact pe_call h hr hg hm hk hb .nil pass0 ha hdb he hpl
/-- all that was tracked is as it was, but what stands at d -/
def But (d : Addr) (H H' : Hp) : Prop := ∀ b o, b ≠ d → H b = some o → H' b = some o
theorem But.refl (d : Addr) (H : Hp) : But d H H := fun _ _ _ h => h
theorem But.trans {d : Addr} {H H1 H2 : Hp} (a : But d H H1) (b : But d H1 H2) : But d H H2 := fun c o n h => b c o n (a c o n h)
theorem same_but {d : Addr} {H H' : Hp} (a : Same H H') : But d H H' := fun c o _ h => a c o h
theorem same_upd {H : Hp} {p : Addr} {o : HO} (h : H p = none) : Same H (upd H p o) := fun b x e => by
  rw [upd_ne (ne_of_none e h)]
  exact e
section
variable {P : Program} {w : World} {K : PySem.W.Frag} {mg : Str → Option Value} {base : Heap}
/-! ### the law's draws -/
def spCell (K : PySem.W.Frag) : Sp := fun vs H Q _ => ∃ (a : Addr) (ns : List Int) (k : Int), vs = [.ref a, .int k] ∧ SqL K H a (ns.map V.int) ∧ 0 ≤ k ∧ ∀ c : Int, Q (.int c) H
theorem sc_cell : FnScope ["script", "k"] ["script", "k"] (defScope sCell) := ⟨rfl, rfl, rfl, by decide +kernel, rfl, by decide +kernel, by decide +kernel⟩
theorem ok_cell {f : Addr} {fd : FuncData} (F : Fun K "_law_cell_at" "_law_cell_at" sCell f fd) (m_len : mg "len" = none) : FnOk P w K mg base CX0 1 f fd ["script", "k"] (spCell K) := by
  refine F.ok sc_cell (fun vs H Q E h => ?_) (fun cdv A outer s H vs Q E hr h => ?_)
  · obtain ⟨a, ns, k, rfl, _⟩ := h
    rfl
  obtain ⟨a, ns, k, rfl, hS, h0, q⟩ := h
  refine ⟨_, pss_cons (ps_if (pt_cmpR op_lt (pv 1) (pe_callB call_len_seq (by rfl) m_len PySem.boot_len (pa_cons (pv 0) pa_nil)) (nomark _)) (pss_one (ps_ret (pe_ix ix_list (pv 0) (pv 1) (fun _ _ => rfl)))) (pss_nil))
      (pss_one (ps_ret pe_int)), ?_⟩
  refine ⟨_, rfl, _, rfl, a, _, rfl, .inl hS, _, _, rfl, rfl, _, rfl, ?_⟩
  refine ite2 (fun c => ?_) (fun c => q 0)
  have c' : k < ((ns.map V.int).length : Int) := of_decide_eq_true c
  have ek : k = ((k.toNat : Nat) : Int) := by omega
  have hk : k.toNat < ns.length := by rw [List.length_map] at c'; omega
  have ha : atI (ns.map V.int) ((k.toNat : Nat) : Int) = some (.int ns[k.toNat]) := atI_nat (by rw [List.getElem?_map, List.getElem?_eq_getElem hk] <;> rfl)
  rw [← ek] at ha
  exact ⟨_, rfl, _, rfl, a, _, _, _, rfl, rfl, hS, ha, q _⟩
def spDraw : Sp := fun vs H Q _ => ∃ (c k b : Int), vs = [.int c, .int k, .int b] ∧ 0 < b ∧ ∀ (r : Int) (H' : Hp), 0 ≤ r → r < b → Same H H' → Q (.int r) H'
theorem sc_draw : FnScope ["cell", "k", "bound", "primes"] ["cell", "k", "bound"] (defScope sDraw) := ⟨rfl, rfl, rfl, by decide +kernel, rfl, by decide +kernel, by decide +kernel⟩
def primesL : List Int := [1000003, 1000033, 1000037, 1000039, 1000081, 1000099, 1000117, 1000121, 1000133, 1000151, 1000159, 1000171, 1000183, 1000187, 1000193, 1000199]
theorem primes_at {i : Int} (h0 : 0 ≤ i) (h : i < 16) : ∃ p : Int, 0 < p ∧ atI (primesL.map V.int) i = some (.int p) := by
  have ei : i = ((i.toNat : Nat) : Int) := by omega
  have hk : i.toNat < primesL.length := by show i.toNat < 16; omega
  refine ⟨primesL[i.toNat], ?_, ?_⟩
  · have : ∀ x ∈ primesL, (0 : Int) < x := by decide
    exact this _ (List.getElem_mem hk)
  · have q : atI (primesL.map V.int) ((i.toNat : Nat) : Int) = some (.int primesL[i.toNat]) := atI_nat (by rw [List.getElem?_map, List.getElem?_eq_getElem hk] <;> rfl)
    rw [← ei] at q
    exact q
theorem ok_draw {f : Addr} {fd : FuncData} (F : Fun K "_law_draw" "_law_draw" sDraw f fd) (m_int : mg "int" = none) : FnOk P w K mg base CX0 1 f fd ["cell", "k", "bound"] spDraw := by
  refine F.ok sc_draw (fun vs H Q E h => ?_) (fun cdv A outer s H vs Q E hr h => ?_)
  · obtain ⟨c, k, b, rfl, _⟩ := h
    rfl
  obtain ⟨c, k, b, rfl, hb, q⟩ := h
  have nd := sc_draw.nd
  refine ⟨_, pss_cons (ps_set (i := 3) nd rfl (.inl rfl) (pe_tup (pa_cons pe_int (pa_cons pe_int (pa_cons pe_int (pa_cons pe_int (pa_cons pe_int (pa_cons pe_int (pa_cons pe_int (pa_cons pe_int (pa_cons pe_int (pa_cons pe_int (pa_cons pe_int (pa_cons pe_int (pa_cons pe_int (pa_cons pe_int (pa_cons pe_int (pa_cons pe_int pa_nil))))))))))))))))))
      (pss_one (ps_ret (pe_op op_mod (pe_op op_mod (pe_callTy call_int1 (by rfl) m_int boot_int (pa_cons (pe_op op_add (pe_op op_mul (pv 0) pe_int) (pe_op op_mul (pv 1) pe_int)) pa_nil)) (pe_ix ix_tup (pv 3) (pe_op op_mod (pe_callTy call_int1 (by rfl) m_int boot_int (pa_cons (pv 1) pa_nil)) pe_int) (fun _ _ => rfl))) (pv 2)))), ?_⟩
  refine ⟨by show 16 ≤ sizeLine; decide, fun t ht => ?_⟩
  obtain ⟨p, hp, hat⟩ := primes_at (i := k % 16) (by omega) (by omega)
  refine ⟨_, rfl, _, _, rfl, rfl, .inr (by show _ ∧ _; decide), _, rfl, _, _, rfl, rfl, .inr (by show _ ∧ _; decide), _, _, rfl, rfl, .inl ⟨_, rfl, ?_⟩⟩
  refine ⟨_, rfl, _, rfl, .inl ⟨_, rfl, _, _, rfl, rfl, (by show (0 : Int) < 16; decide), ?_⟩⟩
  refine ⟨t, primesL.map V.int, _, _, rfl, rfl, SqT.of upd_same, hat, _, _, rfl, rfl, hp, _, rfl, _, _, rfl, rfl, hb, ?_⟩
  exact q _ _ (Int.emod_nonneg _ (by omega)) (Int.emod_lt_of_pos _ hb) (same_upd ht)
end
end Kx

namespace Kx
open PySem PySem.Spec PyProof.Rows L2
section
variable {P : Program} {w : World} {K : PySem.W.Frag} {mg : Str → Option Value} {base : Heap}
theorem pow_lt : ∀ i : Nat, i < 24 → (1009 ^ i : Nat) < 2 ^ 240 := by decide +kernel
theorem sc_numb : FnScope ["cell", "k", "bound", "power", "lap", "remains", "small"] ["cell", "k", "bound"] (defScope sNumb) := ⟨rfl, rfl, rfl, by decide +kernel, rfl, by decide +kernel, by decide +kernel⟩
def spNumb : Sp := fun vs H Q _ => ∃ (c k b : Int), vs = [.int c, .int k, .int b] ∧ 0 ≤ k ∧ k ≤ 100 ∧ 0 < b ∧ ∀ (r : Int) (H' : Hp), 0 ≤ r → r < b → Same H H' → Q (.int r) H'
theorem ok_numb {f : Addr} {fd : FuncData} (F : Fun K "_law_number" "_law_number" sNumb f fd) (m_int : mg "int" = none) (m_range : mg "range" = none) (G_law_draw : Ready P w K mg base 1 "_law_draw" ["cell", "k", "bound"] spDraw) :
    FnOk P w K mg base CX0 2 f fd ["cell", "k", "bound"] spNumb := by
  refine F.ok sc_numb (fun vs H Q E h => ?_) (fun cdv A outer s H vs Q E hr h => ?_)
  · obtain ⟨c, k, b, rfl, _⟩ := h
    rfl
  obtain ⟨c, k, b, rfl, k0, k1, hb, q⟩ := h
  have nd := sc_numb.nd
  refine ⟨_, pss_cons (ps_set (i := 3) nd rfl (.inl rfl) pe_int)
      (pss_cons (ps_for PassesOwn.never rfl (pi_range1 rfl m_range (pa_cons (pe_op op_mod (pe_callTy call_int1 (by rfl) m_int boot_int (pa_cons (pv 1) pa_nil)) pe_int) pa_nil)) (pg_name (i := 4) nd rfl (.inl rfl)) (pss_one (ps_set (i := 3) nd rfl (.inl rfl) (pe_op op_mul (pv 3) pe_int))))
      (pss_cons (ps_set (i := 5) nd rfl (.inl rfl) (pe_op op_fdivW (pe_op op_sub (pv 0) (pe_op op_pow pe_int pe_int)) (pv 3)))
      (pss_cons (ps_if (pt_cmpR op_gt (pv 5) pe_int (nomark _)) (pss_one (ps_ret (pe_op op_mod (pe_op op_mod (pe_callTy call_int1 (by rfl) m_int boot_int (pa_cons (pv 5) pa_nil)) pe_int) (pv 2)))) (pss_nil))
      (pss_cons (ps_set (i := 6) nd rfl (.inl rfl) (pe_op op_mod (pe_callTy call_int1 (by rfl) m_int boot_int (pa_cons (pv 0) pa_nil)) pe_int))
      (pss_one (ps_ret (pe_op op_mod (pe_fn (G_law_draw) (hr.mono (by decide)) (pa_cons (pe_op op_mul (pe_op op_add (pv 6) (pe_op op_mul pe_int (pv 1))) (pe_op op_add (pe_op op_add (pv 6) (pe_op op_mul pe_int (pv 1))) pe_int)) (pa_cons (pe_op op_add (pe_op op_mod (pe_callTy call_int1 (by rfl) m_int boot_int (pa_cons (pv 1) pa_nil)) pe_int) pe_int) (pa_cons pe_int pa_nil)))) (pv 2)))))))), ?_⟩
  refine ⟨_, rfl, .inl ⟨_, rfl, _, _, rfl, rfl, (by show (0 : Int) < 24; decide), _, rfl, by omega, by omega, ?_⟩⟩
  have m0 : 0 ≤ k % 24 := Int.emod_nonneg _ (by omega)
  have m1 : k % 24 < 24 := Int.emod_lt_of_pos _ (by omega)
  refine for_range (fun i σ H' => ∃ y4, σ = [some (.int c), some (.int k), some (.int b), some (.int ((1009 ^ i : Nat) : Int)), y4, none, none] ∧ H' = H) ⟨none, rfl, rfl⟩ ?_ ?_
  · rintro i σ H' hi ⟨y4, rfl, rfl⟩
    refine ⟨_, rfl, _, _, rfl, rfl, .inr (by show _ ∧ _; decide), ?_⟩
    refine ⟨some (.int (0 + (i : Nat))), ?_, rfl⟩
    rw [Nat.pow_succ, Int.natCast_mul]
    rfl
  · rintro σ H' ⟨y4, rfl, rfl⟩
    have hj : (k % 24).toNat < 24 := by omega
    have hp := pow_lt _ hj
    have hp0 : 0 < (1009 ^ (k % 24).toNat : Nat) := Nat.pow_pos (by decide)
    generalize (1009 ^ (k % 24).toNat : Nat) = pw at hp hp0
    refine ⟨_, rfl, _, _, rfl, rfl, (by show _ ∧ _ ∧ _; decide), _, _, rfl, rfl, _, rfl, _, _, rfl, rfl, wide_div (b := 240) (by omega) (by omega) (by decide) (by decide), ?_⟩
    refine ⟨_, rfl, _, _, rfl, rfl, _, rfl, ?_⟩
    refine ite2 (fun _ => ?_) (fun _ => ?_)
    · refine ⟨_, rfl, .inl ⟨_, rfl, _, _, rfl, rfl, (by show (0 : Int) < 1009; decide), _, rfl, _, _, rfl, rfl, hb, ?_⟩⟩
      exact q _ _ (Int.emod_nonneg _ (by omega)) (Int.emod_lt_of_pos _ hb) (Same.refl _)
    · refine ⟨_, rfl, .inl ⟨_, rfl, _, _, rfl, rfl, (by show (0 : Int) < 1000003; decide), ?_⟩⟩
      have s0 : 0 ≤ c % 1000003 := Int.emod_nonneg _ (by omega)
      have s1 : c % 1000003 < 1000003 := Int.emod_lt_of_pos _ (by omega)
      refine ⟨_, rfl, _, rfl, _, _, rfl, rfl, .inl (by show _ ∧ _; decide), _, _, rfl, rfl, ?_⟩
      refine ⟨_, rfl, _, rfl, _, _, rfl, rfl, .inl (by show _ ∧ _; decide), _, _, rfl, rfl, _, _, rfl, rfl, _, _, rfl, rfl, .inl (by show _ ∧ _; omega), ?_⟩
      refine ⟨_, rfl, .inl ⟨_, rfl, _, _, rfl, rfl, (by show (0 : Int) < 9; decide), _, _, rfl, rfl, _, _, _, rfl, by decide, fun r H2 r0 r1 sm => ?_⟩⟩
      refine ⟨_, rfl, _, _, rfl, rfl, hb, ?_⟩
      exact q _ _ (Int.emod_nonneg _ (by omega)) (Int.emod_lt_of_pos _ hb) sm
/-- the three things of a draw: the script's first cells, where it begins, how many were drawn -/
structure DrawAt (H : Hp) (d s : Addr) (ns : List Int) (n : Int) : Prop where
  at_d : H d = some (.lst [.ref s, .int 0, .int n])
  at_s : H s = some (.lst (ns.map V.int))
  n0 : 0 ≤ n
theorem DrawAt.ne {H : Hp} {d s : Addr} {ns : List Int} {n : Int} (D : DrawAt H d s ns n) : s ≠ d := fun e => by
  have a := D.at_s
  rw [e, D.at_d] at a
  cases ns with
  | nil => cases a
  | cons x r => cases a
theorem DrawAt.keep {H H' : Hp} {d s : Addr} {ns : List Int} {n : Int} (D : DrawAt H d s ns n) (h : Same H H') : DrawAt H' d s ns n := ⟨h _ _ D.at_d, h _ _ D.at_s, D.n0⟩
def spNext : Sp := fun vs H Q _ => ∃ (d s : Addr) (ns : List Int) (n b : Int), vs = [.ref d, .int b] ∧ DrawAt H d s ns n ∧ 0 < b ∧ ∀ (r : Int) (H' : Hp), 0 ≤ r → r < b → But d H H' → DrawAt H' d s ns (n + 1) → Q (.int r) H'
theorem sc_next : FnScope ["draw", "bound", "at", "cell"] ["draw", "bound"] (defScope sNext) := ⟨rfl, rfl, rfl, by decide +kernel, rfl, by decide +kernel, by decide +kernel⟩
theorem ok_next {f : Addr} {fd : FuncData} (F : Fun K "_law_next" "_law_next" sNext f fd) (m_int : mg "int" = none) (G_law_cell_at : Ready P w K mg base 1 "_law_cell_at" ["script", "k"] (spCell K)) (G_law_number : Ready P w K mg base 2 "_law_number" ["cell", "k", "bound"] spNumb) :
    FnOk P w K mg base CX0 3 f fd ["draw", "bound"] spNext := by
  refine F.ok sc_next (fun vs H Q E h => ?_) (fun cdv A outer s H vs Q E hr h => ?_)
  · obtain ⟨d, s, ns, n, b, rfl, _⟩ := h
    rfl
  obtain ⟨d, s, ns, n, b, rfl, D, hb, q⟩ := h
  have nd := sc_next.nd
  refine ⟨_, pss_cons (ps_asg (pe_op op_add (pe_ix ix_list (pv 0) pe_int (fun _ _ => rfl)) pe_int) (pg_sub (pv 0) pe_int set_list))
      (pss_cons (ps_set (i := 2) nd rfl (.inl rfl) (pe_op op_fdiv (pe_ix ix_list (pv 0) pe_int (fun _ _ => rfl)) pe_int))
      (pss_cons (ps_set (i := 3) nd rfl (.inl rfl) (pe_op op_add (pe_fn (G_law_cell_at) (hr.mono (by decide)) (pa_cons (pe_ix ix_list (pv 0) pe_int (fun _ _ => rfl)) (pa_cons (pe_op op_add (pe_ix ix_list (pv 0) pe_int (fun _ _ => rfl)) (pv 2)) pa_nil))) (pe_op op_mul pe_int (pv 2))))
      (pss_one (ps_ret (pe_fn (G_law_number) (hr.mono (by decide)) (pa_cons (pv 3) (pa_cons (pe_op op_add (pe_op op_mod (pe_callTy call_int1 (by rfl) m_int boot_int (pa_cons (pe_ix ix_list (pv 0) pe_int (fun _ _ => rfl)) pa_nil)) pe_int) pe_int) (pa_cons (pv 1) pa_nil)))))))), ?_⟩
  refine ⟨_, rfl, d, _, 2, _, rfl, rfl, SqL.of D.at_d, rfl, _, _, rfl, rfl, _, rfl, d, _, _, _, rfl, rfl, D.at_d, rfl, ?_⟩
  have D1 : DrawAt (upd H d (.lst [.ref s, .int 0, .int (n + 1)])) d s ns (n + 1) := ⟨upd_same, by rw [upd_ne D.ne]; exact D.at_s, by have := D.n0; omega⟩
  have b1 : But d H (upd H d (.lst [.ref s, .int 0, .int (n + 1)])) := fun c o hc e => by rw [upd_ne hc]; exact e
  have n0 := D1.n0
  refine ⟨_, rfl, d, _, 2, _, rfl, rfl, SqL.of D1.at_d, rfl, _, _, rfl, rfl, (by show _ ∧ _; decide), ?_⟩
  refine ⟨_, rfl, d, _, 0, _, rfl, rfl, SqL.of D1.at_d, rfl, _, rfl, d, _, 1, _, rfl, rfl, SqL.of D1.at_d, rfl, _, rfl, _, _, rfl, rfl, s, ns, _, rfl, SqL.of D1.at_s, by omega, fun c => ?_⟩
  refine ⟨_, rfl, _, _, rfl, rfl, .inl (by show _ ∧ _; decide), _, _, rfl, rfl, ?_⟩
  refine ⟨_, rfl, _, rfl, d, _, 2, _, rfl, rfl, SqL.of D1.at_d, rfl, .inl ⟨_, rfl, _, _, rfl, rfl, (by show (0 : Int) < 12; decide), _, _, rfl, rfl, _, rfl, ?_⟩⟩
  refine ⟨_, _, _, rfl, by omega, by omega, hb, fun r H' r0 r1 sm => ?_⟩
  exact q r H' r0 r1 (b1.trans (same_but sm)) (D1.keep sm)
/-- a list or a tuple of values -/
def Seq (K : PySem.W.Frag) (H : Hp) (a : Addr) (xs : List V) : Prop := SqL K H a xs ∨ SqT K H a xs
theorem nth {xs : List V} {r : Int} (h0 : 0 ≤ r) (h1 : r < (xs.length : Int)) : ∃ v, v ∈ xs ∧ atI xs r = some v := by
  have er : r = ((r.toNat : Nat) : Int) := by omega
  have hk : r.toNat < xs.length := by omega
  have q : atI xs ((r.toNat : Nat) : Int) = some xs[r.toNat] := atI_nat (List.getElem?_eq_getElem hk)
  rw [← er] at q
  exact ⟨_, List.getElem_mem hk, q⟩
theorem But.sqT {H H' : Hp} {d a : Addr} {xs : List V} (h : But d H H') (hd : ∃ l, H d = some (.lst l)) (q : SqT K H a xs) : SqT K H' a xs := by
  rcases q with (q | ⟨o, q⟩) | q
  · refine .inl (.inl (h _ _ (fun e => ?_) q))
    obtain ⟨l, hl⟩ := hd
    rw [e, hl] at q
    cases q
  · refine .inl (.inr ⟨o, h _ _ (fun e => ?_) q⟩)
    obtain ⟨l, hl⟩ := hd
    rw [e, hl] at q
    cases q
  · exact .inr q
def spPick (K : PySem.W.Frag) : Sp := fun vs H Q _ => ∃ (d s t : Addr) (ns : List Int) (n : Int) (xs : List V), vs = [.ref d, .ref t] ∧ DrawAt H d s ns n ∧ t ≠ d ∧ Seq K H t xs ∧ xs ≠ [] ∧ ∀ (v : V) (H' : Hp), v ∈ xs → But d H H' → DrawAt H' d s ns (n + 1) → Q v H'
theorem sc_pick : FnScope ["draw", "things"] ["draw", "things"] (defScope sPick) := ⟨rfl, rfl, rfl, by decide +kernel, rfl, by decide +kernel, by decide +kernel⟩
theorem But.seq {H H' : Hp} {d a : Addr} {xs : List V} (h : But d H H') (hd : a ≠ d) (q : Seq K H a xs) : Seq K H' a xs := by
  rcases q with ((q | ⟨o, q⟩) | q) | ((q | ⟨o, q⟩) | q)
  · exact .inl (.inl (.inl (h _ _ hd q)))
  · exact .inl (.inl (.inr ⟨o, h _ _ hd q⟩))
  · exact .inl (.inr q)
  · exact .inr (.inl (.inl (h _ _ hd q)))
  · exact .inr (.inl (.inr ⟨o, h _ _ hd q⟩))
  · exact .inr (.inr q)
theorem ok_pick {f : Addr} {fd : FuncData} (F : Fun K "_law_pick" "_law_pick" sPick f fd) (m_len : mg "len" = none) (G_law_next : Ready P w K mg base 3 "_law_next" ["draw", "bound"] spNext) :
    FnOk P w K mg base CX0 4 f fd ["draw", "things"] (spPick K) := by
  refine F.ok sc_pick (fun vs H Q E h => ?_) (fun cdv A outer s H vs Q E hr h => ?_)
  · obtain ⟨d, s, t, ns, n, xs, rfl, _⟩ := h
    rfl
  obtain ⟨d, s, t, ns, n, xs, rfl, D, td, hS, hne, q⟩ := h
  have nd := sc_pick.nd
  refine ⟨_, pss_one (ps_ret (pe_ix ix_seq (pv 1) (pe_fn (G_law_next) (hr.mono (by decide)) (pa_cons (pv 0) (pa_cons (pe_callB call_len_seq (by rfl) m_len PySem.boot_len (pa_cons (pv 1) pa_nil)) pa_nil))) (fun _ _ => rfl))), ?_⟩
  have hl : 0 < (xs.length : Int) := by
    have := List.length_pos_iff.mpr hne
    omega
  refine ⟨_, rfl, _, rfl, _, rfl, t, xs, rfl, hS, d, s, ns, n, _, rfl, D, hl, fun r H' r0 r1 bt D' => ?_⟩
  obtain ⟨v, hv, hat⟩ := nth r0 r1
  rcases bt.seq td hS with hL | hT
  · exact .inl ⟨t, xs, _, _, rfl, rfl, hL, hat, q _ _ hv bt D'⟩
  · exact .inr (.inl ⟨t, xs, _, _, rfl, rfl, hT, hat, q _ _ hv bt D'⟩)
end
end Kx

namespace PySem
namespace BadY
open PySem.W PySem.Calls PyProof.Rows PySem.HandSPX
/-! ### self.thing = v on an exception that has no dict yet -/
abbrev exT : List Value := [.type "Exception", .type "BaseException", .type "object"]
section
open Builtin Builtin.ObjectAttr
variable {prog : Program} {w : World} {A : Around} {R : Result → Shared → Prop} {hp : Heap} {g : Array GenState} {d : Drawn} {t : Nat} {os : OsState}
theorem osa_first {K : Frag} {name : Str} {tk : Tok} {v : Value} {x C : Addr} {fv : Array Value} {cd : ClassData} {bm : List Value}
    (X : K.In hp) (ho : hp.get? x = some { cls := .ref C, data := .fields fv }) (hc : clsIn K C = some cd) (ht : excTail exT bm = true) (hm : cd.mro = .ref C :: bm) (hh : cd.hasDict = true) (hn : findIn K (.ref C) name = some none)
    (q : ∀ h' tk' dx, (∀ b o, b ≠ x → hp.get? b = some o → h'.get? b = some o) → hp.objs.size ≤ dx → dx ≠ x → h'.get? x = some { cls := .ref C, dict := some dx, data := .fields fv } → h'.Ns1 dx (fun y => if y = name then some v else none) → R (.ok (.ret .none)) ⟨h', g, d, tk', os⟩) :
    codeAny (model prog w) A (.call (.builtin "object.__setattr__") ⟨[.ref x, .str name tk, v], []⟩) R ⟨hp, g, d, t, os⟩ := by
  have over : excOver K C exT = true := by
    unfold excOver
    rw [hc]
    show (match cd.mro with | .ref C' :: bm => C' == C && excTail exT bm | _ => false) = true
    rw [hm]
    show (C == C && excTail exT bm) = true
    rw [ht, beq_self_eq_true] <;> rfl
  have free : takerIn K C name = some none := by
    unfold takerIn
    rw [hn] <;> rfl
  have apart : hp.objs.size ≠ x := fun z => absurd (Heap.lt_size ho) (by rw [z]; exact Nat.lt_irrefl _)
  refine osa_openX (s := ⟨hp, g, d, t, os⟩) F.store_Exception X (ox := { cls := .ref C, data := .fields fv }) (od := none) ⟨ho, rfl, rfl, trivial⟩ over free fun b => ?_
  have look : Looks (model prog w) hp (classData C) cd := looks_clsIn X hc
  obtain ⟨c1, c2, c3, c4, c5, c6, c7, c8, c9, c10, c11⟩ := cd
  dsimp only at hh
  subst hh
  show wpAny _ _ (storeInOwnDict (.ref x) (.ref C) (.str name tk) name v b) _ _ _
  unfold storeInOwnDict ownDictForStores
  repeat (first | with_reducible refine look.at ?_ | with_reducible refine wpAny_loadPart_at ho ?_ | with_reducible refine store_in_new ?_ ?_ | wp_step)
  · exact ⟨_, #[], _, (Heap.get?_update_ne _ _ _ _ apart).trans (Heap.get?_push_at rfl rfl), rfl, (by intro e he; simp at he), (fun _ => rfl)⟩
  intro h2 tk2 n2 sb
  have mid : (hp.push { cls := .type "dict", data := .dict #[] }).get? x = some { cls := .ref C, data := .fields fv } := Heap.get?_push_of_some _ ho
  refine q h2 tk2 _ (fun c o hc e => ?_) (Nat.le_refl _) apart ((sb.2 x apart.symm).trans (Heap.get?_update_self _ mid rfl)) n2
  have far : c ≠ hp.objs.size := fun z => absurd (Heap.lt_size e) (by rw [z]; exact Nat.lt_irrefl _)
  rw [sb.2 c far, Heap.get?_update_ne _ _ _ _ hc]
  exact Heap.get?_push_of_some _ e
theorem osa_second {K : Frag} {name : Str} {tk : Tok} {v : Value} {x C dx : Addr} {fv : Array Value} {cd : ClassData} {bm : List Value} {m0 : Str → Option Value} {nl : List Str}
    (X : K.In hp) (ho : hp.get? x = some { cls := .ref C, dict := some dx, data := .fields fv }) (hns : hp.Ns1 dx m0) (hw : Within m0 nl) (hz : nl.length ≤ 1000) (hc : clsIn K C = some cd) (ht : excTail exT bm = true) (hm : cd.mro = .ref C :: bm) (hh : cd.hasDict = true) (hn : findIn K (.ref C) name = some none)
    (q : ∀ h' tk', (∀ b o, b ≠ dx → hp.get? b = some o → h'.get? b = some o) → h'.Ns1 dx (fun y => if y = name then some v else m0 y) → R (.ok (.ret .none)) ⟨h', g, d, tk', os⟩) :
    codeAny (model prog w) A (.call (.builtin "object.__setattr__") ⟨[.ref x, .str name tk, v], []⟩) R ⟨hp, g, d, t, os⟩ := by
  have over : excOver K C exT = true := by
    unfold excOver
    rw [hc]
    show (match cd.mro with | .ref C' :: bm => C' == C && excTail exT bm | _ => false) = true
    rw [hm]
    show (C == C && excTail exT bm) = true
    rw [ht, beq_self_eq_true] <;> rfl
  have free : takerIn K C name = some none := by
    unfold takerIn
    rw [hn] <;> rfl
  obtain ⟨oD, esD, epD, hoD, hdD, _⟩ := hns.count hw
  refine osa_openX (s := ⟨hp, g, d, t, os⟩) F.store_Exception X (ox := { cls := .ref C, dict := some dx, data := .fields fv }) (od := some oD) ⟨ho, rfl, rfl, hoD⟩ over free fun b => ?_
  have look : Looks (model prog w) hp (classData C) cd := looks_clsIn X hc
  obtain ⟨c1, c2, c3, c4, c5, c6, c7, c8, c9, c10, c11⟩ := cd
  dsimp only at hh
  subst hh
  show wpAny _ _ (storeInOwnDict (.ref x) (.ref C) (.str name tk) name v b) _ _ _
  unfold storeInOwnDict ownDictForStores
  repeat (first | with_reducible refine OEX.store_in_old hns hw hz ?_ | with_reducible refine wpAny_loadPart_at ho ?_ | with_reducible refine look.at ?_ | wp_step)
  intro h2 tk2 n2 sb
  exact q h2 tk2 (fun b o hb e => (sb.2 b hb).trans e) n2
end
/-! ### the text of __init__ -/
def iA (p1 p2 p3 : Pos) : Arguments := { posonlyargs := [], args := [{ arg := "self", annotation := none, pos := p1 }, { arg := "line", annotation := none, pos := p2 }, { arg := "column", annotation := none, pos := p3 }], vararg := none, kwonlyargs := [], kw_defaults := [], kwarg := none, defaults := [] }
def iB (q1 q2 q3 q4 q5 q6 q7 q8 : Pos) : List Stmt := [.Assign [.Attribute (.Name "self" q1) "line" q2] (.Name "line" q3) q4, .Assign [.Attribute (.Name "self" q5) "column" q6] (.Name "column" q7) q8]
def iS : Scope := { kind := .function, names := [(PySem.Str.ofString "self", .local), (PySem.Str.ofString "line", .local), (PySem.Str.ofString "column", .local)], isGenerator := false, isCoroutine := false, more := [] }
/-- what the written part says of BadThing, at C, and of its __init__, at fI -/
structure BadTxt (K : Frag) (mg : Str → Option Value) (C fI : Addr) : Prop where
  gC : mg "BadText" = some (.ref C)
  cls : ∃ nm q N bs bm sn sub ab col dd k0 k1 k2 k3 k5, K.lookup C = some (excClassObj nm q C N bs bm true sn sub ab col dd k0 k1 k2 k3 k5 "Exception.__new__") ∧ excTail exT bm = true
  sa : findIn K (.ref C) "__setattr__" = some (some (.builtin "object.__setattr__"))
  ga : findIn K (.ref C) "__getattribute__" = some (some (.builtin "BaseException.__getattribute__"))
  gg : findIn K (.ref C) "__getattr__" = some none
  noN : findIn K (.ref C) "line" = some none
  noW : findIn K (.ref C) "column" = some none
  iC : findIn K (.ref C) "__init__" = some (some (.ref fI))
  tC : typeIn K (.ref fI) = some (.type "function")
  kC : keepIn K (.ref C) = true
  exC : subIn K (.ref C) (.type "BaseException") = some true
  tyC : typeIn K (.ref C) = some (.type "type")
  hdC : hasDictIn K C = true
  te : exmOne K (.ref C) (.ref C) = some true
  fn : ∃ (oc : Value) (od : Option Addr) (doc pm : Value) (an : Option Addr) (cdv ct : Value) (osl : Array (Option Value)) (p1 p2 p3 q1 q2 q3 q4 q5 q6 q7 q8 : Pos),
    K.lookup fI = some ⟨oc, od, .func (fnOf "__init__" "BadText.__init__" (iA p1 p2 p3) (iB q1 q2 q3 q4 q5 q6 q7 q8) iS .none .none doc pm an cdv ct), osl⟩ ∧ codeIn K cdv "BadText.__init__" = true
theorem two_size (v u : Value) : [v, u].length ≤ sizeLine := by
  rw [sizeLine_eq]
  exact (by decide : 2 ≤ 16777216)
theorem kept_but {K : Frag} {h h' : Heap} {x : Addr} (X : K.In h) (hx : K.lookup x = none) (k : ∀ b o, b ≠ x → h.get? b = some o → h'.get? b = some o) : K.In h' := fun a o e =>
  k a o (fun z => by rw [z, hx] at e; cases e) (X a o e)
theorem ldC {M : Model} {s : Shared} {name : Str} {scope : Scope} {L a : Addr} {cd : Value} {m : Str → Option Value} {x : Str} {pos : Pos} {v : Value} {Q : Value → Shared → Prop} {A : Around} {E : Value → Shared → Prop} (hn : s.heap.Ns L m) (hv : m x = some v) (h : Q v s)
    (hk : scope.kind = .function := by rfl) (hl : (envOfC name scope L a cd).kindOf x = some .local := by rfl) (hd : (x == ("__debug__" : Str)) = false := by decide) :
    wpAny M A (eval (.Name x pos) (envOfC name scope L a cd)) Q E s := wpAny_Name (wpAny_loadName_local hk hl hn hv h) hd
/-- what __init__ leaves of a fresh exception at x -/
structure InitEnd (h h' : Heap) (x C dx t1 : Addr) (v u : Value) : Prop where
  keep : ∀ b o, b ≠ x → h.get? b = some o → h'.get? b = some o
  obj : h'.get? x = some { cls := .ref C, dict := some dx, data := .fields #[.ref t1, .none, .none, .none, .bool false, .none] }
  dbig : h.objs.size ≤ dx
  dne : dx ≠ x
  ns : h'.Ns1 dx (fun y => if y = "column" then some u else if y = "line" then some v else none)
/-- a made BadThing -/
structure OwnMade (h h' : Heap) (e C d : Addr) (v u : Value) : Prop where
  keep : ∀ b o, h.get? b = some o → h'.get? b = some o
  new : h.objs.size ≤ e
  obj : ∃ oe vs, h'.get? e = some oe ∧ oe.cls = .ref C ∧ oe.dict = some d ∧ oe.data = .fields vs ∧ vs[1]? = some .none
  dbig : h.objs.size ≤ d
  dne : d ≠ e
  ns : h'.Ns1 d (fun y => if y = "column" then some u else if y = "line" then some v else none)
section
variable {prog : Program} {w : World} {A : Around} {E : Value → Shared → Prop} {R : Result → Shared → Prop} {s : Shared} {K : Frag} {mg : Str → Option Value} {C fI : Addr}
theorem within_one {v : Value} : Within (fun y => if y = ("line" : Str) then some v else none) ["line"] := fun y hy => by
  by_cases h : y = ("line" : Str)
  · rw [h]
    exact List.mem_cons_self
  · exact absurd (if_neg h) hy
theorem bad_init (T : BadTxt K mg C fI) {x t0 : Addr} {v u : Value} (X : K.In s.heap) (hlim : s.heap.NoLimit) (hx : s.heap.get? x = some (excO C t0)) (hnx : K.lookup x = none) (hroom : A.depth < recursionLimit)
    (hq : ∀ h' tk dx, InitEnd s.heap h' x C dx t0 v u → R (.ok (.ret .none)) { s with heap := h', toks := tk }) :
    codeAny (model prog w) A (.call (.ref fI) ⟨[.ref x, v, u], []⟩) R s := by
  obtain ⟨oc, od, doc, pm, an, cdv, ct, osl, p1, p2, p3, q1, q2, q3, q4, q5, q6, q7, q8, ho, hcd⟩ := T.fn
  obtain ⟨nm, q, N, bs, bm, sn, sub, ab, col, dd, k0, k1, k2, k3, k5, hC, hbm⟩ := T.cls
  have hcl : clsIn K C = some { name := nm, bases := bs, mro := .ref C :: bm, ns := N, qualname := q, hasDict := true, slotNames := sn, subclasses := sub, abstract := ab, collection := col, hasDel := false } := by unfold clsIn; rw [hC] <;> rfl
  refine Att.call_fn (binds := [("self", .ref x), ("line", v), ("column", u)]) X hlim ho hcd hroom (BindsTo.of_eq (by first | rfl | with_unfolding_all rfl)) (by first | rfl | decide | with_unfolding_all rfl) (fun s₁ IC => ?_) rfl rfl rfl
  obtain ⟨h₁, tk₁, rfl⟩ := IC.toInCall.same
  have k : ∀ b o, s.heap.get? b = some o → h₁.get? b = some o := IC.toInCall.keep
  have hn := IC.toInCall.ns
  have hxL : s.heap.objs.size ≠ x := Nat.ne_of_gt (Heap.lt_size hx)
  have X₁ : K.In h₁ := X.keeps k
  have hx₁ := k _ _ hx
  -- self.by = by
  show wpAny _ _ (execs _ _) _ _ _
  refine wpAny_execs_cons (plainObj_wpAny_Assign_Attribute ?_)
  refine ldC (v := v) hn (by first | rfl | with_unfolding_all rfl | kernel_rfl) (ldC (v := .ref x) hn (by first | rfl | with_unfolding_all rfl | kernel_rfl) ?_)
  refine set_plain X₁ (ox := excO C t0) (od := none) ⟨hx₁, rfl, rfl, trivial⟩ T.sa ?_
  refine osa_first X₁ hx₁ hcl (show excTail exT bm = true from hbm) rfl rfl T.noN (fun h₃ tk₃ dx k₃ dn dne hx₃ hn₃ => ?_)
  have xL : s.heap.objs.size ≠ x := hxL
  have z : s.heap.objs.size < h₁.objs.size := hn.lt
  have X₃ : K.In h₃ := kept_but X₁ hnx k₃
  have hn₃' := hn.at fun o e => k₃ _ o xL e
  -- self.why = why
  show wpAny _ _ (execs _ _) _ _ _
  refine wpAny_execs_cons (plainObj_wpAny_Assign_Attribute ?_)
  refine ldC (v := u) hn₃' (by first | rfl | with_unfolding_all rfl | kernel_rfl) (ldC (v := .ref x) hn₃' (by first | rfl | with_unfolding_all rfl | kernel_rfl) ?_)
  have cnt : Within (fun y => if y = "line" then some v else none) ["line"] := within_one
  obtain ⟨oD, esD, epD, hoD, hdD, _⟩ := hn₃.count cnt
  refine set_plain X₃ (ox := { cls := .ref C, dict := some dx, data := .fields #[.ref t0, .none, .none, .none, .bool false, .none] }) (od := some oD) ⟨hx₃, rfl, rfl, hoD⟩ T.sa ?_
  refine osa_second X₃ hx₃ hn₃ cnt (by decide) hcl (show excTail exT bm = true from hbm) rfl rfl T.noW (fun h₄ tk₄ k₄ hn₄ => ?_)
  show wpAny _ _ (execs _ _) _ _ _
  have hdx : s.heap.objs.size ≤ dx := Nat.le_of_lt (Nat.lt_of_lt_of_le z dn)
  exact wpAny_execs_nil (hq h₄ tk₄ dx ⟨fun b o hb e => k₄ b o (Nat.ne_of_lt (Nat.lt_of_lt_of_le (Heap.lt_size e) hdx)) (k₃ b o hb (k b o e)), k₄ _ _ (Ne.symm dne) hx₃, hdx, dne, hn₄⟩)
theorem bad_made (T : BadTxt K mg C fI) {v u : Value} (X : K.In s.heap) (hlim : s.heap.NoLimit) (hroom : A.depth + 1 < recursionLimit)
    (hq : ∀ h' tk e d, OwnMade s.heap h' e C d v u → R (.ok (.ret (.ref e))) { s with heap := h', toks := tk }) :
    codeAny (model prog w) A (.call (.ref C) ⟨[v, u], []⟩) R s := by
  obtain ⟨nm, q, N, bs, bm, sn, sub, ab, col, dd, k0, k1, k2, k3, k5, hC, hbm⟩ := T.cls
  obtain ⟨hp, g, dr, tk, os⟩ := s
  have k : ∀ b o, hp.get? b = some o → ((hp.push (kdv_tup [v, u])).push (excO C hp.objs.size)).get? b = some o := fun b o e => Heap.get?_push_of_some _ (Heap.get?_push_of_some _ e)
  have hget : ((hp.push (kdv_tup [v, u])).push (excO C hp.objs.size)).get? (hp.objs.size + 1) = some (excO C hp.objs.size) := by heap_get
  have hnx : K.lookup (hp.objs.size + 1) = none := by
    cases e : K.lookup (hp.objs.size + 1) with
    | none => rfl
    | some o =>
      have z : hp.get? (hp.objs.size + 1) = some o := X _ _ e
      exact absurd (Nat.lt_of_succ_lt (Heap.lt_size z)) (Nat.lt_irrefl _)
  refine call_own F.excBase_Exception (fun X => excTail_contains X bm hbm) (X _ _ hC) (looks_findIn X T.iC) (fun self => bind_fn X self T.tC) (two_size v u) ?_
  refine bad_init (s := ⟨(hp.push (kdv_tup [v, u])).push (excO C hp.objs.size), g, dr, tk, os⟩) T (X.keeps k) (hlim.keeps k) hget hnx ?_ fun h' tk' dx ⟨k', hx, dn, dne, hns⟩ => ?_
  · show A.depth + 1 < recursionLimit
    exact hroom
  · have old : ∀ b o, hp.get? b = some o → h'.get? b = some o := fun b o e => k' b o (Nat.ne_of_lt (Nat.lt_succ_of_lt (Heap.lt_size e))) (k b o e)
    have z : hp.objs.size + 1 + 1 ≤ dx := by
      first
        | (simpa only [Heap.size_push] using dn)
        | exact dn
        | (have q := dn; rw [Heap.size_push, Heap.size_push] at q; exact q)
    exact ⟨rfl, hq h' tk' (hp.objs.size + 1) dx ⟨old, Nat.le_succ _, ⟨_, _, hx, rfl, rfl, rfl, rfl⟩, Nat.le_trans (Nat.le_trans (Nat.le_succ _) (Nat.le_succ _)) z, dne, hns⟩⟩
end
end BadY
end PySem
namespace Kx
open PySem PySem.Spec PyProof.Rows L2
theorem relO_bad {v u : V} {v' u' : Value} (r : RelV v v') (ru : RelV u u') (f : Str) : RelO (List.lookup f [(("line" : Str), v), ("column", u)]) (if f = "column" then some u' else if f = "line" then some v' else none) := by
  by_cases hw : f = "column"
  · subst hw
    rw [if_pos rfl]
    exact ru
  · rw [if_neg hw]
    by_cases hn : f = "line"
    · subst hn
      rw [if_pos rfl]
      exact r
    · rw [if_neg hn]
      have q1 : (f == ("line" : Str)) = false := by simpa using hn
      have q2 : (f == ("column" : Str)) = false := by simpa using hw
      have q3 : List.lookup f [(("line" : Str), v), ("column", u)] = none := by simp [List.lookup, q1, q2]
      rw [q3]
      trivial
section
variable {X : Cx} {C fI : Addr}
/-- BadText(e, f) -/
def tMkBad2 (C : Addr) (ta : TA) : L2.St → Hp → XK → Prop := fun σ H Q => ta σ H fun vs H1 => ∃ v u, vs = [v, u] ∧ ∀ d, H1 d = none → Q (.ref C) (some d) (upd H1 d (.xd [(("line" : Str), v), ("column", u)]))
theorem pmk_bad2 {a b : Expr} {ta : TA} {p pos : Pos} {k : Nat} (T : PySem.BadY.BadTxt X.K X.mg C fI) (hr : Room k X.A) (ha : PA X [a, b] ta) (hg : Gl X "BadText" := by rfl)
    (he : starEach (a :: [b]) X.env = (false, eval a X.env) :: starEach [b] X.env := by rfl) (hpl : (backTo pos (starEach [b] X.env)).any (·.1) = false := by rfl) :
    PMk X (.Call (.Name "BadText" p) [a, b] [] pos) (tMkBad2 C ta) := by
  intro pins s σ H Q I h
  refine wpAny_Call_Name_kw (ld_glob I hg T.gC ?_)
  refine PySem.W.callWith_K (h₀ := X.base) I.ok.mod.kin T.kC (thn (ha.run pos pins s σ H _ I h) fun us s1 hh => ?_) he hpl
  obtain ⟨vs, H1, I1, r1, v, u, ev, q1⟩ := hh
  subst ev
  refine ⟨I1.kIn, ?_⟩
  cases r1 with
  | cons rv rn =>
    rename_i v' us'
    cases rn with
    | cons ru rn =>
      rename_i u' us2
      cases rn
      show wpAny _ _ (call (.ref C) [v', u']) _ _ _
      have hlim := I1.nolimit
      obtain ⟨hp, g, dr, tk, os⟩ := s1
      refine wpAny_call (PySem.BadY.bad_made T I1.kIn hlim (by have := hr.dp; omega) fun h' tk' e d M => ?_)
      show MkP X pins σ Q (.ref e) ⟨h', g, dr, tk', os⟩
      obtain ⟨oe, fv, hoe, hc, hd, hdat, h1⟩ := M.obj
      have hns := M.ns
      obtain ⟨G', g1, g2⟩ := restrict h' fun b => decide (b ≠ e)
      have gk : ∀ b, b ≠ e → G'.get? b = h'.get? b := fun b hb => g1 b (decide_eq_true hb)
      have ge : G'.get? e = none := g2 e (by simp)
      have old : ∀ b o, hp.get? b = some o → G'.get? b = some o := fun b o q => (gk b (Nat.ne_of_lt (Nat.lt_of_lt_of_le (Heap.lt_size q) M.new))).trans (M.keep b o q)
      have ob : ObjOk X.prog X.w (upd H1 d (.xd [(("line" : Str), v), ("column", u)])) G' d (.xd [(("line" : Str), v), ("column", u)]) :=
        ⟨_, hns.at (fun o q => (gk d M.dne).trans q), fun f => relO_bad rv ru f⟩
      have J : Inv X pins σ (upd H1 d (.xd [(("line" : Str), v), ("column", u)])) ⟨G', g, dr, tk', os⟩ := I1.laid (t' := tk') old M.dbig ob
      refine ⟨e, oe, fv, ⟨G', g, dr, tk', os⟩, _, .ref C, some d, rfl, J, fun b o q => ?_, ge, hoe, ⟨hc, hd⟩, hdat, h1, ?_, rfl, I1.bare, raises_own T.exC T.tyC, q1 d (I1.hok.fresh M.dbig)⟩
      · by_cases hb : b = e
        · have q' : G'.get? b = some o := q
          rw [hb, ge] at q'; cases q'
        · exact (gk b hb).symm.trans q
      · rw [upd_ne (Ne.symm M.dne)]
        exact I1.hok.fresh M.new
/-- raise BadText(e, f) -/
def tRaiseBad2 (C : Addr) (W : WX) (ta : TA) : TS := fun _ σ H => tMkBad2 C ta σ H fun cls d H' => W cls d σ H'
theorem ps_raiseBad2 {a b : Expr} {ta : TA} {W : WX} {p pos pos2 : Pos} {k : Nat} (hc : X.calm = true) (T : PySem.BadY.BadTxt X.K X.mg C fI) (hr : Room k X.A) (tk : Takes X W) (ha : PA X [a, b] ta) (hg : Gl X "BadText" := by rfl)
    (he : starEach (a :: [b]) X.env = (false, eval a X.env) :: starEach [b] X.env := by rfl) (hpl : (backTo pos (starEach [b] X.env)).any (·.1) = false := by rfl) :
    PS X (.Raise (some (.Call (.Name "BadText" p) [a, b] [] pos)) none pos2) (tRaiseBad2 C W ta) := ps_raise hc tk (pmk_bad2 T hr ha hg he hpl)
/-- error.name, low the exception that the suite holds (at a; its class cls, its dict d) -/
def tByName (C : Addr) (a : Addr) (cls : Value) (d : Option Addr) (te : TE) : TE := fun σ H Q => te σ H fun x H1 => x = .ref a ∧ cls = .ref C ∧ ∃ (dd : Addr) (v u : V), d = some dd ∧ H1 dd = some (.xd [(("line" : Str), v), ("column", u)]) ∧ Q v H1
theorem pe_byName {a : Addr} {oe : Obj} {cls : Value} {d : Option Addr} {pn : List (Addr × Obj)} {e : Expr} {te : TE} {pos : Pos} (T : PySem.BadY.BadTxt X.K X.mg C fI) (hz : Zc cls d oe) (hf : ∃ vs, oe.data = .fields vs) (he : PE (X.suite a ((a, oe) :: pn)) e te)
    (hb : attributeBase e "line" X.env (eval e X.env) = eval e X.env := by rfl) :
    PE (X.suite a ((a, oe) :: pn)) (.Attribute e "line" pos) (tByName C a cls d te) := by
  refine ⟨fun pins s σ H Q I h => ?_⟩
  refine attr_of hb (thn (he.run pins s σ H _ I h) fun ue s1 hh => ?_)
  obtain ⟨x, H1, I1, rx, ex, ec, dd, v, u, ed, ea, q⟩ := hh
  subst ex
  obtain rfl : ue = Value.ref a := rx
  subst ec
  subst ed
  obtain ⟨ha, _⟩ := I1.pin (a, oe) (List.mem_append_left _ List.mem_cons_self)
  obtain ⟨vs, hd⟩ := hf
  have hx : ObjOk X.prog X.w H1 s1.heap dd (.xd [(("line" : Str), v), ("column", u)]) := I1.hok dd _ ea
  obtain ⟨mA, hns, hr⟩ := hx
  obtain ⟨od, ho, hl⟩ := lookIn_ns hns
  have l : List.lookup ("line" : Str) [(("line" : Str), v), ("column", u)] = some v := by simp [List.lookup]
  obtain ⟨u1, hu, ru⟩ := RelO.some_of (v := v) (o := mA "line") (by rw [← l]; exact hr "line")
  have J : PySem.W.InstAt s1.heap a oe C (some od) := ⟨ha, hz.1, by unfold PySem.W.notCls; rw [hd] <;> rfl, by rw [hz.2]; exact ho⟩
  exact HandSPX.exc_get I1.kIn J T.ga T.gg T.exC (PySem.W.findObj_own T.hdC T.noN rfl (by rw [hl, hu])) (handed_of ru) ⟨v, H1, I1.tok _, ru, q⟩
/-- error.name, low the exception that the suite holds (at a; its class cls, its dict d) -/
def tByColumn (C : Addr) (a : Addr) (cls : Value) (d : Option Addr) (te : TE) : TE := fun σ H Q => te σ H fun x H1 => x = .ref a ∧ cls = .ref C ∧ ∃ (dd : Addr) (v u : V), d = some dd ∧ H1 dd = some (.xd [(("line" : Str), v), ("column", u)]) ∧ Q u H1
theorem pe_byColumn {a : Addr} {oe : Obj} {cls : Value} {d : Option Addr} {pn : List (Addr × Obj)} {e : Expr} {te : TE} {pos : Pos} (T : PySem.BadY.BadTxt X.K X.mg C fI) (hz : Zc cls d oe) (hf : ∃ vs, oe.data = .fields vs) (he : PE (X.suite a ((a, oe) :: pn)) e te)
    (hb : attributeBase e "column" X.env (eval e X.env) = eval e X.env := by rfl) :
    PE (X.suite a ((a, oe) :: pn)) (.Attribute e "column" pos) (tByColumn C a cls d te) := by
  refine ⟨fun pins s σ H Q I h => ?_⟩
  refine attr_of hb (thn (he.run pins s σ H _ I h) fun ue s1 hh => ?_)
  obtain ⟨x, H1, I1, rx, ex, ec, dd, v, u, ed, ea, q⟩ := hh
  subst ex
  obtain rfl : ue = Value.ref a := rx
  subst ec
  subst ed
  obtain ⟨ha, _⟩ := I1.pin (a, oe) (List.mem_append_left _ List.mem_cons_self)
  obtain ⟨vs, hd⟩ := hf
  have hx : ObjOk X.prog X.w H1 s1.heap dd (.xd [(("line" : Str), v), ("column", u)]) := I1.hok dd _ ea
  obtain ⟨mA, hns, hr⟩ := hx
  obtain ⟨od, ho, hl⟩ := lookIn_ns hns
  have l : List.lookup ("column" : Str) [(("line" : Str), v), ("column", u)] = some u := by
    have q1 : (("column" : Str) == ("line" : Str)) = false := by decide +kernel
    simp [List.lookup, q1]
  obtain ⟨u1, hu, ru⟩ := RelO.some_of (v := u) (o := mA "column") (by rw [← l]; exact hr "column")
  have J : PySem.W.InstAt s1.heap a oe C (some od) := ⟨ha, hz.1, by unfold PySem.W.notCls; rw [hd] <;> rfl, by rw [hz.2]; exact ho⟩
  exact HandSPX.exc_get I1.kIn J T.ga T.gg T.exC (PySem.W.findObj_own T.hdC T.noW rfl (by rw [hl, hu])) (handed_of ru) ⟨u, H1, I1.tok _, ru, q⟩
end
end Kx


namespace Kx
open PySem PySem.Spec PyProof.Rows L2
/-! ### try: .. except C as n: .. else: .., every error of the body being C's -/
/-- behind the suite the name is gone -/
def bare (D : Ends) (i : Nat) : Ends := { nx := fun τ G => D.nx (τ.set i none) G, rt := D.rt, bk := fun τ G => D.bk (τ.set i none) G, ct := fun τ G => D.ct (τ.set i none) G }
def wAll (K : PySem.W.Frag) (c : Value) (i : Nat) (ts : Addr → Value → Option Addr → TS) (D : Ends) : WX := fun cls d σ H => PySem.W.exmOne K cls c = some true ∧ ∀ a, H a = none → ts a cls d (bare D i) (σ.set i (some (.ref a))) H
section
variable {X : Cx} {x n : Str} {c : Value} {i : Nat} {body suite orelse : List Stmt} {b₀ : Stmt} {np pos pos' : Pos} {tb : WX → TS} {ts : Addr → Value → Option Addr → TS} {u : TS}
/-- an object of an exception is no frame's -/
theorem no_frame {B h : Heap} {l : List Env} {a : Addr} {o : Obj} {vs : Array Value} (F : h.FunFrames B l) (e : h.get? a = some o) (k : o.data = .fields vs) : a ∉ frs l := fun m => by
  obtain ⟨_, o2, e2, no⟩ := F.mem m
  rw [e] at e2
  cases e2
  exact no _ k
theorem ps_try_asE (ho : PSs X orelse u) (hst : X.stack = X.env :: X.outer) (hfl : X.env.frame = some X.env.locals) (hnd : X.N.Nodup) (hix : X.N[i]? = some n) (hlc : X.env.kindOf n = some .local) (hnm : Names X x c)
    (hbd : ∀ (W : WX) (pn : List (Addr × Obj)) (xe : Value → Shared → Prop), Takes (X.tr pn xe) W → PassesOwn (model X.prog X.w) X.A X.env xe → PSs (X.tr pn xe) body (tb W))
    (hsu : ∀ (a : Addr) (oe : Obj) (cls : Value) (d : Option Addr) (pn : List (Addr × Obj)), Zc cls d oe → (∃ vs, oe.data = .fields vs) → PSs (X.suite a ((a, oe) :: pn)) (b₀ :: suite) (ts a cls d)) :
    PS X (.Try body [.ExceptHandler (some (.Name x np)) (some n) (b₀ :: suite) pos'] orelse [] pos) (fun D σ H => tb (wAll X.K c i ts D) { D with nx := u D } σ H) := by
  constructor
  intro pins s σ H D I h
  have okX := I.ok
  have frames : X.A.frames = some (X.env :: X.outer) := okX.frames.trans (congrArg some hst)
  -- what is done with an error of the body
  let land : Value → Shared → Prop := fun e t1 => wpAny (model X.prog X.w) X.A (noteFrame e X.env) (fun _ t2 => wpAny (model X.prog X.w) X.A (setFlight e none) (fun _ t3 =>
    wpAny (model X.prog X.w) X.A (handleBy e X.env [.ExceptHandler (some (.Name x np)) (some n) (b₀ :: suite) pos']) (SP X pins D) X.xe t3) X.xe t2) X.xe t1
  have caught : Takes (X.tr (X.pn ++ pins) land) (wAll X.K c i ts D) := by
    rintro e t ⟨a, B, sI, ps, τ, G, cls, d, rfl, J0, nb, up, sky, na, os, ag, isC, go⟩
    have J := J0.ofTry okX
    have sky2 : Sky B (X.env :: X.outer) a (Zc cls d) X.env.locals t.heap := hst ▸ sky
    refine Sky.land Zc.steady frames hfl sky2 fun g1 f1 u1 => ?_
    have J1 : Inv X pins τ G { t with heap := g1 } := J.landed nb f1.1 (up.trans u1) os ag
    obtain ⟨o1, v1, e1, z1', d1⟩ := f1.there
    have far := no_frame f1.2.2.1 e1 d1
    have farL : a ≠ X.env.locals := fun z => far (List.mem_filterMap.mpr ⟨X.env, List.mem_cons_self, hfl.trans (congrArg some z.symm)⟩)
    have farF : a ∉ X.fs := fun m => by
      obtain ⟨y, hy, k⟩ := List.mem_filterMap.mp m
      exact far (List.mem_filterMap.mpr ⟨y, List.mem_cons_of_mem _ hy, k⟩)
    have S1 := J1.suite e1 d1 na farL farF
    have kind : PySem.W.Looks (model X.prog X.w) g1 (typeOf (.ref a)) cls := fun A Q E t' k q => wpAny_typeOf_ref (k _ _ e1) (z1'.1 ▸ q)
    have named : ∀ {Q E : Value → Shared → Prop}, Q c { t with heap := g1 } → wpAny (model X.prog X.w) (X.A.mark (some (.ref a))) (eval (.Name x np) X.env) Q E { t with heap := g1 } := fun {Q E} q => by
      rcases hnm with ⟨gl, nod, own | ⟨non, bt, nn⟩⟩
      · exact ld_glob (X := X.suite a ((a, o1) :: (X.pn ++ pins))) S1 gl own q nod
      · exact ld_blt (X := X.suite a ((a, o1) :: (X.pn ++ pins))) S1 gl non bt q nn nod
    refine wpAny_handleBy_cons (codeAny_handlers_test (named ((PySem.W.exm_one (M := model X.prog X.w) J1.kIn kind isC).here ?_))) (by intro z; cases z)
    refine codeAny_handlers_suite_as (HandSPX.lands_againZ f1 fun g2 f2 u2 => ?_)
    have J2 : Inv X pins τ G { t with heap := g2 } := J.landed nb f2.1 ((up.trans u1).trans u2) os ag
    obtain ⟨o2, v2, e2, z2', d2⟩ := f2.there
    refine store_ok (X := X.suite a ((a, o2) :: (X.pn ++ pins))) (v := .ref a) (J2.suite e2 d2 na farL farF) hnd hix (.inl hlc) rfl (fun t5 I5 => ?_) (.inr hlc)
    refine wpAny_mono ((hsu a o2 cls d (X.pn ++ pins) z2' ⟨_, d2⟩).run [] t5 _ G _ I5 (go a na)) (fun fl t6 r => ?_) fun _ _ z => z.elim
    have drop : ∀ {τ6 : L2.St} {G6 : Hp} {Q : Shared → Prop}, Inv (X.suite a ((a, o2) :: (X.pn ++ pins))) [] τ6 G6 t6 → (∀ t7, Inv X pins (τ6.set i none) G6 t7 → Q t7) →
        wpAny (model X.prog X.w) X.A (do bindName X.env n .none; unbindBehindTheSuite X.env n pos') (fun _ t7 => Q t7) X.xe t6 := fun k q => gone_ok (k.unsuite okX) hnd hix hlc q
    rcases fl with _ | _ | _ | v
    · obtain ⟨τ6, G6, K6, r⟩ := r
      exact drop K6 fun t7 J7 => ⟨_, _, J7, r⟩
    · obtain ⟨τ6, G6, K6, r⟩ := r
      exact drop K6 fun t7 J7 => ⟨_, _, J7, r⟩
    · obtain ⟨τ6, G6, K6, r⟩ := r
      exact drop K6 fun t7 J7 => ⟨_, _, J7, r⟩
    · obtain ⟨w6, τ6, G6, K6, r6, r⟩ := r
      exact drop K6 fun t7 J7 => ⟨_, _, _, J7, r6, r⟩
  refine wpAny_Try_except (wpAny_mono ((hbd _ _ land caught PassesOwn.looking).run [] s σ H { D with nx := u D } (I.toTry _) h) (fun fl t1 r => ?_) fun _ _ z => z)
  rcases fl with _ | _ | _ | v
  · obtain ⟨τ, G, J, r⟩ := r
    exact ho.run pins t1 τ G D (J.ofTry okX) r
  · obtain ⟨τ, G, J, r⟩ := r
    exact ⟨τ, G, J.ofTry okX, r⟩
  · obtain ⟨τ, G, J, r⟩ := r
    exact ⟨τ, G, J.ofTry okX, r⟩
  · obtain ⟨v1, τ, G, J, r1, r⟩ := r
    exact ⟨v1, τ, G, J.ofTry okX, r1, r⟩
end
end Kx

namespace Kx
open PySem PySem.Spec PyProof.Rows L2 TL
/-! ### texts: words, lines, figures -/
def mkS (l : List Nat) : Str := ⟨l.toArray⟩
theorem tl_mkS (l : List Nat) : tl (mkS l) = l := rfl
def wordsOf (z : Str) : List Str := (spl [32] 0 [] (tl z)).map mkS
def linesOf (z : Str) : List Str := (spl [10] 0 [] (tl z)).map mkS
theorem map_mkS (ls : List (List Nat)) : (ls.map mkS).map tl = ls := by
  rw [List.map_map]
  exact (List.map_congr_left fun a _ => rfl).trans (List.map_id ls)
theorem tl_blank : tl (" " : Str) = [32] := by decide +kernel
theorem tl_feed : tl ("\n" : Str) = [10] := by decide +kernel
theorem low_blank : (" " : Str).cps.all (· < 256) = true := by decide +kernel
theorem low_feed : ("\n" : Str).cps.all (· < 256) = true := by decide +kernel
theorem split_words (z : Str) : Txt.split z " " = wordsOf z := by
  refine map_tl_inj ?_
  rw [split_spl _ _ (by rw [tl_blank]; simp) (kind_ok low_blank), tl_blank]
  exact (map_mkS _).symm
theorem split_lines (z : Str) : Txt.split z "\n" = linesOf z := by
  refine map_tl_inj ?_
  rw [split_spl _ _ (by rw [tl_feed]; simp) (kind_ok low_feed), tl_feed]
  exact (map_mkS _).symm
theorem spl_ne (S : List Nat) : ∀ (k : Nat) (acc l : List Nat), spl S k acc l ≠ []
  | k, acc, [] => by cases k <;> simp [spl]
  | 0, acc, c :: r => by
    unfold spl
    split
    · simp
    · exact spl_ne S 0 _ r
  | k + 1, acc, _ :: r => by
    unfold spl
    exact spl_ne S k acc r
theorem wordsOf_ne (z : Str) : wordsOf z ≠ [] := fun e => spl_ne _ _ _ _ (List.map_eq_nil_iff.mp e)
theorem linesOf_ne (z : Str) : linesOf z ≠ [] := fun e => spl_ne _ _ _ _ (List.map_eq_nil_iff.mp e)
theorem spl_sum (s : Nat) : ∀ (acc l : List Nat), ((spl [s] 0 acc l).map List.length).sum + (spl [s] 0 acc l).length = acc.length + l.length + 1
  | acc, [] => by simp [spl]
  | acc, c :: r => by
    unfold spl
    split
    · show acc.length + ((spl [s] 0 [] r).map List.length).sum + ((spl [s] 0 [] r).length + 1) = _
      have := spl_sum s [] r
      simp only [List.length_cons, List.length_nil] at this ⊢
      omega
    · have := spl_sum s (acc ++ [c]) r
      simp only [List.length_append, List.length_cons, List.length_nil] at this ⊢
      omega
theorem len_mkS (l : List Nat) : (mkS l).length = l.length := by rw [len_tl, tl_mkS]
theorem words_sum (z : Str) : ((wordsOf z).map (·.length)).sum + (wordsOf z).length = z.length + 1 := by
  have h := spl_sum 32 [] (tl z)
  unfold wordsOf
  rw [List.map_map, List.length_map, len_tl]
  have e : (spl [32] 0 [] (tl z)).map ((·.length) ∘ mkS) = (spl [32] 0 [] (tl z)).map List.length := List.map_congr_left fun a _ => len_mkS a
  rw [e]
  simpa using h
theorem lines_sum (z : Str) : ((linesOf z).map (·.length)).sum + (linesOf z).length = z.length + 1 := by
  have h := spl_sum 10 [] (tl z)
  unfold linesOf
  rw [List.map_map, List.length_map, len_tl]
  have e : (spl [10] 0 [] (tl z)).map ((·.length) ∘ mkS) = (spl [10] 0 [] (tl z)).map List.length := List.map_congr_left fun a _ => len_mkS a
  rw [e]
  simpa using h
theorem mem_sum {z : Str} {ws : List Str} (h : z ∈ ws) : z.length ≤ (ws.map (·.length)).sum := by
  induction ws with
  | nil => cases h
  | cons a r ih =>
    rw [List.map_cons, List.sum_cons]
    rcases List.mem_cons.mp h with rfl | h
    · omega
    · have := ih h
      omega
theorem lt_one (a b : Nat) : decide (([a] : List Nat) < [b]) = decide (a < b) := by
  by_cases h : a < b
  · rw [decide_eq_true h]
    exact decide_eq_true (by simpa [List.cons_lt_cons_iff] using h)
  · rw [decide_eq_false h]
    exact decide_eq_false (by simpa [List.cons_lt_cons_iff] using h)
def isFig (c : Nat) : Bool := decide (48 ≤ c) && decide (c ≤ 57)
def numS (n : Nat) : Str := Str.ofString (toString (n : Int))
theorem tl_numS (n : Nat) : tl (numS n) = numL n := tl_num n
theorem numL_head {n : Nat} (h : 0 < n) : (numL n).head? ≠ some 48 := by
  induction n using Nat.strongRecOn with
  | ind n ih =>
    by_cases hn : n < 10
    · rw [numL_lt hn]
      simp
      omega
    · rw [numL_step (by omega)]
      have h1 : 0 < n / 10 := by omega
      have := ih (n / 10) (by omega) h1
      cases e : numL (n / 10) with
      | nil => exact absurd e (numL_ne _)
      | cons a r =>
        rw [e] at this
        exact this
theorem numL_figs (n : Nat) : (numL n).all isFig = true := by
  refine List.all_eq_true.mpr fun c hc => ?_
  unfold isFig
  by_cases h : c < 48 ∨ 57 < c
  · exact absurd hc (numL_free h)
  · have h1 : 48 ≤ c := by omega
    have h2 : c ≤ 57 := by omega
    simp [h1, h2]
end Kx

namespace Kx
open PySem PySem.Spec PyProof.Rows L2 TL
theorem Same.sqT {K : PySem.W.Frag} {H H' : Hp} (h : Same H H') {a : Addr} {xs : List V} (q : SqT K H a xs) : SqT K H' a xs := by
  rcases q with (q | ⟨o, q⟩) | q
  · exact .inl (.inl (h _ _ q))
  · exact .inl (.inr ⟨o, h _ _ q⟩)
  · exact .inr q
theorem Same.sqL {K : PySem.W.Frag} {H H' : Hp} (h : Same H H') {a : Addr} {xs : List V} (q : SqL K H a xs) : SqL K H' a xs := by
  rcases q with (q | ⟨o, q⟩) | q
  · exact .inl (.inl (h _ _ q))
  · exact .inl (.inr ⟨o, h _ _ q⟩)
  · exact .inr q
theorem same_none {H H' : Hp} {b : Addr} (h : Same H H') (e : H' b = none) : H b = none := by
  cases k : H b with
  | none => rfl
  | some o => rw [h _ _ k] at e; cases e
/-- t[lo:hi]: somewhere stands the part -/
theorem cut_any {K : PySem.W.Frag} {H : Hp} {a : Addr} {xs ys : List V} {lo hi : Option Int} {Q : VK} (ha : SqT K H a xs) (e : cutV xs lo hi = ys) (q : ∀ p H', Same H H' → SqT K H' p ys → Q (.ref p) H') : rSlA K (.ref a) lo hi H Q := by
  refine ⟨a, xs, rfl, ha, fun h => ?_, fun _ p hp => ?_⟩
  · refine q a H (fun _ _ h => h) ?_
    have : ys = xs := by
      rw [← e]
      unfold cutV
      rw [h.1, h.2, List.drop_zero, Nat.sub_zero, List.take_length]
    rw [this]
    exact ha
  · subst e
    refine q p _ (fun b x e => ?_) (SqT.of upd_same)
    rw [upd_ne (ne_of_none e hp)]
    exact e
theorem take_cut (xs : List V) (k : Nat) : cutV xs none (some (k : Int)) = xs.take k := by
  unfold cutV
  rw [HT.sIx_none, HT.sIx_nat, List.drop_zero, Nat.sub_zero]
  by_cases h : k ≤ xs.length
  · rw [Nat.min_eq_left h]
  · rw [Nat.min_eq_right (by omega), List.take_of_length_le (Nat.le_refl _), List.take_of_length_le (by omega)]
theorem drop_cut (xs : List V) (k : Nat) : cutV xs (some (k : Int)) none = xs.drop k := by
  unfold cutV
  rw [HT.sIx_none, HT.sIx_nat]
  by_cases h : k ≤ xs.length
  · rw [Nat.min_eq_left h, List.take_of_length_le (by rw [List.length_drop]; omega)]
  · rw [Nat.min_eq_right (by omega), Nat.sub_self, List.take_zero, List.drop_eq_nil_of_le (by omega)]
theorem dp_strs {K : PySem.W.Frag} {H : Hp} : ∀ ws : List Str, DpAll K H (ws.map V.str) (ws.map PyData.str)
  | [] => .nil
  | z :: r => .cons (.str z) (dp_strs r)
theorem lay_strs : ∀ {ws : List Str}, (∀ z ∈ ws, PyData.strOk z = true) → PyData.canLayAll0 (ws.map PyData.str) = true
  | [], _ => by simp [PyData.canLayAll0]
  | z :: r, h => by
    rw [List.map_cons, PyData.canLayAll0, lay_strs fun y hy => h y (List.mem_cons_of_mem _ hy), Bool.and_true, PyData.canLay0]
    exact h z List.mem_cons_self
theorem depth_strs : ∀ ws : List Str, PyData.depthAll (ws.map PyData.str) = 0
  | [] => by simp [PyData.depthAll]
  | z :: r => by rw [List.map_cons, PyData.depthAll, depth_strs r, PyData.depth]; rfl
theorem shaped_strs {ws : List Str} (h : ∀ z ∈ ws, PyData.strOk z = true) : SeqAt.shaped (.list (ws.map PyData.str)) = true := by
  unfold SeqAt.shaped
  rw [PyData.canLay0, lay_strs h, PyData.depth, depth_strs]
  rfl
theorem eqv_strs (a b : List Str) : PyData.eqv (.list (a.map PyData.str)) (.list (b.map PyData.str)) = decide (a = b) := PySem.W.eqvAll_map (α := Str) a b
/-! ### texts whose signs are signs -/
def okL (l : List Nat) : Bool := l.all (· < 0x110000)
theorem strOk_tl (z : Str) : PyData.strOk z = okL (tl z) := by
  unfold PyData.strOk okL
  first
    | exact Array.all_toList.symm
    | simp
theorem okL_spl (S : List Nat) : ∀ (k : Nat) (acc l : List Nat), okL acc = true → okL l = true → ∀ p ∈ spl S k acc l, okL p = true
  | k, acc, [], h, _, p, hp => by
    rw [spl_nil] at hp
    rw [List.mem_singleton.mp hp]
    exact h
  | 0, acc, c :: r, h, hl, p, hp => by
    have hr : okL r = true := by
      unfold okL at hl ⊢
      rw [List.all_cons, Bool.and_eq_true] at hl
      exact hl.2
    have hc : okL (acc ++ [c]) = true := by
      unfold okL at hl h ⊢
      rw [List.all_cons, Bool.and_eq_true] at hl
      rw [List.all_append, h, List.all_cons, hl.1]
      rfl
    unfold spl at hp
    split at hp
    · rcases List.mem_cons.mp hp with e | hp
      · rw [e]
        exact h
      · exact okL_spl S _ [] r rfl hr p hp
    · exact okL_spl S 0 _ r hc hr p hp
  | k + 1, acc, c :: r, h, hl, p, hp => by
    have hr : okL r = true := by
      unfold okL at hl ⊢
      rw [List.all_cons, Bool.and_eq_true] at hl
      exact hl.2
    unfold spl at hp
    exact okL_spl S k acc r h hr p hp
theorem ok_words {z : Str} (h : PyData.strOk z = true) : ∀ y ∈ wordsOf z, PyData.strOk y = true := fun y hy => by
  obtain ⟨p, hp, rfl⟩ := List.mem_map.mp hy
  rw [strOk_tl, tl_mkS]
  exact okL_spl _ 0 [] (tl z) rfl (by rw [← strOk_tl]; exact h) p hp
theorem ok_lines {z : Str} (h : PyData.strOk z = true) : ∀ y ∈ linesOf z, PyData.strOk y = true := fun y hy => by
  obtain ⟨p, hp, rfl⟩ := List.mem_map.mp hy
  rw [strOk_tl, tl_mkS]
  exact okL_spl _ 0 [] (tl z) rfl (by rw [← strOk_tl]; exact h) p hp
theorem len_append (a b : Str) : (a ++ b).length = a.length + b.length := by rw [len_tl, tl_append, List.length_append, len_tl, len_tl]
theorem okL_append {a b : List Nat} (h : okL a = true) (k : okL b = true) : okL (a ++ b) = true := by
  unfold okL at *
  rw [List.all_append, h, k]
  rfl
theorem ok_append {a b : Str} (h : PyData.strOk a = true) (k : PyData.strOk b = true) : PyData.strOk (a ++ b) = true := by
  rw [strOk_tl] at *
  rw [tl_append]
  exact okL_append h k
theorem ok_numS (n : Nat) : PyData.strOk (numS n) = true := by
  rw [strOk_tl, tl_numS]
  refine List.all_eq_true.mpr fun c hc => ?_
  have h := List.all_eq_true.mp (numL_figs n) c hc
  unfold isFig at h
  have h2 : c ≤ 57 := by
    have := (Bool.and_eq_true_iff.mp h).2
    exact of_decide_eq_true this
  exact decide_eq_true (by omega)
end Kx

namespace Kx
open PySem PySem.Spec PyProof.Rows L2
/-! ### a list comprehension whose item may raise -/
section
variable {M : Model} {A : Around} {E : Value → Shared → Prop} {s : Shared} {env : Env}
/-- behind the block: as the library's, but the frame of the block's names is told -/
def cpX (M : Model) (A : Around) (E : Value → Shared → Prop) (use : Option (Value → Sem Unit)) (Q : Value → Shared → Prop) (acc : Value) (cenv : Env) (r : Result) (s' : Shared) : Prop :=
  match r, use with
  | .ok _, none => ∃ m, s'.heap.Ns cenv.locals m ∧ ∀ h', Heap.SameBut cenv.locals s'.heap h' → Q acc { s' with heap := h' }
  | .ok _, some u => wpAny M A (u acc) (fun _ s'' => ∃ m, s''.heap.Ns cenv.locals m ∧ ∀ h', Heap.SameBut cenv.locals s''.heap h' → Q .none { s'' with heap := h' }) E s'
  | .error x, _ => ∃ m, s'.heap.Ns cenv.locals m ∧ ∀ h', Heap.SameBut cenv.locals s'.heap h' → ∀ e' : Env, e'.frame = cenv.frame → wpAny M A (passOn "comprehension.variables-let-go" x e' : Sem Value) (fun _ _ => False) E { s' with heap := h' }
theorem comprehension_X {e : Expr} {scope : Scope} {pos : Pos} {newAcc first : Sem Value} {g : Comprehension} {gs : List Comprehension} {cl : List (Str × Addr)} {use : Option (Value → Sem Unit)}
    {Q : Value → Shared → Prop}
    (hcl : clausesOf e = g :: gs) (hs : ∀ x, foldedSetIterable g.iter env x = pure x) (hclos : closureFor scope env = pure cl)
    (hkind : scope.kind = .function) (hnames : ∀ x ∈ scope.names, x.2 = .local → scope.names.lookup x.1 = some .local)
    (h : wpAny M A first (fun x s₁ => wpAny M A (pyIter x) (fun it s₂ => wpAny M A newAcc (fun acc s₃ =>
      wpAny M A (newFunctionEnv scope env.globals cl [] env.qual none .none (some env)) (fun cenv s₄ =>
        codeAny M A (.compStart e 0 it acc { cenv with scope := relabel scope env }) (cpX M A E use Q acc cenv) s₄) E s₃) E s₂) E s₁) E s) :
    wpAny M A (comprehension e scope env pos newAcc false first use) Q E s := by
  unfold comprehension
  rw [hclos, hcl]
  refine wpAny_bind (wpAny_mono h (fun x s₁ h₁ => wpAny_bind (wpAny_standAt (wpAny_bind (wpAny_of_eq (hs x) (wpAny_bind (wpAny_holding (wpAny_mono h₁ (fun it s₂ h₂ =>
    wpAny_standIf (wpAny_bind (wpAny_mono h₂ (fun acc s₃ h₃ => wpAny_bind (wpAny_pure (wpAny_bind (wpAny_mono h₃ (fun cenv s₄ h₄ => ?_) fun _ _ h' => h')))) fun _ _ h' => h')))
      fun _ _ h' => h'))))))) fun _ _ h' => h')
  dsimp only
  have hv : ∀ x ∈ (scope.names.filter fun x => (x.2 == .local || x.2 == .cell) && x.1 != (".0" : Str)).reverse, x.2 = .local →
      Env.kindOf { cenv with scope := relabel scope env } x.1 = some .local := fun x hx hl => lookup_relabel_local (hnames x (List.mem_filter.mp (List.mem_reverse.mp hx)).1 hl)
  have hv' : ∀ x ∈ (scope.names.filter fun x => (x.2 == .local || x.2 == .cell) && x.1 != (".0" : Str)).reverse.drop 1 ++ (scope.names.filter fun x => (x.2 == .local || x.2 == .cell) && x.1 != (".0" : Str)).reverse.take 1,
      x.2 = .local → Env.kindOf { cenv with scope := relabel scope env } x.1 = some .local := fun x hx hl => by
    rcases List.mem_append.mp hx with h1 | h1
    · exact hv x (List.mem_of_mem_drop h1) hl
    · exact hv x (List.mem_of_mem_take h1) hl
  refine wpAny_holding (wpAny_bind (wpAny_attempt (wpAny_holding (wpAny_run (codeAny_mono h₄ fun r s' hr => ?_)))))
  cases r with
  | ok f =>
    cases use with
    | none =>
      obtain ⟨m, hn, hr⟩ := hr
      exact wpAny_bind (wpAny_holding (wpAny_comp_letGo (cenv := { cenv with scope := relabel scope env }) hkind _ s' m hv hn fun h' m' _ hs' => wpAny_pure (hr h' hs')))
    | some u =>
      refine wpAny_bind (wpAny_rule (wpAny_bind (wpAny_holding (wpAny_mono hr (fun _ s'' hr' => ?_) fun _ _ h' => h'))))
      obtain ⟨m, hn, hr'⟩ := hr'
      exact wpAny_bind (wpAny_comp_letGo (cenv := { cenv with scope := relabel scope env }) hkind _ s'' m hv' hn fun h' m' _ hs' => wpAny_pure (hr' h' hs'))
  | error x =>
    have hr' : ∃ m, s'.heap.Ns cenv.locals m ∧ ∀ h', Heap.SameBut cenv.locals s'.heap h' → ∀ e' : Env, e'.frame = cenv.frame → wpAny M A (passOn "comprehension.variables-let-go" x e' : Sem Value) (fun _ _ => False) E { s' with heap := h' } := by cases use <;> exact hr
    obtain ⟨m, hn, hr⟩ := hr'
    exact wpAny_bind (wpAny_holding (wpAny_comp_letGo (cenv := { cenv with scope := relabel scope env }) hkind _ s' m hv hn fun h' m' _ hs' => wpAny_mono (hr h' hs' _ rfl) (fun _ _ f => f.elim) fun _ _ y => y))
/-- noting depends on the frame alone -/
theorem note_frame {e : Value} {env' : Env} (h : env'.frame = env.frame) : noteFrame e env' = noteFrame e env := by
  unfold noteFrame PySem.frameOf
  rw [h]
theorem frames_but {B B' h h' : Heap} {C : Addr} (k : ∀ b, b ≠ C → h'.get? b = h.get? b) (g : ∀ b, B.get? b = none → B'.get? b = none) : ∀ {l : List Env}, (∀ L ∈ frs l, L ≠ C) → h.FunFrames B l → h'.FunFrames B' l
  | [], _, _ => trivial
  | env :: l, hn, hl => by
    obtain ⟨hk, ⟨L, o, hf, hb, ho, hd⟩, hr⟩ := hl
    exact ⟨hk, ⟨L, o, hf, g L hb, (k L (hn L (List.mem_filterMap.mpr ⟨env, List.mem_cons_self, hf⟩))).trans ho, hd⟩,
      frames_but k g (fun b hb => by
        obtain ⟨e, he, q⟩ := List.mem_filterMap.mp hb
        exact hn b (List.mem_filterMap.mpr ⟨e, List.mem_cons_of_mem _ he, q⟩)) hr⟩
theorem frames_up {B h h' : Heap} (up : h.UpToSlots h') : ∀ {l : List Env}, h.FunFrames B l → h'.FunFrames B l
  | [], _ => trivial
  | env :: l, hl => by
    obtain ⟨hk, ⟨L, o, hf, hb, ho, hd⟩, hr⟩ := hl
    obtain ⟨sl, e⟩ := up L o ho hd
    exact ⟨hk, ⟨L, _, hf, hb, e, hd⟩, frames_up up hr⟩
end
section
variable {X : Cx}
/-- what a block lets out: an exception of a call in it -/
abbrev bxe (X : Cx) (s : Shared) (H : Hp) (scope : Scope) (cenv : Env) (fp : List Addr) (E : XK) : Value → Shared → Prop := fun u s' =>
  ∃ σ9 H9 s9, Inv (X.blk s H scope cenv fp) [] σ9 H9 s9 ∧ CX X.prog X.w X.stack H9 s9 E u s'
abbrev blkX (X : Cx) (s : Shared) (H : Hp) (scope : Scope) (cenv : Env) (fp : List Addr) (E : XK) : Cx := (X.blk s H scope cenv fp).tr [] (bxe X s H scope cenv fp E)
theorem toX {pins : List (Addr × Obj)} {σ : L2.St} {H H1 : Hp} {s s1 : Shared} {scope : Scope} {cenv : Env} {fp : List Addr} {E : XK} (I : Inv (X.blk s H scope cenv fp) [] σ H1 s1) : Inv (blkX X s H scope cenv fp E) [] σ H1 s1 := I.toTry _
theorem ofX {pins : List (Addr × Obj)} {σ : L2.St} {H H1 : Hp} {s s1 : Shared} {scope : Scope} {cenv : Env} {fp : List Addr} {E : XK} (I : Inv (blkX X s H scope cenv fp E) pins σ H1 s1) : Inv (X.blk s H scope cenv fp) [] σ H1 s1 :=
  Inv.ofTry (X := X.blk s H scope cenv fp) (pins := []) (pn' := pins) I I.ok.ofTry
/-- a def that may raise, called in such a block -/
theorem passes_blk {s : Shared} {H : Hp} {scope : Scope} {cenv : Env} {fp : List Addr} {E : XK} : Passes (CX X.prog X.w) (blkX X s H scope cenv fp E) E := fun _ σ H1 s1 _ _ I c => ⟨σ, H1, s1, ofX I, c⟩
theorem hide_ne {h : Heap} {C b : Addr} {o : Obj} (n : b ≠ C) (e : h.get? b = some o) : (PySem.W.hideAll h [C]).get? b = some o := PySem.W.hideAll_get _ e fun hm => n (by simpa using hm)
theorem hide_none {h : Heap} {C b : Addr} (e : h.get? b = none) : (PySem.W.hideAll h [C]).get? b = none := by
  cases q : (PySem.W.hideAll h [C]).get? b with
  | none => rfl
  | some o =>
    have z := PySem.W.of_hideAll _ q
    rw [e] at z; cases z
theorem hide_self {h : Heap} {C : Addr} {o : Obj} (e : h.get? C = some o) : (PySem.W.hideAll h [C]).get? C = none := by
  cases q : (PySem.W.hideAll h [C]).get? C with
  | none => rfl
  | some o' => rw [PySem.W.hideAll_none [C] (by simp)] at q; cases q
theorem blk_out {pins : List (Addr × Obj)} {σ : L2.St} {H3 : Hp} {s3 s' : Shared} {scope : Scope} {cenv : Env} {fp : List Addr} {W : WX} {use : Option (Value → Sem Unit)} {Qf : Value → Shared → Prop} {acc u : Value}
    (I3 : Inv X pins σ H3 s3) (hst : X.stack = X.env :: X.outer) (hfl : X.env.frame = some X.env.locals) (tk : Takes X W) (f3 : ∀ b ∈ fp, FpOk X pins H3 b ∧ b < s3.heap.objs.size)
    (cL : cenv.locals = s3.heap.objs.size) (cF : cenv.frame = X.env.frame) (x : bxe X s3 H3 scope cenv fp (fun cls d H' => W cls d σ H') u s') :
    notedBy (model X.prog X.w) X.A cenv (fun e s'' => cpX (model X.prog X.w) X.A X.xe use Qf acc cenv (.error e) s'') u s' := by
  obtain ⟨σ9, H9, s9, I9, a, B, H', cls, d, rfl, fl, hok, ub, na, os, ag, hE⟩ := x
  have I7 : Inv X pins σ H9 s9 := I3.call' (ch := fp) I9.os I9.base I9.hok I9.bare fun b hb => ⟨(f3 b hb).1.2.2.2.1, (f3 b hb).1.2.1, (f3 b hb).1.2.2.2.2.1, (f3 b hb).1.2.2.2.2.2⟩
  have nC : H9 cenv.locals = none := I9.free
  obtain ⟨m, hnC, _⟩ := id I9.loc
  have hnC : s9.heap.Ns cenv.locals m := hnC
  have fC : FpOk X pins H9 cenv.locals := I3.fpOk (Nat.le_of_eq cL.symm) nC
  generalize hCC : cenv.locals = C at nC hnC fC
  obtain ⟨f0, f1, f2, f3', f4, f5⟩ := fC
  have hfr : X.A.frames = some (X.env :: X.outer) := by rw [I3.ok.frames, hst]
  have nCs : C ∉ frs X.stack := fun hm => by
    rcases List.mem_cons.mp (I3.stkSub C hm) with z | z
    · exact f1 z
    · exact f2 z
  show wpAny _ _ (noteFrame (.ref a) cenv) _ _ _
  rw [note_frame cF]
  rw [hst] at fl
  refine HandSPX.looks_onZ Zc.steady hfr hfl fl fun h1 hh1 up1 => ?_
  obtain ⟨oC, esC, epC, hoC, hdC, rC⟩ := id hnC
  have bC : B.get? C = some oC := ub.keep C oC hoC nC nCs
  obtain ⟨k1, k2, k3, k4⟩ := hh1
  have h1C : h1.get? C = some oC := k1 _ _ bC
  have hn1 : h1.Ns C m := hnC.at fun o e => by rw [hoC] at e; cases e; exact h1C
  refine ⟨m, by rw [hCC]; exact hn1, fun h2 sb e' he' => ?_⟩
  rw [hCC] at sb
  have kk : ∀ b, b ≠ C → h2.get? b = h1.get? b := sb.2
  obtain ⟨oe, vs, T, oT, ts, he, hz, hd, hv1, hnT, hTe, hT, hdT, ht3⟩ := k4
  have aC : a ≠ C := fun z => by
    rw [z, h1C] at he; cases he
    rw [hdC] at hd; cases hd
  have TC : T ≠ C := fun z => by
    rw [z, h1C] at hT; cases hT
    rw [hdC] at hdT; cases hdT
  have g1 : ∀ b o, (PySem.W.hideAll B [C]).get? b = some o → B.get? b = some o := fun b o e => PySem.W.of_hideAll _ e
  have g3 : (PySem.W.hideAll B [C]).get? C = none := hide_self bC
  have gn : ∀ b o, (PySem.W.hideAll B [C]).get? b = some o → b ≠ C := fun b o e z => by rw [z, g3] at e; cases e
  have fne : ∀ L ∈ frs (X.env :: X.outer), L ≠ C := fun L hL z => nCs (by rw [hst, ← z]; exact hL)
  have hh2 : HandSPX.HeldZ (PySem.W.hideAll B [C]) (X.env :: X.outer) a (Zc cls d) X.env.locals h2 :=
    ⟨fun b o e => (kk b (gn b o e)).trans (k1 b o (g1 b o e)), hide_none k2, frames_but kk (fun b e => hide_none e) fne k3, ⟨oe, vs, T, oT, ts, (kk a aC).trans he, hz, hd, hv1, hide_none hnT, hTe, (kk T TC).trans hT, hdT, ht3⟩⟩
  have fin : ∀ h4, HandSPX.HeldZ (PySem.W.hideAll B [C]) (X.env :: X.outer) a (Zc cls d) X.env.locals h4 → h2.UpToSlots h4 → X.xe (.ref a) { s' with heap := h4 } := fun h4 hh4 up4 => by
    refine tk _ _ ?_
    have I8 : Inv X pins σ H9 { s9 with heap := PySem.W.hideAll s9.heap [C], toks := s9.toks } := I7.turned (fun b o hb e => hide_ne hb e) nC f1 f3' f4 f5
    obtain ⟨G, r1, r2⟩ := restrict h4 fun b => ((PySem.W.hideAll B [C]).get? b).isSome || decide (b ∈ frs X.stack)
    have st : (PySem.W.hideAll B [C]).StaysIn h4 := hh4.1
    have gB : ∀ b o, (PySem.W.hideAll B [C]).get? b = some o → G.get? b = some o := fun b o e => by
      rw [r1 b (by simp [e])]
      exact st b o e
    have gF : ∀ b, b ∈ frs X.stack → G.get? b = h4.get? b := fun b hb => r1 b (by simp [hb])
    have og : ∀ b o, G.get? b = some o → h4.get? b = some o ∧ (((PySem.W.hideAll B [C]).get? b).isSome = true ∨ b ∈ frs X.stack) := fun b o e => by
      cases q : (((PySem.W.hideAll B [C]).get? b).isSome || decide (b ∈ frs X.stack)) with
      | false => rw [r2 b q] at e; cases e
      | true =>
        rw [r1 b q] at e
        exact ⟨e, by simpa [Bool.or_eq_true] using q⟩
    have s9of : ∀ b o, (PySem.W.hideAll s9.heap [C]).get? b = some o → s9.heap.get? b = some o ∧ b ≠ C := fun b o e => ⟨PySem.W.of_hideAll _ e, fun z => by
      rw [z, hide_self hoC] at e; cases e⟩
    have slots : ∀ b o, s9.heap.get? b = some o → b ∈ frs X.stack → ∃ sl, h4.get? b = some { o with slots := sl } := fun b o e hb => by
      have nb : b ≠ C := fun z => nCs (z ▸ hb)
      obtain ⟨sl, q⟩ := ub.slot b o e hb
      obtain ⟨_, o₀, e₀, hnf⟩ := I7.stack.mem hb
      rw [e] at e₀; cases e₀
      obtain ⟨sl2, q2⟩ := up1 b _ q hnf
      obtain ⟨sl3, q3⟩ := up4 b _ ((kk b nb).trans q2) hnf
      exact ⟨sl3, q3⟩
    have hokB : HOk X.prog X.w H' (PySem.W.hideAll B [C]) := fun b o q => (hok b o q).stay (fun c u hc r => hide_ne (fun z => by
        have nC' : H' C = none := ub.free C oC hoC nC
        rcases hc with hc | hc
        · rw [← hc, z, nC'] at q; cases q
        · rw [z, nC'] at hc; cases hc) r) (fun _ r => r) fun _ _ r => r
    refine ⟨a, PySem.W.hideAll B [C], { s9 with heap := G, gens := s'.gens, drawn := s'.drawn, toks := s'.toks }, pins, σ, H', cls, d, rfl, ?_, fun b o e hb => ?_, Heap.UpToSlots.of_keeps fun b o e => (og b o e).1, .inr (.inr (by rw [hst]; exact hh4)), na, os, ag, hE⟩
    · have un : Un (frs X.stack) [] H9 H' (PySem.W.hideAll s9.heap [C]) G := by
        refine ⟨fun b o e n hb _ => ?_, fun b o e n hb _ => ?_, fun b o e n _ => ub.free b o (s9of b o e).1 n, fun b o e _ => ?_, ub.tups, ub.frzs, ub.tbls⟩
        · obtain ⟨e1, n1⟩ := s9of b o e
          exact gB b o (hide_ne n1 (ub.keep b o e1 n hb))
        · obtain ⟨sl, q⟩ := slots b o (s9of b o e).1 hb
          exact ⟨sl, by rw [gF b hb]; exact q⟩
        · obtain ⟨e1, n1⟩ := s9of b o e
          by_cases hb : b ∈ frs X.stack
          · obtain ⟨sl, q⟩ := slots b o e1 hb
            exact ⟨_, by rw [gF b hb]; exact q⟩
          · obtain ⟨o', q⟩ := ub.there b o e1 hb
            exact ⟨o', gB b o' (hide_ne n1 q)⟩
      have J := I8.call (ch := []) (h' := G) (g' := s'.gens) (t' := s'.toks) (d' := s'.drawn) un (hokB.kept gB) ag (fun _ z => nomatch z)
      exact J
    · obtain ⟨e', h⟩ := og b o e
      rcases h with h | h
      · obtain ⟨o', q⟩ := Option.isSome_iff_exists.mp h
        have z := st b o' q
        rw [e'] at z; cases z
        exact q
      · exact absurd h hb
  unfold PySem.passOn
  refine wpAny_bind (wpAny_field ((kk a aC).trans he) hd hv1 ?_)
  rw [if_neg (show ¬ ((Value.ref T == Value.none) = true) from by simp)]
  rw [he', cF, hfl]
  first
    | exact wpAny_bind (HandSPX.setFlight_onZ hh2 fun h4 hh4 up4 => wpAny_throw (fin h4 hh4 up4))
    | exact wpAny_bind (wpAny_pure (wpAny_bind (HandSPX.setFlight_onZ hh2 fun h4 hh4 up4 => wpAny_throw (fin h4 hh4 up4))))
theorem thnX {α : Type} {t : Sem α} {Q Q' : α → Shared → Prop} {M : Model} {A : Around} {E E' : Value → Shared → Prop} {s : Shared} (e : ∀ u s, E' u s → E u s) (h : wpAny M A t Q E' s) (hQ : ∀ a s, Q a s → Q' a s) : wpAny M A t Q' E s := wpAny_mono h hQ e
theorem lc_coreX {pins : List (Addr × Obj)} {s : Shared} {σ : L2.St} {H : Hp} {Q : VK} {elt tg iter : Expr} {ifs : List Expr} {scope : Scope} {own : List (Str × Nat)} {pos pos' : Pos} {wi : TI} {g : TG} {tt : TT} {te : XK → TE} {Wx : WX} {use : Option (Value → Sem Unit)} {Qf : Value → Shared → Prop}
    (hst : X.stack = X.env :: X.outer) (hfl : X.env.frame = some X.env.locals) (tk : Takes X Wx) (hc : X.calm = true) (hN : X.N.Nodup) (I : Inv X pins σ H s) (hi : PI X tg iter wi) (ok : BlkOk X.N X.env.scope scope own)
    (hg : ∀ (s : Shared) (H : Hp) (C : Addr) (cl : List (Str × Addr)) (fp : List Addr) (E : XK), PG (blkX X s H scope (compEnvC scope cl C X.env) fp E) tg g) (ht : ∀ (s : Shared) (H : Hp) (C : Addr) (cl : List (Str × Addr)) (fp : List Addr) (E : XK), PTs (blkX X s H scope (compEnvC scope cl C X.env) fp E) ifs tt)
    (he : ∀ (s : Shared) (H : Hp) (C : Addr) (cl : List (Str × Addr)) (fp : List Addr) (E : XK), PE (blkX X s H scope (compEnvC scope cl C X.env) fp E) elt (te E)) (hs : ∀ x, foldedSetIterable iter X.env x = pure x)
    (h : tLc wi g tt (te fun cls d H' => Wx cls d σ H') (own.map (·.2)) σ H Q)
    (hRR : ∀ D C s' m H', Inv X pins σ H' s' → Q (.ref D) H' → s'.heap.Ns C m → FpOk X pins H' C → ∀ cenv : Env, cenv.locals = C → cpX (model X.prog X.w) X.A X.xe use Qf (.ref D) cenv (.ok .next) s') :
    wpAny (model X.prog X.w) X.A (comprehension (.ListComp elt [⟨tg, iter, ifs, 0⟩] scope pos) scope X.env pos' (newList []) false (eval iter X.env) use) Qf X.xe s := by
  have hfree : ∀ y ∈ scope.names, y.2 = .free → ∃ c, X.env.cells.lookup y.1 = some c := fun y hy e => by
    rcases ok.free y hy e with k | k
    · exact I.ok.has _ (.inl k)
    · exact I.ok.has _ (.inr k)
  refine comprehension_X (use := use) rfl hs (closure_ok hfree) ok.kind (fun y hy e => by rw [ok.uniq y hy, e])
    (thn (hi.run pins s σ H _ I h) fun xv s1 hx => thn hx fun itv s2 h2 => ?_)
  obtain ⟨it, fp, tn, J, H2, e, I2, T, st2, f2, q⟩ := h2
  subst e
  refine wpAny_newObj_type (newEnv_comp ?_) (by show 0 ≤ sizeLine; decide)
  generalize hD : s2.heap.objs.size = D
  have hDn : H2 D = none := I2.hok.fresh (Nat.le_of_eq hD)
  obtain ⟨W, ⟨m0, w0⟩, turn⟩ := q D hDn
  -- the new list
  generalize hs3 : ({ s2 with heap := s2.heap.push { cls := .type "list", data := .seq ([] : List Value).toArray } } : Shared) = s3
  have I3 : Inv X pins σ (upd H2 D (.lst [])) s3 := by
    rw [← hs3]
    refine I2.laid (t' := s2.toks) (fun b o e => Heap.get?_push_of_some _ e) (Nat.le_of_eq hD) ⟨Nat.zero_le _, [], 0, .nil, ?_⟩
    rw [← hD]
    exact Heap.get?_push_size _ rfl
  have h3 : s3.heap = s2.heap.push { cls := .type "list", data := .seq ([] : List Value).toArray } := by rw [← hs3]
  have sz : ∀ b ∈ fp, b < s2.heap.objs.size := fun b hb => by
    obtain ⟨o, e, _⟩ := T.obj _ _ st2 b hb
    exact Heap.lt_size e
  have f3 : ∀ b ∈ fp, FpOk X pins (upd H2 D (.lst [])) b ∧ b < s3.heap.objs.size := fun b hb => by
    have hlt := sz b hb
    refine ⟨⟨?_, (f2 b hb).2⟩, by rw [h3, Heap.size_push]; exact Nat.lt_succ_of_lt hlt⟩
    rw [upd_ne (by rw [← hD]; exact Nat.ne_of_lt hlt)]
    exact (f2 b hb).1
  have st3 : tn 0 s3.heap := T.keep _ _ _ st2 fun b _ o e => by rw [h3]; exact Heap.get?_push_of_some _ e
  have I4 := toX (pins := pins) (σ := wipe σ (own.map (·.2))) (E := fun cls d H' => Wx cls d σ H') (block_start I3 ok hN f3)
  have pg := hg s3 (upd H2 D (.lst [])) s3.heap.objs.size (cellsFrom (s3.heap.objs.size + 1) scope.names (cloFrom X.env.cells scope.names [])) fp fun cls d H' => Wx cls d σ H'
  have pt := ht s3 (upd H2 D (.lst [])) s3.heap.objs.size (cellsFrom (s3.heap.objs.size + 1) scope.names (cloFrom X.env.cells scope.names [])) fp fun cls d H' => Wx cls d σ H'
  have pe := he s3 (upd H2 D (.lst [])) s3.heap.objs.size (cellsFrom (s3.heap.objs.size + 1) scope.names (cloFrom X.env.cells scope.names [])) fp fun cls d H' => Wx cls d σ H'
  show codeAny _ _ (.compStart (.ListComp elt [⟨tg, iter, ifs, 0⟩] scope pos) 0 (.ref it) (.ref D) (compEnvC scope (cellsFrom (s3.heap.objs.size + 1) scope.names (cloFrom X.env.cells scope.names [])) s3.heap.objs.size X.env)) (cpX (model X.prog X.w) X.A X.xe use Qf (.ref D) (compEnvC scope (cellsFrom (s3.heap.objs.size + 1) scope.names (cloFrom X.env.cells scope.names [])) s3.heap.objs.size X.env)) { s3 with heap := pushCells (s3.heap.push { cls := .type "dict", data := .dict #[] }) scope.names }
  have nfp : ∀ b ∈ fp, (upd H2 D (.lst [])) b = none := fun b hb => (f3 b hb).1.1
  generalize hce : compEnvC scope (cellsFrom (s3.heap.objs.size + 1) scope.names (cloFrom X.env.cells scope.names [])) s3.heap.objs.size X.env = ce at I4 pg pt pe ⊢
  have cL : ce.locals = s3.heap.objs.size := by subst hce; rfl
  have cF : ce.frame = X.env.frame := by subst hce; rfl
  generalize hH3 : upd H2 D (.lst []) = H3 at I3 I4 pg pt pe w0 nfp f3
  generalize hs4 : ({ s3 with heap := pushCells (s3.heap.push { cls := .type "dict", data := .dict #[] }) scope.names } : Shared) = s4 at I4 ⊢
  have st4 : tn 0 s4.heap := T.keep _ _ _ st3 fun b _ o e => by rw [← hs4]; exact pushCells_keeps _ _ _ _ (Heap.get?_push_of_some _ e)
  have stat : ∀ {σ' : L2.St} {H' : Hp} {s' : Shared}, Inv (blkX X s3 H3 scope ce fp fun cls d H' => Wx cls d σ H') [] σ' H' s' → (∀ b ∈ fp, H' b = none) → ∀ b ∈ fp, FpOk (blkX X s3 H3 scope ce fp fun cls d H' => Wx cls d σ H') [] H' b := fun {σ' H' s'} I' hn b hb =>
    ⟨hn b hb, (I'.ok.exf b hb).1, I'.ok.exfs b hb, .inl hb, fun x c e => (I'.ok.exf b hb).2 x c e, fun p hp => absurd (show p ∈ ([] : List (Addr × Obj)) ++ [] from hp) (by simp)⟩
  have err : ∀ u s', bxe X s3 H3 scope ce fp (fun cls d H' => Wx cls d σ H') u s' → notedBy (model X.prog X.w) X.A ce (fun e s'' => cpX (model X.prog X.w) X.A X.xe use Qf (.ref D) ce (.error e) s'') u s' := fun u s' x => blk_out I3 hst hfl tk f3 cL cF x
  have loop : codeAny (model X.prog X.w) X.A (.compLoop (.ListComp elt [⟨tg, iter, ifs, 0⟩] scope pos) 0 (.ref it) (.ref D) ce) (cpX (model X.prog X.w) X.A X.xe use Qf (.ref D) ce) s4 := by
    refine compLoop_any (fun n s' => ∃ i H', Inv (blkX X s3 H3 scope ce fp fun cls d H' => Wx cls d σ H') [] (wipe σ (own.map (·.2))) H' s' ∧ tn i s'.heap ∧ (∀ b ∈ fp, H' b = none) ∧ W i n H') ?_ m0 ⟨0, H3, I4, st4, nfp, w0⟩
    rintro n s5 ⟨i, H5, I5, st5, n5, w5⟩
    rcases turn i n H5 w5 with ⟨stop, qq⟩ | ⟨go, Nx, hNx, step⟩
    · have td := T.done (blkX X s3 H3 scope ce fp fun cls d H' => Wx cls d σ H') rfl rfl rfl hc i [] s5 _ H5 (fun _ _ => False) I5 (stat I5 n5) st5 stop
      refine thnF td fun r s6 ⟨hr, I6⟩ => ?_
      subst hr
      -- back in the def's context
      have I7 : Inv X pins σ H5 s6 := I3.call' (ch := fp) I6.os I6.base I6.hok I6.bare fun b hb => ⟨(f3 b hb).1.2.2.2.1, (f3 b hb).1.2.1, (f3 b hb).1.2.2.2.2.1, (f3 b hb).1.2.2.2.2.2⟩
      have nC : H5 s3.heap.objs.size = none := by
        have z : H5 ce.locals = none := I6.free
        rw [cL] at z
        exact z
      obtain ⟨m, hn, _⟩ := I6.loc
      have hn : s6.heap.Ns ce.locals m := hn
      rw [cL] at hn
      exact hRR D s3.heap.objs.size s6 m H5 I7 qq hn (I3.fpOk (Nat.le_refl _) nC) ce cL
    · have ti := T.item (blkX X s3 H3 scope ce fp fun cls d H' => Wx cls d σ H') rfl rfl rfl hc i [] s5 _ H5 (fun _ _ => False) I5 (stat I5 n5) st5 go
      refine thnF ti fun r s6 ⟨u, hr, h6⟩ => ?_
      subst hr
      refine thnF h6 fun _ s7 ⟨x, H7, I7, r7, y7, st7, n7⟩ => ?_
      have I7' := I7.pinned (stat I7 n7) (T.obj _ _ st7)
      refine thnX err (pg.run _ s7 _ H7 x u _ I7' r7 (step x H7 y7)) fun _ s8 ⟨σ8, H8, I8, hw8, q8⟩ => ?_
      refine thnX err (pt.run _ s8 σ8 H8 _ I8 q8) fun b s9 ⟨H9, I9, q9⟩ => ?_
      -- the turn's end
      have fin : ∀ {s' : Shared} {H' : Hp}, Inv (blkX X s3 H3 scope ce fp fun cls d H' => Wx cls d σ H') ([] ++ pinsAt fp s7.heap) σ8 H' s' → Nx H' → ∃ m, m < n ∧ ∃ i H', Inv (blkX X s3 H3 scope ce fp fun cls d H' => Wx cls d σ H') [] (wipe σ (own.map (·.2))) H' s' ∧ tn i s'.heap ∧ (∀ b ∈ fp, H' b = none) ∧ W i m H' := fun {s' H'} I' nx => by
        obtain ⟨m', hm, w'⟩ := hNx H' nx
        have pin' : ∀ b ∈ fp, ∀ o, s7.heap.get? b = some o → s'.heap.get? b = some o ∧ H' b = none := fun b hb o e =>
          let z := I'.pin (b, o) (List.mem_append_right _ (List.mem_append_right _ (mem_pinsAt hb e)))
          ⟨z.1, z.2.1⟩
        have hl : (wipe σ (own.map (·.2))).length = σ8.length := by rw [← hw8, wipe_length]
        refine ⟨m', hm, i + 1, H', (I'.unpinned (pins := [])).weak hl (fun j v e => ?_), T.keep _ _ _ st7 fun b hb o e => (pin' b hb o e).1, fun b hb => ?_, w'⟩
        · rw [← hw8] at e
          exact (wipe_some e).1
        · obtain ⟨o, e, _⟩ := T.obj _ _ st7 b hb
          exact (pin' b hb o e).2
      cases b with
      | false =>
        simp only [Bool.false_eq_true, if_false] at q9 ⊢
        exact fin I9 q9
      | true =>
        simp only [if_true] at q9 ⊢
        refine thnX err (pe.run _ s9 σ8 H9 _ I9 q9) fun z s10 ⟨yv, H10, I10, r10, acc, hD10, hz10, nx⟩ => ?_
        exact app_ok (X := blkX X s3 H3 scope ce fp fun cls d H' => Wx cls d σ H') I10 hD10 hz10 r10 fun s11 I11 => fin I11 nx
  exact codeAny_compStart_list loop (T.self X.A 0 _ _ _ st4 loop)
/-- [e for x in xs if ..], where e may raise; te tells what e asks, given what is wished of an exception -/
theorem pe_lcX {elt tg iter : Expr} {ifs : List Expr} {scope : Scope} {own : List (Str × Nat)} {pos : Pos} {wi : TI} {g : TG} {tt : TT} {te : XK → TE} {Wx : WX} (hst : X.stack = X.env :: X.outer) (hfl : X.env.frame = some X.env.locals) (tk : Takes X Wx) (hc : X.calm = true) (hN : X.N.Nodup) (hi : PI X tg iter wi) (ok : BlkOk X.N X.env.scope scope own)
    (hg : ∀ (s : Shared) (H : Hp) (C : Addr) (cl : List (Str × Addr)) (fp : List Addr) (E : XK), PG (blkX X s H scope (compEnvC scope cl C X.env) fp E) tg g) (ht : ∀ (s : Shared) (H : Hp) (C : Addr) (cl : List (Str × Addr)) (fp : List Addr) (E : XK), PTs (blkX X s H scope (compEnvC scope cl C X.env) fp E) ifs tt)
    (he : ∀ (s : Shared) (H : Hp) (C : Addr) (cl : List (Str × Addr)) (fp : List Addr) (E : XK), PE (blkX X s H scope (compEnvC scope cl C X.env) fp E) elt (te E)) (hs : ∀ x, foldedSetIterable iter X.env x = pure x := by intro _; rfl) :
    PE X (.ListComp elt [⟨tg, iter, ifs, 0⟩] scope pos) (fun σ H Q => tLc wi g tt (te fun cls d H' => Wx cls d σ H') (own.map (·.2)) σ H Q) := by
  refine ⟨fun pins s σ H Q I h => ?_⟩
  rw [eval_ListComp]
  refine lc_coreX hst hfl tk hc hN I hi ok hg ht he hs h fun D C s' m H' I' q hn f cenv cl => ⟨m, by rw [cl]; exact hn, fun h'' sb => ?_⟩
  rw [cl] at sb
  obtain ⟨f0, f1, f2, f3, f4, f5⟩ := f
  exact ⟨.ref D, H', I'.turned (t' := s'.toks) (fun b o hb e => (sb.2 b hb).trans e) f0 f1 f3 f4 f5, rfl, q⟩
/-- name = [..] on one line, the name a local -/
theorem ps_setLcX {i : Nat} {y : Str} {py : Pos} {elt tg iter : Expr} {ifs : List Expr} {scope : Scope} {own : List (Str × Nat)} {pos spos : Pos} {wi : TI} {g : TG} {tt : TT} {te : XK → TE} {Wx : WX} (hst : X.stack = X.env :: X.outer) (hfl : X.env.frame = some X.env.locals) (tk : Takes X Wx) (hc : X.calm = true) (hN : X.N.Nodup) (hy : X.N[i]? = some y) (hyl : X.env.scope.names.lookup y = some .local)
    (hsw : swapsWith (.ListComp elt [⟨tg, iter, ifs, 0⟩] scope pos) (some (.Name y py)) spos.line X.env = pure true) (hi : PI X tg iter wi) (ok : BlkOk X.N X.env.scope scope own)
    (hg : ∀ (s : Shared) (H : Hp) (C : Addr) (cl : List (Str × Addr)) (fp : List Addr) (E : XK), PG (blkX X s H scope (compEnvC scope cl C X.env) fp E) tg g) (ht : ∀ (s : Shared) (H : Hp) (C : Addr) (cl : List (Str × Addr)) (fp : List Addr) (E : XK), PTs (blkX X s H scope (compEnvC scope cl C X.env) fp E) ifs tt)
    (he : ∀ (s : Shared) (H : Hp) (C : Addr) (cl : List (Str × Addr)) (fp : List Addr) (E : XK), PE (blkX X s H scope (compEnvC scope cl C X.env) fp E) elt (te E)) (hs : ∀ x, foldedSetIterable iter X.env x = pure x := by intro _; rfl) :
    PS X (.Assign [.Name y py] (.ListComp elt [⟨tg, iter, ifs, 0⟩] scope pos) spos) (tAsg (fun σ H Q => tLc wi g tt (te fun cls d H' => Wx cls d σ H') (own.map (·.2)) σ H Q) (gName i)) := by
  refine ⟨fun pins s σ H D I h => ?_⟩
  rw [exec_Assign_Name_used _ _ _ _ hsw]
  refine wpAny_bind (wpAny_standAt (wpAny_bind ?_))
  show wpAny _ X.A (do let _ ← comprehension (.ListComp elt [⟨tg, iter, ifs, 0⟩] scope pos) scope X.env (firstIterPos [⟨tg, iter, ifs, 0⟩] pos) (newList []) false (eval iter X.env) (some (assign (.Name y py) X.env))) _ _ s
  have h : tLc wi g tt (te fun cls d H' => Wx cls d σ H') (own.map (·.2)) σ H (fun x H1 => gName i x σ H1 D.nx) := h
  refine wpAny_bind (thn (lc_coreX (Qf := fun _ s' => SP X pins D .next s') hst hfl tk hc hN I hi ok hg ht he hs h fun L C s' m H' I' q hn f cenv cl => ?_) fun _ s' hq => wpAny_pure (wpAny_pure hq))
  show wpAny _ _ (assign (.Name y py) X.env (.ref L)) _ _ _
  refine wpAny_assign_Name (store_ok2 (v := V.ref L) I' hN hy (.inl hyl) rfl (fun s2 I2 ⟨a, sb, ha⟩ => ?_) (.inr hyl))
  obtain ⟨f0, f1, f2, f3, f4, f5⟩ := f
  have haC : C ≠ a := by
    rcases ha with z | z
    · rw [z]; exact f1
    · exact fun e => f4 y a z e.symm
  refine ⟨m, by rw [cl]; exact hn.sameBut sb haC, fun h3 sb3 => ?_⟩
  rw [cl] at sb3
  exact ⟨_, H', I2.turned (t' := s2.toks) (fun b o hb e => (sb3.2 b hb).trans e) f0 f1 f3 f4 f5, q⟩
end
end Kx

namespace Kx
open PySem PySem.Spec PyProof.Rows L2 TL
structure ReadyX (P : Program) (w : World) (K : PySem.W.Frag) (mg : Str → Option Value) (base : Heap) (k : Nat) (x : Str) (ps : List Str) (sp : Sp) : Prop where
  ex : ∃ f fd, FnOk P w K mg base (L2.CX P w) k f fd ps sp ∧ Binds K fd ps [] ∧ mg x = some (.ref f) ∧ PySem.W.keepIn K (.ref f) = true
theorem pe_fnX {X : Cx} {W : WX} {k : Nat} {x : Str} {ps : List Str} {sp : Sp} {p pos : Pos} {e : Expr} {es : List Expr} {t : TA} (G : ReadyX X.prog X.w X.K X.mg X.base k x ps sp) (hr : Room k X.A) (tk : Takes X W) (ha : PA X (e :: es) t) (hg : Gl X x := by rfl)
    (hdb : (x == ("__debug__" : Str)) = false := by decide) (he : starEach (e :: es) X.env = (false, eval e X.env) :: starEach es X.env := by rfl) (hpl : (backTo pos (starEach es X.env)).any (·.1) = false := by rfl) :
    PE X (.Call (.Name x p) (e :: es) [] pos) (tCallS sp (WE W) t) := by
  obtain ⟨f, fd, h, hb, hm, hk⟩ := G.ex
  exact pe_callS h hr hg hm hk hb (fun σ => passAt tk σ) ha hdb he hpl
/-- where what is raised is not told of the slots -/
theorem pe_fnE {X : Cx} {E : XK} {k : Nat} {x : Str} {ps : List Str} {sp : Sp} {p pos : Pos} {e : Expr} {es : List Expr} {t : TA} (G : ReadyX X.prog X.w X.K X.mg X.base k x ps sp) (hr : Room k X.A) (hx : Passes (L2.CX X.prog X.w) X E) (ha : PA X (e :: es) t) (hg : Gl X x := by rfl)
    (hdb : (x == ("__debug__" : Str)) = false := by decide) (he : starEach (e :: es) X.env = (false, eval e X.env) :: starEach es X.env := by rfl) (hpl : (backTo pos (starEach es X.env)).any (·.1) = false := by rfl) :
    PE X (.Call (.Name x p) (e :: es) [] pos) (tCall sp [] E t) := by
  obtain ⟨f, fd, h, hb, hm, hk⟩ := G.ex
  exact pe_call h hr hg hm hk hb .nil hx ha hdb he hpl
/-- in a block of a comprehension -/
theorem pe_fnB {X : Cx} {k : Nat} {x : Str} {ps : List Str} {sp : Sp} {p pos : Pos} {e : Expr} {es : List Expr} {t : TA} {s : Shared} {H : Hp} {scope : Scope} {cenv : Env} {fp : List Addr} {E : XK} (G : ReadyX X.prog X.w X.K X.mg X.base k x ps sp) (hr : Room k X.A)
    (ha : PA (blkX X s H scope cenv fp E) (e :: es) t) (hg : Gl (blkX X s H scope cenv fp E) x)
    (hdb : (x == ("__debug__" : Str)) = false := by decide) (he : starEach (e :: es) cenv = (false, eval e cenv) :: starEach es cenv := by rfl) (hpl : (backTo pos (starEach es cenv)).any (·.1) = false := by rfl) :
    PE (blkX X s H scope cenv fp E) (.Call (.Name x p) (e :: es) [] pos) (tCall sp [] E t) := by
  obtain ⟨f, fd, h, hb, hm, hk⟩ := G.ex
  exact pe_call (X := blkX X s H scope cenv fp E) h hr hg hm hk hb .nil passes_blk ha hdb he hpl
/-- a def that may raise, called where it does not -/
theorem pe_fnN {X : Cx} {k : Nat} {x : Str} {ps : List Str} {sp : Sp} {p pos : Pos} {e : Expr} {es : List Expr} {t : TA} (G : ReadyX X.prog X.w X.K X.mg X.base k x ps sp) (hr : Room k X.A) (ha : PA X (e :: es) t) (hg : Gl X x := by rfl)
    (hdb : (x == ("__debug__" : Str)) = false := by decide) (he : starEach (e :: es) X.env = (false, eval e X.env) :: starEach es X.env := by rfl) (hpl : (backTo pos (starEach es X.env)).any (·.1) = false := by rfl) :
    PE X (.Call (.Name x p) (e :: es) [] pos) (tCall sp [] E0 t) := by
  obtain ⟨f, fd, h, hb, hm, hk⟩ := G.ex
  exact pe_call h hr hg hm hk hb .nil (fun _ _ _ _ _ _ _ ⟨_, _, _, _, _, _, _, _, _, _, _, _, z⟩ => z.elim) ha hdb he hpl
/-- a method of the class at C -/
structure ReadyM (P : Program) (w : World) (K : PySem.W.Frag) (mg : Str → Option Value) (base : Heap) (C : Addr) (k : Nat) (m : Str) (ps : List Str) (sp : Sp) : Prop where
  ex : ∃ f fd, FnOk P w K mg base (L2.CX P w) k f fd ps sp ∧ Binds K fd ps [] ∧ Meth K C m f
theorem pe_m {X : Cx} {E : XK} {C : Addr} {k : Nat} {m : Str} {ps : List Str} {sp : Sp} {apos pos : Pos} {o e : Expr} {es : List Expr} {ta : TE} {t : TA} {pl : Sem Bool} (G : ReadyM X.prog X.w X.K X.mg X.base C k m ps sp) (c : Cls X.K C) (hr : Room k X.A) (hx : Passes (L2.CX X.prog X.w) X E) (he : PE X o ta) (ha : PA X (e :: es) t)
    (hst : starEach (e :: es) X.env = (false, eval e X.env) :: starEach es X.env := by rfl) (hpl : (backTo pos (starEach es X.env)).any (·.1) = false := by rfl)
    (ht : eval (.Call (.Attribute o m apos) (e :: es) [] pos) X.env = (do
      let ov ← eval o X.env
      standAt apos.atName
      let (f, first) ← holding [ov] (getMethod ov m pl)
      callWith pos f first (backTo pos (starEach (e :: es) X.env)) (backToKw pos (keywordEach [] X.env))) := by rfl) :
    PE X (.Call (.Attribute o m apos) (e :: es) [] pos) (tMeth C m sp [] E ta t) := by
  obtain ⟨f, fd, F, hb, hm⟩ := G.ex
  exact pe_meth he c hm F hr hb .nil hx ha hst hpl ht
theorem pe_m0' {X : Cx} {E : XK} {C : Addr} {k : Nat} {m : Str} {ps : List Str} {sp : Sp} {apos pos : Pos} {o : Expr} {ta : TE} {pl : Sem Bool} (G : ReadyM X.prog X.w X.K X.mg X.base C k m ps sp) (c : Cls X.K C) (hr : Room k X.A) (hx : Passes (L2.CX X.prog X.w) X E) (he : PE X o ta)
    (ht : eval (.Call (.Attribute o m apos) [] [] pos) X.env = (do
      let ov ← eval o X.env
      standAt apos.atName
      let (f, first) ← holding [ov] (getMethod ov m pl)
      callWith pos f first (backTo pos (starEach [] X.env)) (backToKw pos (keywordEach [] X.env))) := by rfl) :
    PE X (.Call (.Attribute o m apos) [] [] pos) (tMeth C m sp [] E ta tNil) := by
  obtain ⟨f, fd, F, hb, hm⟩ := G.ex
  exact pe_meth0 he c hm F hr hb .nil hx ht
/-- the errors of a def's own calls go on -/
theorem onward {X : Cx} {E : XK} (tk : Takes X (fun cls d _ H => E cls d H)) : Passes (L2.CX X.prog X.w) X E := passes_call tk fun _ _ _ _ h => h
theorem cut_map (xs : List Int) (lo hi : Option Int) : ∃ ys : List Int, cutV (xs.map V.int) lo hi = ys.map V.int := by
  unfold cutV
  rw [← List.map_drop, ← List.map_take]
  exact ⟨_, rfl⟩
theorem iteNB {c : Bool} {A B : Prop} (h : c = true) (q : B) : if (!c) = true then A else B := by
  rw [h]
  exact q
theorem next_it {nx : L2.St → Hp → Prop} {rt : VK} {bk ct : L2.St → Hp → Prop} {σ : L2.St} {H : Hp} (h : nx σ H) : tNext ⟨nx, rt, bk, ct⟩ σ H := h
theorem seq_set {te : TE} {i : Nat} {u : TS} {D : Ends} {σ : L2.St} {H : Hp} (h : te σ H fun x H1 => u D (σ.set i (some x)) H1) : tSeq (tAsg te (gName i)) u D σ H := h
theorem seq_it {t : TS} {u : TS} {D : Ends} {σ : L2.St} {H : Hp} (h : t { D with nx := fun σ2 H2 => u D σ2 H2 } σ H) : tSeq t u D σ H := h
mutual
theorem Dp.same' {K : PySem.W.Frag} {H H' : Hp} (h : Same H H') : ∀ {v : V} {d : PyData}, Dp K H v d → Dp K H' v d
  | _, _, .non => .non
  | _, _, .bl b => .bl b
  | _, _, .int i => .int i
  | _, _, .str x => .str x
  | _, _, .lst q r => .lst (Same.sqL h q) (DpAll.same' h r)
  | _, _, .tup q r => .tup (Same.sqT h q) (DpAll.same' h r)
theorem DpAll.same' {K : PySem.W.Frag} {H H' : Hp} (h : Same H H') : ∀ {vs : List V} {ds : List PyData}, DpAll K H vs ds → DpAll K H' vs ds
  | _, _, .nil => .nil
  | _, _, .cons q r => .cons (Dp.same' h q) (DpAll.same' h r)
end
theorem refl_of {d : PyData} (h : SeqAt.shaped d = true) : PyData.eqv d d = true := SeqAt.eqv_refl d (SeqAt.canLay_of_shaped h)
theorem join_len (s : Nat) : ∀ ps : List (List Nat), (joinL [s] ps).length ≤ (ps.map List.length).sum + ps.length
  | [] => Nat.zero_le _
  | [p] => by simp [joinL]
  | p :: q :: r => by
    have := join_len s (q :: r)
    show (p ++ ([s] ++ joinL [s] (q :: r))).length ≤ _
    simp only [List.length_append, List.length_cons, List.map_cons, List.sum_cons, List.length_nil] at this ⊢
    omega
theorem tl_joinB (ws : List Str) : tl (Txt.join " " ws) = joinL [32] (ws.map tl) := by rw [join_eq, tl_join, tl_blank]
theorem tl_joinF (ws : List Str) : tl (Txt.join "\n" ws) = joinL [10] (ws.map tl) := by rw [join_eq, tl_join, tl_feed]
theorem map_mk_tl (ws : List Str) : (ws.map tl).map mkS = ws := by
  rw [List.map_map]
  exact (List.map_congr_left fun a _ => mk_tl a).trans (List.map_id' ws)
theorem lines_join {ws : List Str} (hne : ws ≠ []) (h : ∀ z ∈ ws, 10 ∉ tl z) : linesOf (Txt.join "\n" ws) = ws := by
  unfold linesOf
  rw [tl_joinF, spl_join (fun e => hne (List.map_eq_nil_iff.mp e)) (fun p hp => by
    obtain ⟨z, hz, rfl⟩ := List.mem_map.mp hp
    exact h z hz), map_mk_tl]
theorem joinL_mem {s c : Nat} : ∀ {ps : List (List Nat)}, c ∈ joinL [s] ps → c = s ∨ ∃ p ∈ ps, c ∈ p
  | [], h => by cases h
  | [p], h => .inr ⟨p, List.mem_cons_self, h⟩
  | p :: q :: r, h => by
    have h : c ∈ p ++ ([s] ++ joinL [s] (q :: r)) := h
    rcases List.mem_append.mp h with h | h
    · exact .inr ⟨p, List.mem_cons_self, h⟩
    · rcases List.mem_append.mp h with h | h
      · exact .inl (List.mem_singleton.mp h)
      · rcases joinL_mem h with h | ⟨x, hx, h⟩
        · exact .inl h
        · exact .inr ⟨x, List.mem_cons_of_mem _ hx, h⟩
theorem sum_le {α : Type} {g : α → Nat} {c : Nat} : ∀ {l : List α}, (∀ x ∈ l, g x ≤ c) → (l.map g).sum ≤ l.length * c
  | [], _ => by simp
  | x :: r, h => by
    have h1 := h x List.mem_cons_self
    have h2 := sum_le (l := r) fun y hy => h y (List.mem_cons_of_mem _ hy)
    rw [List.map_cons, List.sum_cons, List.length_cons, Nat.succ_mul]
    omega
end Kx

namespace Kx
open PySem PySem.Spec PyProof.Rows L2 TL
/-! ### pieces, as the program cuts them -/
def isLet (c : Nat) : Bool := (decide (97 ≤ c) && decide (c ≤ 122)) || decide (c = 95)
def isRun (c : Nat) : Bool := isLet c || isFig c
def runLen (l : List Nat) : Nat := (l.takeWhile isRun).length
def owns : List Str := ["read", "filter", "where", "map", "to", "as", "fold", "by", "join", "union", "unlike", "sort", "first", "up", "down", "answer", "and", "or", "not", "mod", "length", "int", "text", "count", "sum", "least", "greatest", "mean"]
def longs : List Str := ["!=", "<=", ">="]
def shorts : List Nat := [40, 41, 44, 61, 60, 62, 43, 45, 42, 47, 58]
def isNumB (l : List Nat) : Bool := decide (l = [48]) || (decide (l.length ≤ 18) && decide (l.head? ≠ some 48) && l.all isFig)
inductive PV where
  | tx (z : Str)
  | nm (n : Nat)
  deriving DecidableEq
structure Pc where
  kind : Str
  val : PV
  col : Nat
  deriving DecidableEq
/-- the piece that begins a text: its kind, its value, how many signs it has -/
def pcAt (l : List Nat) : Option (Str × PV × Nat) :=
  match l with
  | [] => none
  | c :: r =>
    if isLet c = true then
      (if mkS (l.takeWhile isRun) ∈ owns then some ("own", .tx (mkS (l.takeWhile isRun)), runLen l) else some ("name", .tx (mkS (l.takeWhile isRun)), runLen l))
    else if isFig c = true then
      (if isNumB (l.takeWhile isRun) = true then some ("number", .nm (NumText.digitsVal (l.takeWhile isRun)), runLen l) else none)
    else if c = 34 then
      (if 34 ∈ r then some ("quoted", .tx (mkS (r.takeWhile fun x => decide (x ≠ 34))), (r.takeWhile fun x => decide (x ≠ 34)).length + 2) else none)
    else if mkS (l.take 2) ∈ longs then some ("own", .tx (mkS (l.take 2)), 2)
    else if c ∈ shorts then some ("own", .tx (mkS [c]), 1)
    else none
def isBr (k : Str) (v : PV) : Bool := decide (k = "own") && (decide (v = .tx "(") || decide (v = .tx ")"))
/-- the pieces of what is left of a line: at tells how many signs stand ahead, many how many pieces but brackets, all how many signs the line has -/
def pcs (all : Nat) : Nat → Nat → Nat → List Nat → Except Nat (List Pc)
  | 0, _, _, _ => .ok []
  | f + 1, at_, many, l => match l with
    | [] => .ok [⟨"end", .tx "", all + 1⟩]
    | c :: r =>
      if c = 35 then .ok [⟨"end", .tx "", all + 1⟩]
      else if c = 32 then pcs all f (at_ + 1) many r
      else match pcAt (c :: r) with
        | none => .error (at_ + 1)
        | some (k, v, n) =>
          if 300 < (if isBr k v = true then many else many + 1) then .error (at_ + 1)
          else match pcs all f (at_ + n) (if isBr k v = true then many else many + 1) ((c :: r).drop n) with
            | .error e => .error e
            | .ok ps => .ok (⟨k, v, at_ + 1⟩ :: ps)
def piecesOf (z : Str) : Except Nat (List Pc) := pcs z.length (z.length + 1) 0 0 (tl z)
theorem runLen_pos {c : Nat} {r : List Nat} (h : isRun c = true) : 0 < runLen (c :: r) := by
  unfold runLen
  rw [List.takeWhile_cons, h]
  exact Nat.succ_pos _
theorem runLen_le (l : List Nat) : runLen l ≤ l.length := by
  unfold runLen
  exact (List.takeWhile_prefix _).length_le
theorem pcAt_pos {l : List Nat} {k : Str} {v : PV} {n : Nat} (h : pcAt l = some (k, v, n)) : 0 < n ∧ n ≤ l.length + 1 := by
  unfold pcAt at h
  match l with
  | [] => cases h
  | c :: r =>
    simp only at h
    split at h
    · rename_i hc
      have hp := runLen_pos (c := c) (r := r) (by unfold isRun; rw [hc]; rfl)
      have hl := runLen_le (c :: r)
      split at h <;> (obtain ⟨-, -, rfl⟩ := (by simpa using h : _ ∧ _ ∧ _); omega)
    · split at h
      · rename_i hc
        have hp := runLen_pos (c := c) (r := r) (by unfold isRun; rw [hc]; simp)
        have hl := runLen_le (c :: r)
        split at h
        · obtain ⟨-, -, rfl⟩ := (by simpa using h : _ ∧ _ ∧ _)
          omega
        · cases h
      · split at h
        · split at h
          · rename_i hm
            have hl := (List.takeWhile_prefix (p := fun x => decide (x ≠ 34)) (l := r)).length_le
            obtain ⟨-, -, rfl⟩ := (by simpa using h : _ ∧ _ ∧ _)
            simp only [List.length_cons]
            simp only [ne_eq] at hl
            constructor
            · omega
            · simp only [decide_not] at hl ⊢
              omega
          · cases h
        · split at h
          · rename_i hl
            obtain ⟨-, -, rfl⟩ := (by simpa using h : _ ∧ _ ∧ _)
            simp only [List.length_cons]
            omega
          · split at h
            · obtain ⟨-, -, rfl⟩ := (by simpa using h : _ ∧ _ ∧ _)
              simp only [List.length_cons]
              omega
            · cases h
example : piecesOf "a = b (12, \"x y\") # z" = .ok [⟨"name", .tx "a", 1⟩, ⟨"own", .tx "=", 3⟩, ⟨"name", .tx "b", 5⟩, ⟨"own", .tx "(", 7⟩, ⟨"number", .nm 12, 8⟩, ⟨"own", .tx ",", 10⟩, ⟨"quoted", .tx "x y", 12⟩, ⟨"own", .tx ")", 17⟩, ⟨"end", .tx "", 22⟩] := by rfl
end Kx

namespace Kx
open PySem PySem.Spec PyProof.Rows L2 TL
abbrev s_is_figure : Stmt := topS 17
abbrev s_is_letter : Stmt := topS 18
abbrev s_run_end : Stmt := topS 19
abbrev s_is_number : Stmt := topS 21
section
variable {P : Program} {w : World} {K : PySem.W.Frag} {mg : Str → Option Value} {base : Heap}
def spFig : Sp := fun vs H Q _ => ∃ c : Nat, vs = [.str ⟨#[c]⟩] ∧ Q (.bl (isFig c)) H
theorem sc_figure : FnScope ["sign"] ["sign"] (defScope s_is_figure) := ⟨rfl, rfl, rfl, by decide +kernel, rfl, by decide +kernel, by decide +kernel⟩
theorem not_lt_one (a b : Nat) : (!decide (([a] : List Nat) < [b])) = decide (b ≤ a) := by
  rw [lt_one]
  by_cases h : b ≤ a
  · have h2 : ¬ a < b := by omega
    simp [h, h2]
  · have h2 : a < b := by omega
    simp [h, h2]
theorem ok_figure {f : Addr} {fd : FuncData} (F : Fun K "is_figure" "is_figure" s_is_figure f fd) : FnOk P w K mg base CX0 1 f fd ["sign"] spFig := by
  refine F.ok sc_figure (fun vs H Q E h => ?_) (fun cdv A outer s H vs Q E hr h => ?_)
  · obtain ⟨c, rfl, _⟩ := h
    rfl
  obtain ⟨c, rfl, q⟩ := h
  refine ⟨_, pss_one (ps_ret (pe_chain op_le_str op_le_str pe_str (pv 0) pe_str)), ?_⟩
  have e1 : ((Str.ofString "0").cps.toList) = [48] := by decide +kernel
  have e2 : ((Str.ofString "9").cps.toList) = [57] := by decide +kernel
  refine ⟨_, rfl, _, _, rfl, rfl, _, rfl, ?_⟩
  rw [e1]
  show (if (!decide (([c] : List Nat) < [48])) = true then _ else _)
  rw [not_lt_one]
  unfold isFig at q
  refine ite2 (fun h => ⟨_, _, rfl, rfl, ?_⟩) (fun h => ?_)
  · rw [e2]
    show Q (.bl (!decide (([57] : List Nat) < [c]))) H
    rw [not_lt_one]
    rw [decide_eq_true (of_decide_eq_true h), Bool.true_and] at q
    exact q
  · rw [Bool.eq_false_iff.mpr h, Bool.false_and] at q
    exact q
def spLet : Sp := fun vs H Q _ => ∃ c : Nat, vs = [.str ⟨#[c]⟩] ∧ Q (.bl (isLet c)) H
theorem sc_letter : FnScope ["sign"] ["sign"] (defScope s_is_letter) := ⟨rfl, rfl, rfl, by decide +kernel, rfl, by decide +kernel, by decide +kernel⟩
theorem one_sign (c d : Nat) : decide (V.str ⟨#[c]⟩ = V.str ⟨#[d]⟩) = decide (c = d) := by
  by_cases h : c = d
  · rw [h, decide_eq_true rfl, decide_eq_true rfl]
  · rw [decide_eq_false h]
    refine decide_eq_false fun e => h ?_
    injection e with e
    injection e with e
    simpa using congrArg Array.toList e
theorem ok_letter {f : Addr} {fd : FuncData} (F : Fun K "is_letter" "is_letter" s_is_letter f fd) : FnOk P w K mg base CX0 1 f fd ["sign"] spLet := by
  refine F.ok sc_letter (fun vs H Q E h => ?_) (fun cdv A outer s H vs Q E hr h => ?_)
  · obtain ⟨c, rfl, _⟩ := h
    rfl
  obtain ⟨c, rfl, q⟩ := h
  refine ⟨_, pss_one (ps_ret (pe_or (pe_chain op_le_str op_le_str pe_str (pv 0) pe_str) (pe_one (pe_cmpR op_eq (pv 0) pe_str (nomark _))))), ?_⟩
  have e1 : ((Str.ofString "a").cps.toList) = [97] := by decide +kernel
  have e2 : ((Str.ofString "z").cps.toList) = [122] := by decide +kernel
  have e3 : (Str.ofString "_") = ⟨#[95]⟩ := by decide +kernel
  unfold isLet at q
  have fin : ∀ b, b = (decide (97 ≤ c) && decide (c ≤ 122)) → ∃ k, V.bl b = .bl k ∧ if k = true then Q (.bl true) H else tOp rEq (tVar 0) (tC (V.str (Str.ofString "_"))) (L2.start ["sign"] [V.str ⟨#[c]⟩]) H Q := fun b hb => by
    refine ⟨b, rfl, ?_⟩
    rw [← hb] at q
    cases b with
    | true =>
      rw [Bool.true_or] at q
      exact iteT q
    | false =>
      rw [Bool.false_or, ← one_sign] at q
      refine iteF ⟨_, rfl, rfl, ?_⟩
      rw [e3]
      exact q
  refine ⟨_, rfl, _, _, rfl, rfl, _, rfl, ?_⟩
  rw [e1]
  show (if (!decide (([c] : List Nat) < [97])) = true then _ else _)
  rw [not_lt_one]
  refine ite2 (fun h => ⟨_, _, rfl, rfl, ?_⟩) (fun h => ?_)
  · rw [e2]
    refine fin _ ?_
    show (!decide (([122] : List Nat) < [c])) = _
    rw [not_lt_one, decide_eq_true (of_decide_eq_true h), Bool.true_and]
  · refine fin _ ?_
    rw [Bool.eq_false_iff.mpr h, Bool.false_and]
def spRunEnd : Sp := fun vs H Q _ => ∃ (z : Str) (i : Nat), vs = [.str z, .int (i : Int)] ∧ z.length ≤ 100000 ∧ i ≤ z.length ∧ Q (.int ((i + runLen ((tl z).drop i) : Nat) : Int)) H
theorem sc_runend : FnScope ["text", "at"] ["text", "at"] (defScope s_run_end) := ⟨rfl, rfl, rfl, by decide +kernel, rfl, by decide +kernel, by decide +kernel⟩
theorem at_str {z : Str} {i c : Nat} (h : (tl z)[i]? = some c) : atI z.cps.toList (i : Int) = some c := atI_nat (j := i) h
theorem ok_runend {f : Addr} {fd : FuncData} (F : Fun K "run_end" "run_end" s_run_end f fd) (m_len : mg "len" = none) (G_is_letter : Ready P w K mg base 1 "is_letter" ["sign"] spLet) (G_is_figure : Ready P w K mg base 1 "is_figure" ["sign"] spFig) : FnOk P w K mg base CX0 2 f fd ["text", "at"] spRunEnd := by
  refine F.ok sc_runend (fun vs H Q E h => ?_) (fun cdv A outer s H vs Q E hr h => ?_)
  · obtain ⟨z, i, rfl, _⟩ := h
    rfl
  obtain ⟨z, i, rfl, hz, hi, q⟩ := h
  have nd := sc_runend.nd
  have zl : z.length ≤ sizeLine := Nat.le_trans hz (by decide)
  refine ⟨_, pss_cons (ps_while PassesOwn.never (PW.pt (pw_and (pt_cmpR op_lt (pv 1) (pe_callB call_len_str (by rfl) m_len PySem.boot_len (pa_cons (pv 0) pa_nil)) (nomark _)) (pw_and1 (PW.pt (pw_or (pt_val (pe_fn G_is_letter (hr.mono (by decide)) (pa_cons (pe_ix ix_str (pv 0) (pv 1) (fun _ _ => rfl)) pa_nil))) (pw_or1 (pt_val (pe_fn G_is_figure (hr.mono (by decide)) (pa_cons (pe_ix ix_str (pv 0) (pv 1) (fun _ _ => rfl)) pa_nil))))))))) (pss_one (ps_aug (i := 1) nd rfl (.inl rfl) pe_int ip_add)))
    (pss_one (ps_ret (pv 1))), ?_⟩
  have step : ∀ j : Nat, j + runLen ((tl z).drop j) = i + runLen ((tl z).drop i) → ∀ c, (tl z)[j]? = some c → isRun c = true → (j + 1) + runLen ((tl z).drop (j + 1)) = i + runLen ((tl z).drop i) := fun j e c hc hr => by
    obtain ⟨hj, e2⟩ := List.getElem?_eq_some_iff.mp hc
    have : (tl z).drop j = c :: (tl z).drop (j + 1) := by
      rw [List.drop_eq_getElem_cons hj, e2]
    rw [this] at e
    unfold runLen at e ⊢
    rw [List.takeWhile_cons, hr] at e
    simp only [if_true, List.length_cons] at e
    omega
  have stop : ∀ j : Nat, j + runLen ((tl z).drop j) = i + runLen ((tl z).drop i) → (∀ c, (tl z)[j]? = some c → isRun c = false) → j = i + runLen ((tl z).drop i) := fun j e hc => by
    have h0 : runLen ((tl z).drop j) = 0 := by
      cases hd : (tl z).drop j with
      | nil => rfl
      | cons c r =>
        have : (tl z)[j]? = some c := by
          have := congrArg (·[0]?) hd
          simpa using this
        unfold runLen
        rw [List.takeWhile_cons, hc c this]
        rfl
    omega
  refine ⟨fun m σ H' => ∃ j : Nat, m = z.length - j ∧ σ = [some (.str z), some (.int (j : Int))] ∧ H' = H ∧ j ≤ z.length ∧ j + runLen ((tl z).drop j) = i + runLen ((tl z).drop i), ⟨_, i, rfl, rfl, rfl, hi, rfl⟩, ?_⟩
  rintro m σ H' ⟨j, rfl, rfl, rfl, hj, e⟩
  refine ⟨_, rfl, _, rfl, z, rfl, zl, _, _, rfl, rfl, _, rfl, ite2 (fun c1 => ?_) (fun c1 => ?_)⟩
  · have hlt : j < z.length := by
      have := of_decide_eq_true c1
      omega
    have hlt' : j < (tl z).length := by rw [← len_tl]; exact hlt
    have ec : (tl z)[j]? = some (tl z)[j] := List.getElem?_eq_getElem hlt'
    generalize (tl z)[j] = c at ec
    have next : isRun c = true → ∃ N : L2.St → Hp → Prop, (∀ σ' H2, N σ' H2 → ∃ m', m' < z.length - j ∧ ∃ j : Nat, m' = z.length - j ∧ σ' = [some (.str z), some (.int (j : Int))] ∧ H2 = H' ∧ j ≤ z.length ∧ j + runLen ((tl z).drop j) = i + runLen ((tl z).drop i)) ∧ N [some (.str z), some (.int ((j : Int) + 1))] H' := fun hr =>
      ⟨fun σ' H2 => σ' = [some (.str z), some (.int ((j : Int) + 1))] ∧ H2 = H', fun σ' H2 ⟨e1, e2⟩ => ⟨z.length - (j + 1), by omega, j + 1, rfl, by rw [e1, Int.natCast_add]; rfl, e2, hlt, step j e c ec hr⟩, rfl, rfl⟩
    refine ⟨_, rfl, _, rfl, _, _, c, rfl, rfl, zl, at_str ec, c, rfl, _, rfl, ?_⟩
    cases hl : isLet c with
    | true =>
      obtain ⟨N, n1, n2⟩ := next (by unfold isRun; rw [hl]; rfl)
      refine iteT (iteT ⟨N, n1, _, rfl, _, _, rfl, rfl, n2⟩)
    | false =>
      refine iteF ⟨_, rfl, _, rfl, _, _, c, rfl, rfl, zl, at_str ec, c, rfl, _, rfl, ?_⟩
      cases hf : isFig c with
      | true =>
        obtain ⟨N, n1, n2⟩ := next (by unfold isRun; rw [hl, hf]; rfl)
        exact iteT ⟨N, n1, _, rfl, _, _, rfl, rfl, n2⟩
      | false =>
        refine iteF ⟨_, rfl, ?_⟩
        rw [← stop j e (fun c' hc' => by
          rw [ec] at hc'
          rw [← Option.some.inj hc']
          unfold isRun
          rw [hl, hf]
          rfl)] at q
        exact q
  · refine iteF ⟨_, rfl, ?_⟩
    rw [← stop j e (fun c' hc' => by
      have : j < (tl z).length := (List.getElem?_eq_some_iff.mp hc').1
      rw [← len_tl] at this
      exact absurd (decide_eq_true (by omega)) c1)] at q
    exact q
end
end Kx

namespace Kx
open PySem PySem.Spec PyProof.Rows L2 TL
abbrev s_piece_at : Stmt := topS 22
section
variable {P : Program} {w : World} {K : PySem.W.Frag} {mg : Str → Option Value} {base : Heap}
/-! ### is_number -/
def spNumber : Sp := fun vs H Q _ => ∃ z : Str, vs = [.str z] ∧ z.length ≤ 100000 ∧ tl z ≠ [] ∧ ∀ H', Same H H' → Q (.bl (isNumB (tl z))) H'
abbrev N_is_number : List Str := ["run", "sign"]
theorem sc_number : FnScope N_is_number ["run"] (defScope s_is_number) := ⟨rfl, rfl, rfl, by decide +kernel, rfl, by decide +kernel, by decide +kernel⟩
theorem ok_number {f : Addr} {fd : FuncData} (F : Fun K "is_number" "is_number" s_is_number f fd) (m_len : mg "len" = none) (m_all : mg "all" = none) (m_M : ∃ t, mg "MOST_FIGURES" = some (.int 18 t)) (G_is_figure : Ready P w K mg base 1 "is_figure" ["sign"] spFig) :
    FnOk P w K mg base CX0 2 f fd ["run"] spNumber := by
  refine F.ok sc_number (fun vs H Q E h => ?_) (fun cdv A outer s H vs Q E hr h => ?_)
  · obtain ⟨c, rfl, _⟩ := h
    rfl
  obtain ⟨z, rfl, hz, hne, q⟩ := h
  obtain ⟨tM, m_M⟩ := m_M
  have nd := sc_number.nd
  refine ⟨_, pss_cons (ps_if (pt_cmpR op_eq (pv 0) pe_str (nomark _)) (pss_one (ps_ret pe_bl)) (pss_nil))
      (pss_one (ps_ret (pe_and (pe_cmpR op_le (pe_callB call_len_str (by rfl) m_len PySem.boot_len (pa_cons (pv 0) pa_nil)) (pe_glob (v := .int 18) rfl m_M ⟨_, rfl⟩) (nomark _)) (pe_and (pe_cmpR op_ne (pe_ix ix_str (pv 0) pe_int (fun _ _ => rfl)) pe_str (nomark _)) (pe_one (pe_callB (cr_all rfl) (by rfl) m_all PyProof.Rows.boot_all (pa_cons (pe_lc (own := [("sign", 1)]) (g := gName 1) (tt := tYes) rfl nd (pi_str (pv 0)) (blkOk_by (N := N_is_number) (sc := defScope s_is_number) (by decide +kernel)) (fun _ _ _ _ _ => pg_name (i := 1) nd rfl (Or.inl rfl)) (fun _ _ _ _ _ => pts_nil) (fun _ _ _ _ _ => (pe_fn G_is_figure (hr.mono (by decide)) (pa_cons (pv 1) pa_nil)))) pa_nil))))))), ?_⟩
  have zl : z.length ≤ sizeLine := Nat.le_trans hz (by decide)
  have e0 : ∀ {c : Nat}, (V.str ⟨#[c]⟩ = V.str "0") ↔ c = 48 := fun {c} => by
    have e : ("0" : Str) = ⟨#[48]⟩ := by decide +kernel
    rw [e]
    have h := one_sign c 48
    by_cases hc : c = 48
    · exact ⟨fun _ => hc, fun _ => by rw [hc]⟩
    · rw [decide_eq_false hc] at h
      exact ⟨fun z => absurd z (of_decide_eq_false h), fun z => absurd z hc⟩
  refine ⟨_, rfl, rfl, _, rfl, ite2 (fun c => ?_) (fun c => ?_)⟩
  · have c' : z = "0" := V.str.inj (of_decide_eq_true c)
    have e : isNumB (tl z) = true := by
      rw [c']
      decide +kernel
    rw [e] at q
    exact q _ (Same.refl _)
  have nz : tl z ≠ [48] := fun e => c (decide_eq_true (by
    have e2 : z = ⟨#[48]⟩ := by
      obtain ⟨⟨l⟩⟩ := z
      exact congrArg (fun x : List Nat => (⟨x.toArray⟩ : Str)) e
    rw [e2]
    decide +kernel))
  unfold isNumB at q
  rw [decide_eq_false nz, Bool.false_or] at q
  have hl18 : decide ((z.length : Int) ≤ 18) = decide ((tl z).length ≤ 18) := by
    rw [len_tl]
    exact decide_eq_decide.mpr (by omega)
  obtain ⟨c0, r0, ez⟩ : ∃ c0 r0, tl z = c0 :: r0 := by
    cases e : tl z with
    | nil => exact absurd e hne
    | cons c r => exact ⟨c, r, rfl⟩
  have hd : ((tl z).head? ≠ some 48) = (c0 ≠ 48) := by
    rw [ez]
    exact propext ⟨fun h e => h (by rw [e]; rfl), fun h e => h (Option.some.inj e)⟩
  refine ⟨_, rfl, _, rfl, zl, _, _, rfl, rfl, _, rfl, ?_⟩
  rw [hl18]
  refine ite2 (fun c1 => ?_) (fun c1 => ?_)
  · rw [c1, Bool.true_and] at q
    refine ⟨_, rfl, z, ((0 : Nat) : Int), c0, rfl, rfl, zl, at_str (by rw [ez]; rfl), rfl, _, rfl, ite2 (fun c2 => ?_) (fun c2 => ?_)⟩
    · have h48 : c0 ≠ 48 := fun e => by
        rw [decide_eq_true (e0.mpr e)] at c2
        cases c2
      rw [decide_eq_true (show (tl z).head? ≠ some 48 by rw [hd]; exact h48), Bool.true_and] at q
      refine ⟨_, rfl, _, rfl, fun D hD => ?_⟩
      refine lc_it walk_str (fun i H' => Same H H' ∧ H' D = some (.lst ((((tl z).map isFig).take i).map V.bl))) ⟨same_upd hD, upd_same⟩ (fun _ _ _ _ => trivial) ?_ ?_
      · rintro i v H2 H3 hi ⟨sm, eD⟩ ⟨rfl, ch, ec, rfl⟩
        have ec' : (tl z)[i]? = some ch := by
          rw [← ec]
          exact Array.getElem?_toList
        have hk : ((tl z).map isFig).take (i + 1) = ((tl z).map isFig).take i ++ [isFig ch] := by
          rw [List.take_succ, List.getElem?_map, ec']
          rfl
        refine ⟨rfl, _, rfl, ch, rfl, _, eD, ?_, fun b o e => ?_, ?_⟩
        · rw [List.length_map, List.length_take, List.length_map]
          exact Nat.lt_of_le_of_lt (Nat.min_le_left _ _) (Nat.lt_of_lt_of_le hi zl)
        · rw [upd_ne (ne_of_none e hD)]
          exact sm _ _ e
        · rw [upd_same, hk, List.map_append]
          rfl
      rintro H2 ⟨sm, eD⟩
      have eT : ((tl z).map isFig).take z.cps.size = (tl z).map isFig := by
        apply List.take_of_length_le
        rw [List.length_map]
        exact Nat.le_of_eq (len_tl z).symm
      rw [eT] at eD
      have ea : ((tl z).map isFig).all id = (tl z).all isFig := by
        rw [List.all_map]
        rfl
      refine ⟨D, _, rfl, SqL.of eD, ?_⟩
      rw [ea]
      exact q _ sm
    · have h48 : c0 = 48 := Classical.byContradiction fun z => c2 (by rw [decide_eq_false (fun h => z (e0.mp h))]; rfl)
      rw [decide_eq_false (show ¬ ((tl z).head? ≠ some 48) by rw [hd]; exact fun h => h h48), Bool.false_and] at q
      exact q _ (Same.refl _)
  · rw [Bool.eq_false_iff.mpr c1, Bool.false_and] at q
    exact q _ (Same.refl _)
end
end Kx

namespace Kx
open PySem PySem.Spec PyProof.Rows L2 TL
theorem take_min {l : List Nat} {i n : Nat} (hi : i ≤ l.length) : (l.drop i).take (min (i + n) l.length - i) = (l.drop i).take n := by
  by_cases h : i + n ≤ l.length
  · rw [Nat.min_eq_left h]
    congr 1
    omega
  · rw [Nat.min_eq_right (by omega), List.take_of_length_le (by rw [List.length_drop]; exact Nat.le_refl _), List.take_of_length_le (by rw [List.length_drop]; omega)]
theorem cutS_part {z : Str} {i n : Nat} (h : i ≤ z.length) : cutS z (some (i : Int)) (some ((i + n : Nat) : Int)) = mkS (((tl z).drop i).take n) := by
  unfold cutS mkS
  rw [HT.sIx_nat, HT.sIx_nat, Nat.min_eq_left h, len_tl, take_min (by rw [← len_tl]; exact h)]
theorem take_run (p : Nat → Bool) (l : List Nat) : l.take (l.takeWhile p).length = l.takeWhile p := (List.prefix_iff_eq_take.mp (List.takeWhile_prefix p)).symm
theorem run_int {l : List Nat} (h : isNumB l = true) (hne : l ≠ []) : intText? (mkS l) = some ((NumText.digitsVal l : Nat) : Int) ∧ (mkS l).length ≤ 640 := by
  have hf : l.all isFig = true ∧ l.length ≤ 18 := by
    unfold isNumB at h
    rcases Bool.or_eq_true_iff.mp h with h | h
    · have e := of_decide_eq_true h
      subst e
      exact ⟨by decide, by decide⟩
    · rw [Bool.and_eq_true_iff, Bool.and_eq_true_iff] at h
      exact ⟨h.2, of_decide_eq_true h.1.1⟩
  have hl : (mkS l).length = l.length := by
    unfold mkS Str.length
    simp
  have et : (mkS l).cps.toList = l := by
    unfold mkS
    simp
  refine ⟨?_, by omega⟩
  have h2 := intText_digits (x := mkS l) (fun c hc => ?_) (by rw [et]; exact hne) (by omega)
  · rw [et] at h2
    exact h2
  · rw [et] at hc
    have := List.all_eq_true.mp hf.1 c hc
    unfold isFig at this
    rw [Bool.and_eq_true] at this
    exact ⟨of_decide_eq_true this.1, of_decide_eq_true this.2⟩
theorem tw_at {l : List Nat} {k : Nat} (hk : l[k]? = some 34) (hb : ∀ v, v < k → ∀ c, l[v]? = some c → c ≠ 34) : (l.takeWhile fun x => decide (x ≠ 34)).length = k := by
  induction l generalizing k with
  | nil => cases hk
  | cons a l ih =>
    cases k with
    | zero =>
      have e : a = 34 := by simpa using hk
      subst e
      rfl
    | succ k =>
      have ha : a ≠ 34 := hb 0 (Nat.succ_pos _) a rfl
      rw [List.takeWhile_cons, if_pos (decide_eq_true ha), List.length_cons, ih (by simpa using hk) fun v hv c hc => hb (v + 1) (Nat.succ_lt_succ hv) c (by simpa using hc)]
theorem flat_strs : ∀ l : List Str, (l.map V.str).all flatV = true
  | [] => rfl
  | _ :: l => flat_strs l
theorem inV_str (z : Str) : ∀ l : List Str, inV (.str z) (l.map V.str) = decide (z ∈ l)
  | [] => rfl
  | x :: r => by
    have ih := inV_str z r
    show (x == z || inV (.str z) (r.map V.str)) = _
    rw [ih]
    by_cases h : x = z
    · subst h
      simp
    · have h' : ¬ z = x := fun e => h e.symm
      simp [h, h']
theorem in_strs {z : Str} {l : List Str} {A B : Prop} (h1 : z ∈ l → A) (h2 : z ∉ l → B) : if (if false = true then !inV (.str z) (l.map V.str) else inV (.str z) (l.map V.str)) = true then A else B := by
  rw [if_neg Bool.false_ne_true, inV_str]
  by_cases h : z ∈ l
  · rw [decide_eq_true h]
    exact iteT (h1 h)
  · rw [decide_eq_false h]
    exact iteF (h2 h)
def pvV : PV → V
  | .tx z => .str z
  | .nm n => .int (n : Int)
/-- the program's tables of pieces -/
structure Tbl (K : PySem.W.Frag) (mg : Str → Option Value) : Prop where
  own : ∃ a, mg "OWN_WORDS" = some (.ref a) ∧ ∀ H : Hp, SqT K H a (owns.map V.str)
  lng : ∃ a, mg "LONG_SIGNS" = some (.ref a) ∧ ∀ H : Hp, SqT K H a (longs.map V.str)
  sho : ∃ t, mg "SHORT_SIGNS" = some (.str "(),=<>+-*/:" t)
section
variable {P : Program} {w : World} {K : PySem.W.Frag} {mg : Str → Option Value} {base : Heap}
def spPiece : Sp := fun vs H Q _ => ∃ (z : Str) (i : Nat), vs = [.str z, .int (i : Int)] ∧ z.length ≤ 100000 ∧ i < z.length ∧ (pcAt ((tl z).drop i) = none → ∀ H', Same H H' → Q .non H') ∧
  ∀ k v n, pcAt ((tl z).drop i) = some (k, v, n) → ∀ (p : Addr) (H' : Hp), Same H H' → H' p = some (.tup [.str k, pvV v, .int ((i + n : Nat) : Int)]) → Q (.ref p) H'
abbrev N_piece_at : List Str := ["text", "at", "sign", "end", "run"]
theorem sc_piece : FnScope N_piece_at ["text", "at"] (defScope s_piece_at) := ⟨rfl, rfl, rfl, by decide +kernel, rfl, by decide +kernel, by decide +kernel⟩
theorem ok_piece {f : Addr} {fd : FuncData} (F : Fun K "piece_at" "piece_at" s_piece_at f fd) (T : Tbl K mg) (m_int : mg "int" = none) (G_is_letter : Ready P w K mg base 1 "is_letter" ["sign"] spLet) (G_is_figure : Ready P w K mg base 1 "is_figure" ["sign"] spFig) (G_run_end : Ready P w K mg base 2 "run_end" ["text", "at"] spRunEnd) (G_is_number : Ready P w K mg base 2 "is_number" ["run"] spNumber) : FnOk P w K mg base CX0 3 f fd ["text", "at"] spPiece := by
  refine F.ok sc_piece (fun vs H Q E h => ?_) (fun cdv A outer s H vs Q E hr h => ?_)
  · obtain ⟨z, i, rfl, _⟩ := h
    rfl
  obtain ⟨z, i, rfl, hz, hi, qn, q⟩ := h
  obtain ⟨aO, m_O, tO⟩ := T.own
  obtain ⟨aL, m_L, tL⟩ := T.lng
  obtain ⟨tS, m_S⟩ := T.sho
  have nd := sc_piece.nd
  have hr2 : Room 2 _ := hr
  have hr1 : Room 1 _ := hr.mono (by decide)
  have zl : z.length ≤ sizeLine := Nat.le_trans hz (by decide)
  have z3 : 3 ≤ sizeLine := by decide
  refine ⟨_, pss_cons (ps_set (i := 2) nd rfl (.inl rfl) (pe_ix ix_str (pv 0) (pv 1) (fun _ _ => rfl)))
      (pss_cons (ps_if (pt_val (pe_fn G_is_letter hr1 (pa_cons (pv 2) pa_nil))) (pss_cons (ps_set (i := 3) nd rfl (.inl rfl) (pe_fn G_run_end hr2 (pa_cons (pv 0) (pa_cons (pv 1) pa_nil))))
      (pss_cons (ps_set (i := 4) nd rfl (.inl rfl) (pe_slice sl_str (pv 0) (po_some (pv 1)) (po_some (pv 3))))
      (pss_cons (ps_if (pt_cmpR op_in_seq (pv 4) (pe_glob (v := .ref aO) rfl m_O rfl) rfl) (pss_one (ps_ret (pe_tup (pa_cons pe_str (pa_cons (pv 4) (pa_cons (pv 3) pa_nil)))))) (pss_nil))
      (pss_one (ps_ret (pe_tup (pa_cons pe_str (pa_cons (pv 4) (pa_cons (pv 3) pa_nil))))))))) (pss_nil))
      (pss_cons (ps_if (pt_val (pe_fn G_is_figure hr1 (pa_cons (pv 2) pa_nil))) (pss_cons (ps_set (i := 3) nd rfl (.inl rfl) (pe_fn G_run_end hr2 (pa_cons (pv 0) (pa_cons (pv 1) pa_nil))))
      (pss_cons (ps_set (i := 4) nd rfl (.inl rfl) (pe_slice sl_str (pv 0) (po_some (pv 1)) (po_some (pv 3))))
      (pss_cons (ps_if (pt_val (pe_fn G_is_number hr2 (pa_cons (pv 4) pa_nil))) (pss_one (ps_ret (pe_tup (pa_cons pe_str (pa_cons (pe_callTy call_int_str (by rfl) m_int boot_int (pa_cons (pv 4) pa_nil)) (pa_cons (pv 3) pa_nil)))))) (pss_nil))
      (pss_one (ps_ret pe_non))))) (pss_nil))
      (pss_cons (ps_if (pt_cmpR op_eq (pv 2) pe_str (nomark _)) (pss_cons (ps_set (i := 3) nd rfl (.inl rfl) (pe_bm PySem.F.plainAttrs_str PySem.F.slot_str_find PySem.F.type_str_find mt_find3 (pv 0) (pa_cons pe_str (pa_cons (pe_op op_add (pv 1) pe_int) pa_nil))))
      (pss_cons (ps_if (pt_cmpR op_lt (pv 3) pe_int (nomark _)) (pss_one (ps_ret pe_non)) (pss_nil))
      (pss_one (ps_ret (pe_tup (pa_cons pe_str (pa_cons (pe_slice sl_str (pv 0) (po_some (pe_op op_add (pv 1) pe_int)) (po_some (pv 3))) (pa_cons (pe_op op_add (pv 3) pe_int) pa_nil)))))))) (pss_nil))
      (pss_cons (ps_if (pt_cmpR op_in_seq (pe_slice sl_str (pv 0) (po_some (pv 1)) (po_some (pe_op op_add (pv 1) pe_int))) (pe_glob (v := .ref aL) rfl m_L rfl) rfl) (pss_one (ps_ret (pe_tup (pa_cons pe_str (pa_cons (pe_slice sl_str (pv 0) (po_some (pv 1)) (po_some (pe_op op_add (pv 1) pe_int))) (pa_cons (pe_op op_add (pv 1) pe_int) pa_nil)))))) (pss_nil))
      (pss_cons (ps_if (pt_cmpR op_in_sign (pv 2) (pe_glob (v := .str "(),=<>+-*/:") rfl m_S ⟨_, rfl⟩) rfl) (pss_one (ps_ret (pe_tup (pa_cons pe_str (pa_cons (pv 2) (pa_cons (pe_op op_add (pv 1) pe_int) pa_nil)))))) (pss_nil))
      (pss_one (ps_ret pe_non))))))), ?_⟩
  obtain ⟨c, r, eL⟩ : ∃ c r, (tl z).drop i = c :: r := by
    cases e : (tl z).drop i with
    | nil =>
      have := List.drop_eq_nil_iff.mp e
      rw [← len_tl] at this
      omega
    | cons c r => exact ⟨c, r, rfl⟩
  have ec : (tl z)[i]? = some c := by
    have h := congrArg (·[0]?) eL
    simpa using h
  have hrl : i + runLen ((tl z).drop i) ≤ z.length := by
    have h := runLen_le ((tl z).drop i)
    rw [List.length_drop, ← len_tl] at h
    omega
  have erun : cutS z (some (i : Int)) (some ((i + runLen ((tl z).drop i) : Nat) : Int)) = mkS (((tl z).drop i).takeWhile isRun) := by
    rw [cutS_part (by omega)]
    unfold runLen
    rw [take_run]
  refine ⟨_, rfl, _, rfl, z, _, c, rfl, rfl, zl, at_str ec, ?_⟩
  refine ⟨_, rfl, c, rfl, _, rfl, ?_⟩
  refine ite2 (fun c1 => ?_) (fun c1 => ?_)
  · refine ⟨_, rfl, _, rfl, z, i, rfl, hz, by omega, ?_⟩
    refine ⟨_, rfl, _, rfl, _, rfl, _, rfl, _, rfl, z, rfl, zl, ?_⟩
    rw [erun]
    have e1 : pcAt ((tl z).drop i) = if mkS (((tl z).drop i).takeWhile isRun) ∈ owns then some (("own" : Str), PV.tx (mkS (((tl z).drop i).takeWhile isRun)), runLen ((tl z).drop i)) else some (("name" : Str), PV.tx (mkS (((tl z).drop i).takeWhile isRun)), runLen ((tl z).drop i)) := by
      rw [eL]
      unfold pcAt
      dsimp only
      rw [if_pos c1]
    refine ⟨_, rfl, aO, _, rfl, .inr (tO _), rfl, flat_strs _, _, rfl, in_strs (fun ho => ?_) (fun ho => ?_)⟩
    · rw [if_pos ho] at e1
      exact ⟨_, rfl, _, rfl, z3, fun p hp => q _ _ _ e1 p _ (same_upd hp) upd_same⟩
    · rw [if_neg ho] at e1
      exact ⟨_, rfl, _, rfl, z3, fun p hp => q _ _ _ e1 p _ (same_upd hp) upd_same⟩
  refine ⟨_, rfl, c, rfl, _, rfl, ?_⟩
  refine ite2 (fun c2 => ?_) (fun c2 => ?_)
  · refine ⟨_, rfl, _, rfl, z, i, rfl, hz, by omega, ?_⟩
    refine ⟨_, rfl, _, rfl, _, rfl, _, rfl, _, rfl, z, rfl, zl, ?_⟩
    rw [erun]
    have ne : ((tl z).drop i).takeWhile isRun ≠ [] := by
      rw [eL, List.takeWhile_cons, if_pos (by unfold isRun; rw [c2, Bool.or_true])]
      intro z
      cases z
    have et : tl (mkS (((tl z).drop i).takeWhile isRun)) = ((tl z).drop i).takeWhile isRun := by
      unfold mkS tl
      simp
    have e1 : pcAt ((tl z).drop i) = if isNumB (((tl z).drop i).takeWhile isRun) = true then some (("number" : Str), PV.nm (NumText.digitsVal (((tl z).drop i).takeWhile isRun)), runLen ((tl z).drop i)) else none := by
      rw [eL]
      unfold pcAt
      dsimp only
      rw [if_neg c1, if_pos c2]
    refine ⟨_, rfl, _, rfl, ?_, by rw [et]; exact ne, fun H2 s2 => ?_⟩
    · have h1 : (mkS (((tl z).drop i).takeWhile isRun)).length = (((tl z).drop i).takeWhile isRun).length := by
        unfold mkS Str.length
        simp
      have h2 := (List.takeWhile_prefix (p := isRun) (l := (tl z).drop i)).length_le
      rw [List.length_drop, ← len_tl] at h2
      omega
    rw [et]
    refine ⟨_, rfl, ite2 (fun hn => ?_) (fun hn => ?_)⟩
    · rw [if_pos hn] at e1
      obtain ⟨k1, k2⟩ := run_int hn ne
      exact ⟨_, rfl, _, _, rfl, k1, k2, _, rfl, z3, fun p hp => q _ _ _ e1 p _ (s2.trans (same_upd hp)) upd_same⟩
    · rw [if_neg hn] at e1
      exact qn e1 _ s2
  have e34 : (V.str ⟨#[c]⟩ = V.str "\"") ↔ c = 34 := by
    have e : ("\"" : Str) = ⟨#[34]⟩ := by decide +kernel
    rw [e]
    have h := one_sign c 34
    by_cases hc : c = 34
    · exact ⟨fun _ => hc, fun _ => by rw [hc]⟩
    · rw [decide_eq_false hc] at h
      exact ⟨fun z => absurd z (of_decide_eq_false h), fun z => absurd z hc⟩
  refine ⟨_, rfl, rfl, _, rfl, ite2 (fun c3 => ?_) (fun c3 => ?_)⟩
  · have hc := e34.mp (of_decide_eq_true c3)
    have er : (tl z).drop (i + 1) = r := by
      have h := congrArg (List.drop 1) eL
      rw [List.drop_drop] at h
      simpa using h
    have eq34 : ("\"" : Str) = ⟨#[34]⟩ := by decide +kernel
    have fr : fromIndex z.length ((i : Int) + 1) = i + 1 := by
      unfold fromIndex
      rw [if_neg (by omega)]
      omega
    have gd : ∀ v, z.cps.getD v 0 = ((tl z)[v]?).getD 0 := fun v => by
      rw [Array.getD_eq_getD_getElem?]
      unfold tl
      rw [Array.getElem?_toList]
    have sp := PySem.StrLaws.find3_spec z 34 ((i : Int) + 1)
    rw [fr] at sp
    have e1 : pcAt ((tl z).drop i) = if 34 ∈ r then some (("quoted" : Str), PV.tx (mkS (r.takeWhile fun x => decide (x ≠ 34))), (r.takeWhile fun x => decide (x ≠ 34)).length + 2) else none := by
      rw [eL]
      unfold pcAt
      dsimp only
      rw [if_neg c1, if_neg c2, if_pos hc]
    refine ⟨_, rfl, rfl, _, rfl, _, _, rfl, rfl, z, _, _, rfl, rfl, ?_⟩
    rw [eq34]
    rcases sp with ⟨h1, h2⟩ | ⟨k, h1, h2, h3, h4, h5⟩
    · rw [h1]
      have hn : 34 ∉ r := fun hm => by
        obtain ⟨v, hv⟩ := List.mem_iff_getElem?.mp hm
        rw [← er, List.getElem?_drop] at hv
        have hl := (List.getElem?_eq_some_iff.mp hv).1
        rw [← len_tl] at hl
        refine h2 (i + 1 + v) (by omega) hl ?_
        rw [gd, hv]
        rfl
      rw [if_neg hn] at e1
      exact ⟨_, rfl, _, _, rfl, rfl, _, rfl, iteT (qn e1 _ (Same.refl _))⟩
    · rw [h1]
      have hk : (tl z)[k]? = some 34 := by
        have hl : k < (tl z).length := by rw [← len_tl]; exact h3
        rw [gd, List.getElem?_eq_getElem hl] at h4
        rw [List.getElem?_eq_getElem hl]
        exact congrArg some h4
      have hr2 : r[k - (i + 1)]? = some 34 := by
        rw [← er, List.getElem?_drop]
        rw [show i + 1 + (k - (i + 1)) = k by omega]
        exact hk
      have hm : 34 ∈ r := List.mem_of_getElem? hr2
      have tw := tw_at hr2 fun v hv c' hc' e => by
        rw [← er, List.getElem?_drop] at hc'
        refine h5 (i + 1 + v) (by omega) (by omega) ?_
        rw [gd, hc', e]
        rfl
      rw [if_pos hm] at e1
      have es : cutS z (some ((i : Int) + 1)) (some (k : Int)) = mkS (r.takeWhile fun x => decide (x ≠ 34)) := by
        have h := cutS_part (z := z) (i := i + 1) (n := k - (i + 1)) (by omega)
        rw [show i + 1 + (k - (i + 1)) = k by omega, er] at h
        rw [show ((i : Int) + 1) = ((i + 1 : Nat) : Int) from rfl, h, ← tw, take_run]
      refine ⟨_, rfl, _, _, rfl, rfl, _, rfl, ite2 (fun cc => absurd (of_decide_eq_true cc) (by omega)) (fun _ => ?_)⟩
      refine ⟨_, rfl, _, rfl, _, _, rfl, rfl, _, rfl, _, rfl, _, rfl, z, rfl, zl, ?_⟩
      rw [es]
      refine ⟨_, rfl, _, _, rfl, rfl, z3, fun p hp => q _ _ _ e1 p _ (same_upd hp) ?_⟩
      rw [upd_same]
      have en : ((i + ((r.takeWhile fun x => decide (x ≠ 34)).length + 2) : Nat) : Int) = (k : Int) + 1 := by
        rw [tw]
        omega
      rw [en]
      rfl
  have n34 : ¬ c = 34 := fun e => c3 (decide_eq_true (e34.mpr e))
  have e2 : cutS z (some (i : Int)) (some ((i : Int) + 2)) = mkS (((tl z).drop i).take 2) := cutS_part (z := z) (i := i) (n := 2) (by omega)
  refine ⟨_, rfl, _, rfl, _, rfl, _, rfl, _, _, rfl, rfl, _, rfl, z, rfl, zl, ?_⟩
  rw [e2]
  have e1 : pcAt ((tl z).drop i) = if mkS (((tl z).drop i).take 2) ∈ longs then some (("own" : Str), PV.tx (mkS (((tl z).drop i).take 2)), 2) else if c ∈ shorts then some (("own" : Str), PV.tx (mkS [c]), 1) else none := by
    rw [eL]
    unfold pcAt
    dsimp only
    rw [if_neg c1, if_neg c2, if_neg n34]
  refine ⟨aL, _, rfl, .inr (tL _), rfl, flat_strs _, _, rfl, in_strs (fun ho => ?_) (fun ho => ?_)⟩
  · rw [if_pos ho] at e1
    refine ⟨_, rfl, _, rfl, _, rfl, _, rfl, _, _, rfl, rfl, _, rfl, z, rfl, zl, ?_⟩
    rw [e2]
    exact ⟨_, rfl, _, _, rfl, rfl, z3, fun p hp => q _ _ _ e1 p _ (same_upd hp) upd_same⟩
  rw [if_neg ho] at e1
  have es : (("(),=<>+-*/:" : Str)).cps.toList = shorts := by decide +kernel
  refine ⟨_, rfl, c, _, rfl, rfl, _, rfl, ?_⟩
  rw [es]
  refine ite2 (fun cc => ?_) (fun cc => ?_)
  · rw [if_pos (of_decide_eq_true cc)] at e1
    exact ⟨_, rfl, _, rfl, _, _, rfl, rfl, z3, fun p hp => q _ _ _ e1 p _ (same_upd hp) upd_same⟩
  · rw [if_neg (fun h => cc (decide_eq_true h))] at e1
    exact qn e1 _ (Same.refl _)
end
end Kx

namespace Kx
open PySem PySem.Spec PyProof.Rows L2 TL
abbrev s_is_bracket : Stmt := topS 23
abbrev s_pieces_of : Stmt := topS 24
def BadAt (C : Addr) (n c : Int) (H : Hp) (E : XK) : Prop := ∀ (H' : Hp) (d : Addr), Same H H' → H' d = none → E (.ref C) (some d) (upd H' d (.xd [("line", .int n), ("column", .int c)]))
theorem BadAt.same {C : Addr} {n c : Int} {H H' : Hp} {E : XK} (h : BadAt C n c H E) (s : Same H H') : BadAt C n c H' E := fun H2 d s2 nd => h H2 d (s.trans s2) nd
/-- pieces in the heap -/
def PcsAt (H : Hp) (as : List (Addr × Pc)) : Prop := ∀ p ∈ as, H p.1 = some (.tup [.str p.2.kind, pvV p.2.val, .int (p.2.col : Int)])
theorem PcsAt.keep {H H' : Hp} {as : List (Addr × Pc)} (h : PcsAt H as) (k : ∀ (a : Addr) (xs : List V), H a = some (.tup xs) → H' a = some (.tup xs)) : PcsAt H' as := fun p hp => k _ _ (h p hp)
theorem pcAt_own {l : List Nat} {v : PV} {n : Nat} {k : Str} (h : pcAt l = some (k, v, n)) (hk : k = "own") : ∃ z, v = .tx z := by
  have n1 : ("number" : Str) ≠ "own" := by decide +kernel
  unfold pcAt at h
  match l with
  | [] => cases h
  | c :: r =>
    dsimp only at h
    repeat' split at h
    all_goals first
      | (cases h; done)
      | (injection h with h; injection h with h1 h2; injection h2 with h2 h3; exact ⟨_, h2.symm⟩)
      | (injection h with h; injection h with h1 h2; exact absurd (h1.trans hk) n1)
section
variable {P : Program} {w : World} {K : PySem.W.Frag} {mg : Str → Option Value} {base : Heap}
def spBr : Sp := fun vs H Q _ => ∃ (p : Addr) (k : Str) (v : PV) (x : V), vs = [.ref p] ∧ H p = some (.tup [.str k, pvV v, x]) ∧ (k = "own" → ∃ z, v = .tx z) ∧ ∀ H', Same H H' → Q (.bl (isBr k v)) H'
theorem sc_br : FnScope ["piece"] ["piece"] (defScope s_is_bracket) := ⟨rfl, rfl, rfl, by decide +kernel, rfl, by decide +kernel, by decide +kernel⟩
theorem ok_br {f : Addr} {fd : FuncData} (F : Fun K "is_bracket" "is_bracket" s_is_bracket f fd) : FnOk P w K mg base CX0 1 f fd ["piece"] spBr := by
  refine F.ok sc_br (fun vs H Q E h => ?_) (fun cdv A outer s H vs Q E hr h => ?_)
  · obtain ⟨p, k, v, x, rfl, _⟩ := h
    rfl
  obtain ⟨p, k, v, x, rfl, ep, ho, q⟩ := h
  have z2 : 2 ≤ sizeLine := by decide
  refine ⟨_, pss_one (ps_ret (pe_and (pe_cmpR op_eq (pe_ix ix_tup (pv 0) pe_int (fun _ _ => rfl)) pe_str (nomark _)) (pe_one (pe_cmpR op_in_seq (pe_ix ix_tup (pv 0) pe_int (fun _ _ => rfl)) (pe_tup (pa_cons pe_str (pa_cons pe_str pa_nil))) (by with_unfolding_all rfl))))), ?_⟩
  unfold isBr at q
  refine ⟨_, rfl, p, _, 0, _, rfl, rfl, SqT.of ep, rfl, rfl, _, rfl, ite2 (fun c => ?_) (fun c => ?_)⟩
  · have hk : k = "own" := V.str.inj (of_decide_eq_true c)
    obtain ⟨z, rfl⟩ := ho hk
    rw [decide_eq_true hk, Bool.true_and] at q
    refine ⟨_, rfl, p, _, 1, _, rfl, rfl, SqT.of ep, rfl, z2, fun t ht => ⟨t, _, rfl, .inr (SqT.of upd_same), rfl, rfl, ?_⟩⟩
    have e : (if false = true then !inV (V.str z) ((["(", ")"] : List Str).map V.str) else inV (V.str z) ((["(", ")"] : List Str).map V.str)) = (decide (PV.tx z = PV.tx "(") || decide (PV.tx z = PV.tx ")")) := by
      rw [if_neg Bool.false_ne_true, inV_str]
      by_cases h1 : z = "("
      · subst h1
        decide +kernel
      · by_cases h2 : z = ")"
        · subst h2
          decide +kernel
        · rw [decide_eq_false (by simp [h1, h2]), decide_eq_false (fun e => h1 (PV.tx.inj e)), decide_eq_false (fun e => h2 (PV.tx.inj e))]
          rfl
    rw [← e] at q
    exact q _ (same_upd ht)
  · have hk : k ≠ "own" := fun e => c (decide_eq_true (by rw [e]))
    rw [decide_eq_false hk, Bool.false_and] at q
    exact q _ (Same.refl _)
/-! ### pieces_of -/
theorem pcs_take {all f at_ many : Nat} {l : List Nat} {c : Nat} (h : l.head? = some c) (h35 : c ≠ 35) (h32 : c ≠ 32) : pcs all (f + 1) at_ many l = match pcAt l with
    | none => .error (at_ + 1)
    | some (k, v, n) =>
      if 300 < (if isBr k v = true then many else many + 1) then .error (at_ + 1)
      else match pcs all f (at_ + n) (if isBr k v = true then many else many + 1) (l.drop n) with
        | .error e => .error e
        | .ok ps => .ok (⟨k, v, at_ + 1⟩ :: ps) := by
  match l with
  | [] => cases h
  | a :: r =>
    have e : a = c := Option.some.inj h
    subst e
    rw [pcs]
    rw [if_neg h35, if_neg h32] <;> rfl
/-- what is read so far, and the rest -/
def joinP (ps : List Pc) : Except Nat (List Pc) → Except Nat (List Pc)
  | .ok qs => .ok (ps ++ qs)
  | .error e => .error e
def spPieces (K : PySem.W.Frag) (C : Addr) : Sp := fun vs H Q E => ∃ (z : Str) (m : Int), vs = [.str z, .int m] ∧ z.length ≤ 100000 ∧
  (∀ ps, piecesOf z = .ok ps → ∀ (l : Addr) (as : List (Addr × Pc)) (H' : Hp), Same H H' → H l = none → H' l = some (.lst (as.map fun p => .ref p.1)) → PcsAt H' as → as.map (·.2) = ps → Q (.ref l) H') ∧
  ∀ c, piecesOf z = .error c → BadAt C m (c : Nat) H E
abbrev N_pieces_of : List Str := ["text", "number", "pieces", "many", "at", "piece"]
theorem sc_pieces : FnScope N_pieces_of ["text", "number"] (defScope s_pieces_of) := ⟨rfl, rfl, rfl, by decide +kernel, rfl, by decide +kernel, by decide +kernel⟩
theorem ok_pieces {f C fI : Addr} {fd : FuncData} (F : Fun K "pieces_of" "pieces_of" s_pieces_of f fd) (T : PySem.BadY.BadTxt K mg C fI) (m_len : mg "len" = none) (m_M : ∃ t, mg "MOST_PIECES" = some (.int 300 t)) (G_piece_at : Ready P w K mg base 3 "piece_at" ["text", "at"] spPiece) (G_is_bracket : Ready P w K mg base 1 "is_bracket" ["piece"] spBr) : FnOk P w K mg base (L2.CX P w) 4 f fd ["text", "number"] (spPieces K C) := by
  refine F.okX sc_pieces (fun vs H Q E h => ?_) (fun cdv A outer s H vs Q E hr h => ?_)
  · obtain ⟨z, m, rfl, _⟩ := h
    rfl
  obtain ⟨z, m, rfl, hz, q, qe⟩ := h
  obtain ⟨tM, m_M⟩ := m_M
  have nd := sc_pieces.nd
  have hr3 : Room 3 _ := hr
  have hr1 : Room 1 _ := hr.mono (by decide)
  have zl : z.length ≤ sizeLine := Nat.le_trans hz (by decide)
  have z3 : 3 ≤ sizeLine := by decide
  refine ⟨_, pss_cons (ps_set (i := 2) nd rfl (.inl rfl) (pe_lst pa_nil))
      (pss_cons (ps_set (i := 3) nd rfl (.inl rfl) pe_int)
      (pss_cons (ps_set (i := 4) nd rfl (.inl rfl) pe_int)
      (pss_cons (ps_while (passes_of rfl) (PW.pt (pw_and (pt_cmpR op_lt (pv 4) (pe_callB call_len_str (by rfl) m_len PySem.boot_len (pa_cons (pv 0) pa_nil)) (nomark _)) (pw_and1 (pt_cmpR op_ne (pe_ix ix_str (pv 0) (pv 4) (fun _ _ => rfl)) pe_str (nomark _))))) (pss_one (ps_if (pt_cmpR op_eq (pe_ix ix_str (pv 0) (pv 4) (fun _ _ => rfl)) pe_str (nomark _)) (pss_one (ps_aug (i := 4) nd rfl (.inl rfl) pe_int ip_add)) (pss_cons (ps_set (i := 5) nd rfl (.inl rfl) (pe_fn G_piece_at hr3 (pa_cons (pv 0) (pa_cons (pv 4) pa_nil))))
      (pss_cons (ps_if (pt_cmpR op_isN (pv 5) pe_non (nomark _)) (pss_one (ps_raiseBad2 rfl T hr1 (takes_of rfl rfl rfl rfl) (pa_cons (pv 1) (pa_cons (pe_op op_add (pv 4) pe_int) pa_nil)))) (pss_nil))
      (C8.pss_cut (ps_if (pt_not (pt_val (pe_fn G_is_bracket hr1 (pa_cons (pv 5) pa_nil)))) (pss_one (ps_aug (i := 3) nd rfl (.inl rfl) pe_int ip_add)) (pss_nil))
      (pss_cons (ps_if (pt_cmpR op_gt (pv 3) (pe_glob (v := .int 300) rfl m_M ⟨_, rfl⟩) (nomark _)) (pss_one (ps_raiseBad2 rfl T hr1 (takes_of rfl rfl rfl rfl) (pa_cons (pv 1) (pa_cons (pe_op op_add (pv 4) pe_int) pa_nil)))) (pss_nil))
      (pss_cons (ps_expr (pe_bm PySem.F.plainAttrs_list PySem.F.slot_list_append PySem.F.type_list_append mt_append (pv 2) (pa_cons (pe_tup (pa_cons (pe_ix ix_tup (pv 5) pe_int (fun _ _ => rfl)) (pa_cons (pe_ix ix_tup (pv 5) pe_int (fun _ _ => rfl)) (pa_cons (pe_op op_add (pv 4) pe_int) pa_nil)))) pa_nil)))
      (pss_one (ps_set (i := 4) nd rfl (.inl rfl) (pe_ix ix_tup (pv 5) pe_int (fun _ _ => rfl))))))))))))
      (pss_cons (ps_expr (pe_bm PySem.F.plainAttrs_list PySem.F.slot_list_append PySem.F.type_list_append mt_append (pv 2) (pa_cons (pe_tup (pa_cons pe_str (pa_cons pe_str (pa_cons (pe_op op_add (pe_callB call_len_str (by rfl) m_len PySem.boot_len (pa_cons (pv 0) pa_nil)) pe_int) pa_nil)))) pa_nil)))
      (pss_one (ps_ret (pv 2))))))), ?_⟩
  refine ⟨by show 0 ≤ sizeLine; decide, fun L hL => ?_⟩
  have s1 := same_upd (o := .lst []) hL
  have eL0 : upd H L (.lst []) L = some (.lst []) := upd_same
  generalize upd H L (.lst []) = H1 at s1 eL0 ⊢
  let Inv : Nat → L2.St → Hp → Prop := fun mm σ H' => ∃ (j f many : Nat) (y5 : Option V) (as : List (Addr × Pc)), mm = z.length - j ∧ σ = [some (.str z), some (.int m), some (.ref L), some (.int (many : Int)), some (.int (j : Int)), y5] ∧ Same H H' ∧ H' L = some (.lst (as.map fun p => .ref p.1)) ∧ PcsAt H' as ∧ j ≤ z.length + 1 ∧ as.length ≤ j ∧ z.length - j < f ∧ piecesOf z = joinP (as.map (·.2)) (pcs z.length f j many ((tl z).drop j))
  refine ⟨Inv, ⟨_, 0, z.length + 1, 0, none, [], rfl, rfl, s1, eL0, fun p hp => absurd hp List.not_mem_nil, Nat.zero_le _, Nat.le_refl _, by omega, ?_⟩, ?_⟩
  · unfold piecesOf
    rw [List.drop_zero]
    cases pcs z.length (z.length + 1) 0 0 (tl z) <;> rfl
  rintro mm σ H' ⟨j, f', many, y5, as, rfl, rfl, sm, eL, hp, hj, hlen, hf, hpc⟩
  obtain ⟨f, rfl⟩ : ∃ f, f' = f + 1 := ⟨f' - 1, by omega⟩
  refine ⟨_, rfl, _, rfl, z, rfl, zl, _, _, rfl, rfl, _, rfl, ite2 (fun c1 => ?_) (fun c1 => ?_)⟩
  · have hlt : j < z.length := by
      have := of_decide_eq_true c1
      omega
    have hlt' : j < (tl z).length := by rw [← len_tl]; exact hlt
    have hdrop := List.drop_eq_getElem_cons hlt'
    have ec : (tl z)[j]? = some (tl z)[j] := List.getElem?_eq_getElem hlt'
    generalize (tl z)[j] = c at ec hdrop
    have hhead : ((tl z).drop j).head? = some c := by rw [hdrop]; rfl
    have eqS : ∀ (x : Str) (n : Nat), x = ⟨#[n]⟩ → ((V.str ⟨#[c]⟩ = V.str x) ↔ c = n) := fun x n e => by
      rw [e]
      have h := one_sign c n
      by_cases hc : c = n
      · exact ⟨fun _ => hc, fun _ => by rw [hc]⟩
      · rw [decide_eq_false hc] at h
        exact ⟨fun z => absurd z (of_decide_eq_false h), fun z => absurd z hc⟩
    have q35 := eqS "#" 35 (by decide +kernel)
    have q32 := eqS " " 32 (by decide +kernel)
    refine ⟨_, rfl, _, rfl, z, _, c, rfl, rfl, zl, at_str ec, rfl, _, rfl, ite2 (fun c2 => ?_) (fun c2 => ?_)⟩
    · have n35 : c ≠ 35 := fun e => by
        rw [decide_eq_true (q35.mpr e)] at c2
        cases c2
      refine ⟨fun σ' G => ∃ m', m' < z.length - j ∧ Inv m' σ' G, fun σ' G h => h, ?_⟩
      refine ⟨_, rfl, _, rfl, z, _, c, rfl, rfl, zl, at_str ec, rfl, _, rfl, ite2 (fun c3 => ?_) (fun c3 => ?_)⟩
      · have e32 := q32.mp (of_decide_eq_true c3)
        refine ⟨_, rfl, _, _, rfl, rfl, z.length - (j + 1), by omega, j + 1, f, many, y5, as, rfl, rfl, sm, eL, hp, by omega, by omega, by omega, ?_⟩
        rw [hpc, hdrop, pcs, if_neg n35, if_pos e32]
      · have n32 : c ≠ 32 := fun e => c3 (decide_eq_true (q32.mpr e))
        have hstep := pcs_take (all := z.length) (f := f) (at_ := j) (many := many) hhead n35 n32
        refine ⟨_, rfl, _, rfl, z, j, rfl, hz, hlt, fun hn H2 s2 => ?_, fun k v n hkv p H2 s2 ep => ?_⟩
        · have he : piecesOf z = .error (j + 1) := by
            rw [hpc, hstep, hn]
            rfl
          exact ⟨_, rfl, rfl, _, rfl, iteT ⟨_, rfl, _, rfl, _, _, rfl, rfl, _, _, rfl, fun d nd' => qe _ he _ d (sm.trans s2) nd'⟩⟩
        · refine ⟨_, rfl, rfl, _, rfl, iteF ?_⟩
          let many' : Nat := if isBr k v = true then many else many + 1
          refine ⟨fun σ G => σ = [some (.str z), some (.int m), some (.ref L), some (.int (many' : Int)), some (.int (j : Int)), some (.ref p)] ∧ Same H2 G, ?_, ?_⟩
          · refine ⟨_, rfl, p, k, v, _, rfl, ep, fun hk => pcAt_own hkv hk, fun G sG => ⟨_, rfl, ?_⟩⟩
            cases hb : isBr k v with
            | true =>
              refine iteF ⟨?_, sG⟩
              have : many' = many := if_pos hb
              rw [this]
              rfl
            | false =>
              refine iteT ⟨_, rfl, _, _, rfl, rfl, ?_, sG⟩
              have : many' = many + 1 := if_neg (by rw [hb]; exact Bool.false_ne_true)
              rw [this]
              rfl
          · rintro σ G ⟨rfl, sG⟩
            rw [hkv] at hstep
            change _ = (if 300 < many' then (Except.error (j + 1) : Except Nat (List Pc)) else match pcs z.length f (j + n) many' (((tl z).drop j).drop n) with
              | Except.error e => Except.error e
              | Except.ok ps => Except.ok ((⟨k, v, j + 1⟩ : Pc) :: ps)) at hstep
            have sA := sm.trans (s2.trans sG)
            refine ⟨_, rfl, _, _, rfl, rfl, _, rfl, ite2 (fun c4 => ?_) (fun c4 => ?_)⟩
            · have h300 : 300 < many' := by
                have := of_decide_eq_true c4
                omega
              rw [if_pos h300] at hstep
              have he : piecesOf z = .error (j + 1) := by
                rw [hpc, hstep]
                rfl
              exact ⟨_, rfl, _, rfl, _, _, rfl, rfl, _, _, rfl, fun d nd' => qe _ he _ d sA nd'⟩
            · have h300 : ¬ 300 < many' := fun h => c4 (decide_eq_true (by omega))
              rw [if_neg h300] at hstep
              obtain ⟨n1, n2⟩ := pcAt_pos hkv
              rw [List.length_drop, ← len_tl] at n2
              have eLG := sG _ _ (s2 _ _ eL)
              have epG := sG _ _ ep
              refine ⟨_, rfl, .inl ⟨rfl, _, SqL.of eLG⟩, _, rfl, p, _, 0, _, rfl, rfl, SqT.of epG, rfl, _, rfl, p, _, 1, _, rfl, rfl, SqT.of epG, rfl, _, rfl, _, _, rfl, rfl, z3, fun t ht => ?_⟩
              have u := same_upd (o := .tup [.str k, pvV v, .int ((j : Int) + 1)]) ht
              have nL : ∀ {a : Addr} {xs : List V}, (upd G t (.tup [.str k, pvV v, .int ((j : Int) + 1)])) a = some (.tup xs) → a ≠ L := fun e zz => by
                rw [zz, u _ _ eLG] at e
                cases e
              refine ⟨L, _, _, rfl, rfl, u _ _ eLG, Nat.lt_of_le_of_lt (show _ ≤ 100001 by rw [List.length_map]; omega) (by decide), ?_⟩
              refine ⟨_, rfl, p, _, 2, _, rfl, rfl, SqT.of (by rw [upd_ne (nL (u _ _ epG))]; exact u _ _ epG), rfl, ?_⟩
              refine ⟨z.length - (j + n), by omega, j + n, f, many', _, as ++ [(t, ⟨k, v, j + 1⟩)], rfl, rfl, fun a o e => ?_, by rw [upd_same, List.map_append]; rfl, fun x hx => ?_, by omega, by rw [List.length_append]; show as.length + 1 ≤ j + n; omega, by omega, ?_⟩
              · rw [upd_ne (ne_of_none e hL)]
                exact u _ _ (sA _ _ e)
              · rcases List.mem_append.mp hx with hx | hx
                · have e := u _ _ (sG _ _ (s2 _ _ (hp x hx)))
                  rw [upd_ne (nL e)]
                  exact e
                · rw [List.mem_singleton.mp hx, upd_ne (nL upd_same)]
                  exact upd_same
              · rw [hpc, hstep, List.drop_drop, List.map_append]
                cases pcs z.length f (j + n) many' ((tl z).drop (j + n)) with
                | error e => rfl
                | ok ps =>
                  show Except.ok (as.map (·.2) ++ (⟨k, v, j + 1⟩ :: ps)) = .ok ((as.map (·.2) ++ [⟨k, v, j + 1⟩]) ++ ps)
                  rw [List.append_assoc]
                  rfl
    · have e35 : c = 35 := Classical.byContradiction fun z => c2 (by rw [decide_eq_false (fun h => z (q35.mp h))]; rfl)
      have eE : pcs z.length (f + 1) j many ((tl z).drop j) = .ok [⟨"end", .tx "", z.length + 1⟩] := by
        rw [hdrop, pcs, if_pos e35]
      have e1 : piecesOf z = .ok (as.map (·.2) ++ [⟨"end", .tx "", z.length + 1⟩]) := by
        rw [hpc, eE]
        rfl
      refine ⟨_, rfl, .inl ⟨rfl, _, SqL.of eL⟩, _, rfl, z, rfl, zl, _, _, rfl, rfl, z3, fun p hp' => ?_⟩
      have u := same_upd (o := .tup [.str "end", .str "", .int ((z.length : Int) + 1)]) hp'
      refine ⟨L, _, _, rfl, rfl, u _ _ eL, Nat.lt_of_le_of_lt (show _ ≤ 100001 by rw [List.length_map]; omega) (by decide), _, rfl, ?_⟩
      have nL : ∀ {a : Addr} {xs : List V}, (upd H' p (.tup [.str "end", .str "", .int ((z.length : Int) + 1)])) a = some (.tup xs) → a ≠ L := fun e zz => by
        rw [zz, u _ _ eL] at e
        cases e
      refine q _ e1 L (as ++ [(p, ⟨"end", .tx "", z.length + 1⟩)]) _ (fun a o e => ?_) hL (by rw [upd_same, List.map_append]; rfl) (fun x hx => ?_) (by rw [List.map_append]; rfl)
      · rw [upd_ne (ne_of_none e hL)]
        exact u _ _ (sm _ _ e)
      · rcases List.mem_append.mp hx with hx | hx
        · have e := u _ _ (hp x hx)
          rw [upd_ne (nL e)]
          exact e
        · rw [List.mem_singleton.mp hx, upd_ne (nL upd_same)]
          exact upd_same
  · have hge : z.length ≤ j := by
      have h : ¬ ((j : Int) < (z.length : Int)) := fun h => c1 (decide_eq_true h)
      omega
    have eE : pcs z.length (f + 1) j many ((tl z).drop j) = .ok [⟨"end", .tx "", z.length + 1⟩] := by
      rw [List.drop_eq_nil_of_le (by rw [← len_tl]; exact hge), pcs]
    have e1 : piecesOf z = .ok (as.map (·.2) ++ [⟨"end", .tx "", z.length + 1⟩]) := by
      rw [hpc, eE]
      rfl
    refine ⟨_, rfl, .inl ⟨rfl, _, SqL.of eL⟩, _, rfl, z, rfl, zl, _, _, rfl, rfl, z3, fun p hp' => ?_⟩
    have u := same_upd (o := .tup [.str "end", .str "", .int ((z.length : Int) + 1)]) hp'
    refine ⟨L, _, _, rfl, rfl, u _ _ eL, Nat.lt_of_le_of_lt (show _ ≤ 100001 by rw [List.length_map]; omega) (by decide), _, rfl, ?_⟩
    have nL : ∀ {a : Addr} {xs : List V}, (upd H' p (.tup [.str "end", .str "", .int ((z.length : Int) + 1)])) a = some (.tup xs) → a ≠ L := fun e zz => by
      rw [zz, u _ _ eL] at e
      cases e
    refine q _ e1 L (as ++ [(p, ⟨"end", .tx "", z.length + 1⟩)]) _ (fun a o e => ?_) hL (by rw [upd_same, List.map_append]; rfl) (fun x hx => ?_) (by rw [List.map_append]; rfl)
    · rw [upd_ne (ne_of_none e hL)]
      exact u _ _ (sm _ _ e)
    · rcases List.mem_append.mp hx with hx | hx
      · have e := u _ _ (hp x hx)
        rw [upd_ne (nL e)]
        exact e
      · rw [List.mem_singleton.mp hx, upd_ne (nL upd_same)]
        exact upd_same
end
end Kx

namespace Kx
open PySem PySem.Spec PyProof.Rows L2 TL
abbrev m_Line_init : Stmt := inClass (topS 25) 0
abbrev m_Line_fail : Stmt := inClass (topS 25) 1
abbrev m_Line_is_kind : Stmt := inClass (topS 25) 2
abbrev m_Line_own_word : Stmt := inClass (topS 25) 3
abbrev m_Line_take : Stmt := inClass (topS 25) 4
abbrev m_Line_take_one_of : Stmt := inClass (topS 25) 5
abbrev m_Line_took : Stmt := inClass (topS 25) 6
abbrev m_Line_expect : Stmt := inClass (topS 25) 7
abbrev m_Line_expect_end : Stmt := inClass (topS 25) 8
/-- the class of lines -/
structure LnC (K : PySem.W.Frag) (CL : Addr) : Prop where
  cls : Cls K CL
  n1 : NoAttr K CL "number"
  n2 : NoAttr K CL "pieces"
  n3 : NoAttr K CL "place"
def lnF (n : Int) (L : Addr) (i : Nat) : List (Str × V) := [("number", .int n), ("pieces", .ref L), ("place", .int (i : Int))]
theorem lk1 {n : Int} {L : Addr} {i : Nat} : List.lookup ("number" : Str) (lnF n L i) = some (V.int n) := by rfl
theorem lk2 {n : Int} {L : Addr} {i : Nat} : List.lookup ("pieces" : Str) (lnF n L i) = some (V.ref L) := by rfl
theorem lk3 {n : Int} {L : Addr} {i : Nat} : List.lookup ("place" : Str) (lnF n L i) = some (V.int (i : Int)) := by rfl
/-- a line, its pieces, and where it stands -/
def LineAt (H : Hp) (CL p : Addr) (n : Int) (ps : List Pc) (i : Nat) : Prop := ∃ (dx L : Addr) (as : List (Addr × Pc)), H p = some (.ins CL dx (lnF n L i)) ∧ H L = some (.lst (as.map fun x => .ref x.1)) ∧ PcsAt H as ∧ as.map (·.2) = ps
theorem LineAt.keep {H H' : Hp} {CL p : Addr} {n : Int} {ps : List Pc} {i : Nat} (h : LineAt H CL p n ps i) (s : Same H H') : LineAt H' CL p n ps i :=
  let ⟨dx, L, as, h1, h2, h3, h4⟩ := h
  ⟨dx, L, as, s _ _ h1, s _ _ h2, h3.keep fun a xs e => s a _ e, h4⟩
def curP (ps : List Pc) (i : Nat) : Pc := ps.getD i ⟨"end", .tx "", 0⟩
theorem curP_of {as : List (Addr × Pc)} {i : Nat} (h : i < (as.map (·.2)).length) : ∃ q, as[i]? = some (q, curP (as.map (·.2)) i) := by
  have hi : i < as.length := by rw [List.length_map] at h; exact h
  refine ⟨as[i].1, ?_⟩
  have e : curP (as.map (·.2)) i = as[i].2 := by
    unfold curP
    rw [List.getD_eq_getElem?_getD, List.getElem?_map, List.getElem?_eq_getElem hi]
    rfl
  rw [e, List.getElem?_eq_getElem hi]
/-- pieces as a line has them: the end's piece is the last, and only it -/
def ownAll : List Str := owns ++ longs ++ shorts.map fun c => mkS [c]
/-- a piece as it comes from a text -/
structure PcOk (x : Pc) : Prop where
  ne : x.kind ≠ "end"
  own : x.kind = "own" → ∃ z, x.val = .tx z ∧ z ∈ ownAll
  num : x.kind = "number" → ∃ n, x.val = .nm n
  txt : x.kind = "quoted" ∨ x.kind = "name" → ∃ z, x.val = .tx z
def EndP (ps : List Pc) : Prop := ∃ (qs : List Pc) (c : Nat), ps = qs ++ [⟨"end", .tx "", c⟩] ∧ ∀ x ∈ qs, PcOk x
theorem pcAt_ok {l : List Nat} {v : PV} {n c : Nat} {k : Str} (h : pcAt l = some (k, v, n)) : PcOk ⟨k, v, c⟩ := by
  have eq : ∀ {k' : Str} {v' : PV} {n' : Nat}, some (k', v', n') = some (k, v, n) → k = k' ∧ v = v' := fun e => by
    injection e with e
    injection e with e1 e2
    injection e2 with e2 e3
    exact ⟨e1.symm, e2.symm⟩
  have own : ∀ z, z ∈ ownAll → PcOk ⟨"own", .tx z, c⟩ := fun z hz => ⟨by show ("own" : Str) ≠ "end"; decide +kernel, fun _ => ⟨z, rfl, hz⟩, fun h => absurd h (show ¬ ("own" : Str) = "number" by decide +kernel), fun h => absurd h (show ¬ (("own" : Str) = "quoted" ∨ ("own" : Str) = "name") by decide +kernel)⟩
  have txt : ∀ w z, (w = "quoted" ∨ w = "name") → PcOk ⟨w, .tx z, c⟩ := fun w z hw => by
    rcases hw with rfl | rfl
    · exact ⟨by show ("quoted" : Str) ≠ "end"; decide +kernel, fun h => absurd h (show ¬ ("quoted" : Str) = "own" by decide +kernel), fun h => absurd h (show ¬ ("quoted" : Str) = "number" by decide +kernel), fun _ => ⟨z, rfl⟩⟩
    · exact ⟨by show ("name" : Str) ≠ "end"; decide +kernel, fun h => absurd h (show ¬ ("name" : Str) = "own" by decide +kernel), fun h => absurd h (show ¬ ("name" : Str) = "number" by decide +kernel), fun _ => ⟨z, rfl⟩⟩
  have num : ∀ m, PcOk ⟨"number", .nm m, c⟩ := fun m => ⟨by show ("number" : Str) ≠ "end"; decide +kernel, fun h => absurd h (show ¬ ("number" : Str) = "own" by decide +kernel), fun _ => ⟨m, rfl⟩, fun h => absurd h (show ¬ (("number" : Str) = "quoted" ∨ ("number" : Str) = "name") by decide +kernel)⟩
  unfold pcAt at h
  match l with
  | [] => cases h
  | a :: r =>
    dsimp only at h
    split at h
    · split at h
      · rename_i ho
        obtain ⟨rfl, rfl⟩ := eq h
        exact own _ (List.mem_append_left _ (List.mem_append_left _ ho))
      · obtain ⟨rfl, rfl⟩ := eq h
        exact txt _ _ (.inr rfl)
    · split at h
      · split at h
        · obtain ⟨rfl, rfl⟩ := eq h
          exact num _
        · cases h
      · split at h
        · split at h
          · obtain ⟨rfl, rfl⟩ := eq h
            exact txt _ _ (.inl rfl)
          · cases h
        · split at h
          · rename_i ho
            obtain ⟨rfl, rfl⟩ := eq h
            exact own _ (List.mem_append_left _ (List.mem_append_right _ ho))
          · split at h
            · rename_i ho
              obtain ⟨rfl, rfl⟩ := eq h
              exact own _ (List.mem_append_right _ (List.mem_map.mpr ⟨a, ho, rfl⟩))
            · cases h
theorem EndP.nil (c : Nat) : EndP [⟨"end", .tx "", c⟩] := ⟨[], c, rfl, fun x h => absurd h List.not_mem_nil⟩
theorem EndP.cons {x : Pc} {ps : List Pc} (hx : PcOk x) (h : EndP ps) : EndP (x :: ps) := by
  obtain ⟨qs, c, rfl, hq⟩ := h
  refine ⟨x :: qs, c, rfl, fun y hy => ?_⟩
  rcases List.mem_cons.mp hy with rfl | hy
  · exact hx
  · exact hq y hy
theorem pcs_end {all : Nat} : ∀ (f at_ many : Nat) (l : List Nat) (ps : List Pc), l.length < f → pcs all f at_ many l = .ok ps → EndP ps
  | 0, _, _, _, _, h, _ => absurd h (Nat.not_lt_zero _)
  | f + 1, at_, many, [], ps, _, h => by
    rw [pcs] at h
    cases h
    exact EndP.nil _
  | f + 1, at_, many, c :: r, ps, hl, h => by
    have hl' : r.length < f := Nat.lt_of_succ_lt_succ hl
    by_cases h35 : c = 35
    · rw [pcs, if_pos h35] at h
      cases h
      exact EndP.nil _
    · by_cases h32 : c = 32
      · rw [pcs, if_neg h35, if_pos h32] at h
        exact pcs_end f _ _ r ps hl' h
      · rw [pcs_take (c := c) rfl h35 h32] at h
        cases hp : pcAt (c :: r) with
        | none =>
          rw [hp] at h
          cases h
        | some t =>
          obtain ⟨k, v, n⟩ := t
          rw [hp] at h
          dsimp only at h
          generalize (if isBr k v = true then many else many + 1) = mm at h
          by_cases h300 : 300 < mm
          · rw [if_pos h300] at h
            cases h
          · rw [if_neg h300] at h
            cases hr : pcs all f (at_ + n) mm ((c :: r).drop n) with
            | error e =>
              rw [hr] at h
              cases h
            | ok qs =>
              rw [hr] at h
              cases h
              have hn := (pcAt_pos hp).1
              exact EndP.cons (pcAt_ok hp) (pcs_end f _ _ _ qs (by rw [List.length_drop, List.length_cons]; omega) hr)
theorem pieces_end {z : Str} {ps : List Pc} (h : piecesOf z = .ok ps) : EndP ps := pcs_end _ _ _ _ ps (by rw [← len_tl]; exact Nat.lt_succ_self _) h
section
variable {P : Program} {w : World} {K : PySem.W.Frag} {mg : Str → Option Value} {base : Heap}
theorem noE {X : Cx} : Passes (L2.CX X.prog X.w) X E0 := fun _ _ _ _ _ _ _ ⟨_, _, _, _, _, _, _, _, _, _, _, _, z⟩ => z.elim
/-! ### fail -/
def spFail (C CL : Addr) : Sp := fun vs H Q E => ∃ (p : Addr) (n : Int) (ps : List Pc) (i : Nat), vs = [.ref p] ∧ LineAt H CL p n ps i ∧ i < ps.length ∧ BadAt C n ((curP ps i).col : Nat) H E
theorem sc_fail : FnScope ["self"] ["self"] (defScope m_Line_fail) := ⟨rfl, rfl, rfl, by decide +kernel, rfl, by decide +kernel, by decide +kernel⟩
theorem ok_fail {f C fI CL : Addr} {fd : FuncData} (F : Fun K "fail" "Line.fail" m_Line_fail f fd) (T : PySem.BadY.BadTxt K mg C fI) (Z : LnC K CL) : FnOk P w K mg base (L2.CX P w) 2 f fd ["self"] (spFail C CL) := by
  refine F.okX sc_fail (fun vs H Q E h => ?_) (fun cdv A outer s H vs Q E hr h => ?_)
  · obtain ⟨p, n, ps, i, rfl, _⟩ := h
    rfl
  obtain ⟨p, n, ps, i, rfl, hl, hi, q⟩ := h
  have hr1 : Room 1 _ := hr
  refine ⟨_, pss_one (ps_raiseBad2 rfl T hr1 (takes_of rfl rfl rfl rfl) (pa_cons (pe_fld (pv 0) rfl) (pa_cons (pe_ix ix_tup (pe_ix (show IxR _ (rIxL K) from ix_list) (pe_fld (pv 0) rfl) (pe_fld (pv 0) rfl) (fun _ _ => rfl)) pe_int (fun _ _ => rfl)) pa_nil))), ?_⟩
  obtain ⟨dx, L, as, h1, h2, h3, rfl⟩ := hl
  obtain ⟨qa, hq⟩ := curP_of hi
  refine ⟨_, rfl, p, CL, dx, _, _, rfl, h1, Z.cls, Z.n1, lk1, _, rfl, p, CL, dx, _, _, rfl, h1, Z.cls, Z.n2, lk2, _, rfl, p, CL, dx, _, _, rfl, h1, Z.cls, Z.n3, lk3, L, _, (i : Int), _, rfl, rfl, SqL.of h2, atI_nat (by rw [List.getElem?_map, hq]; rfl), qa, _, 2, _, rfl, rfl, SqT.of (h3 _ (List.mem_of_getElem? hq)), rfl, _, _, rfl, fun d nd' => q _ d (Same.refl _) nd'⟩
/-! ### is_kind -/
def spIsKind (CL : Addr) : Sp := fun vs H Q _ => ∃ (p : Addr) (n : Int) (ps : List Pc) (i : Nat) (k : Str), vs = [.ref p, .str k] ∧ LineAt H CL p n ps i ∧ i < ps.length ∧ Q (.bl (decide ((curP ps i).kind = k))) H
theorem sc_iskind : FnScope ["self", "kind"] ["self", "kind"] (defScope m_Line_is_kind) := ⟨rfl, rfl, rfl, by decide +kernel, rfl, by decide +kernel, by decide +kernel⟩
theorem dec_str (a b : Str) : decide (V.str a = V.str b) = decide (a = b) := decide_eq_decide.mpr ⟨fun e => V.str.inj e, fun e => by rw [e]⟩
theorem ok_iskind {f CL : Addr} {fd : FuncData} (F : Fun K "is_kind" "Line.is_kind" m_Line_is_kind f fd) (Z : LnC K CL) : FnOk P w K mg base (L2.CX P w) 1 f fd ["self", "kind"] (spIsKind CL) := by
  refine F.okX sc_iskind (fun vs H Q E h => ?_) (fun cdv A outer s H vs Q E hr h => ?_)
  · obtain ⟨p, n, ps, i, k, rfl, _⟩ := h
    rfl
  obtain ⟨p, n, ps, i, k, rfl, hl, hi, q⟩ := h
  refine ⟨_, pss_one (ps_ret (pe_cmpR op_eq (pe_ix ix_tup (pe_ix (show IxR _ (rIxL K) from ix_list) (pe_fld (pv 0) rfl) (pe_fld (pv 0) rfl) (fun _ _ => rfl)) pe_int (fun _ _ => rfl)) (pv 1) (nomark _))), ?_⟩
  obtain ⟨dx, L, as, h1, h2, h3, rfl⟩ := hl
  obtain ⟨qa, hq⟩ := curP_of hi
  refine ⟨_, rfl, p, CL, dx, _, _, rfl, h1, Z.cls, Z.n2, lk2, _, rfl, p, CL, dx, _, _, rfl, h1, Z.cls, Z.n3, lk3, L, _, (i : Int), _, rfl, rfl, SqL.of h2, atI_nat (by rw [List.getElem?_map, hq]; rfl), qa, _, 0, _, rfl, rfl, SqT.of (h3 _ (List.mem_of_getElem? hq)), rfl, _, rfl, rfl, ?_⟩
  rw [dec_str]
  exact q
/-! ### own_word -/
def ownW (ps : List Pc) (i : Nat) : Str := if (curP ps i).kind = "own" then (match (curP ps i).val with
  | .tx z => z
  | .nm _ => "") else ""
theorem cur_mem {ps : List Pc} {i : Nat} (h : i < ps.length) : curP ps i ∈ ps := by
  unfold curP
  rw [List.getD_eq_getElem?_getD, List.getElem?_eq_getElem h]
  exact List.getElem_mem h
theorem EndP.own {ps : List Pc} (h : EndP ps) {i : Nat} (hi : i < ps.length) (hk : (curP ps i).kind = "own") : (curP ps i).val = .tx (ownW ps i) := by
  obtain ⟨qs, c, rfl, hq⟩ := h
  have hm := cur_mem hi
  unfold ownW
  rw [if_pos hk]
  rcases List.mem_append.mp hm with hm | hm
  · obtain ⟨z, e, _⟩ := (hq _ hm).own hk
    rw [e]
  · rw [List.mem_singleton.mp hm] at hk
    exact absurd hk (show ¬ ("end" : Str) = "own" by decide +kernel)
theorem EndP.next {ps : List Pc} (h : EndP ps) {i : Nat} (hi : i < ps.length) (hk : (curP ps i).kind ≠ "end") : i + 1 < ps.length := by
  obtain ⟨qs, c, rfl, hq⟩ := h
  rw [List.length_append] at hi ⊢
  by_cases z : i < qs.length
  · show i + 1 < qs.length + 1
    omega
  · exfalso
    apply hk
    have e : i = qs.length := by
      have : i < qs.length + 1 := hi
      omega
    unfold curP
    rw [List.getD_eq_getElem?_getD, e, List.getElem?_append_right (Nat.le_refl _), Nat.sub_self]
    rfl
def spOwn (CL : Addr) : Sp := fun vs H Q _ => ∃ (p : Addr) (n : Int) (ps : List Pc) (i : Nat), vs = [.ref p] ∧ LineAt H CL p n ps i ∧ i < ps.length ∧ EndP ps ∧ Q (.str (ownW ps i)) H
theorem sc_own : FnScope ["self"] ["self"] (defScope m_Line_own_word) := ⟨rfl, rfl, rfl, by decide +kernel, rfl, by decide +kernel, by decide +kernel⟩
theorem ok_own {f CL : Addr} {fd : FuncData} (F : Fun K "own_word" "Line.own_word" m_Line_own_word f fd) (Z : LnC K CL) (G_is_kind : ReadyM P w K mg base CL 1 "is_kind" ["self", "kind"] (spIsKind CL)) : FnOk P w K mg base (L2.CX P w) 2 f fd ["self"] (spOwn CL) := by
  refine F.okX sc_own (fun vs H Q E h => ?_) (fun cdv A outer s H vs Q E hr h => ?_)
  · obtain ⟨p, n, ps, i, rfl, _⟩ := h
    rfl
  obtain ⟨p, n, ps, i, rfl, hl, hi, he, q⟩ := h
  have hr1 : Room 1 _ := hr
  refine ⟨_, pss_cons (ps_if (pt_val (pe_m G_is_kind Z.cls hr1 noE (pv 0) (pa_cons pe_str pa_nil))) (pss_one (ps_ret (pe_ix ix_tup (pe_ix (show IxR _ (rIxL K) from ix_list) (pe_fld (pv 0) rfl) (pe_fld (pv 0) rfl) (fun _ _ => rfl)) pe_int (fun _ _ => rfl)))) (pss_nil))
      (pss_one (ps_ret pe_str)), ?_⟩
  obtain ⟨dx, L, as, h1, h2, h3, h4⟩ := id hl
  refine ⟨_, rfl, p, dx, _, rfl, h1, rfl, p, n, ps, i, _, rfl, hl, hi, _, rfl, ite2 (fun c => ?_) (fun c => ?_)⟩
  · have hk := of_decide_eq_true c
    have hv := he.own hi hk
    subst h4
    obtain ⟨qa, hq⟩ := curP_of hi
    have ht := h3 _ (List.mem_of_getElem? hq)
    dsimp only at ht
    rw [hv] at ht
    exact ⟨_, rfl, p, CL, dx, _, _, rfl, h1, Z.cls, Z.n2, lk2, _, rfl, p, CL, dx, _, _, rfl, h1, Z.cls, Z.n3, lk3, L, _, (i : Int), _, rfl, rfl, SqL.of h2, atI_nat (by rw [List.getElem?_map, hq]; rfl), qa, _, 1, _, rfl, rfl, SqT.of ht, rfl, q⟩
  · have hk : ¬ (curP ps i).kind = "own" := fun e => c (decide_eq_true e)
    have e : ownW ps i = "" := if_neg hk
    rw [e] at q
    exact q
/-! ### take -/
/-- nothing but the line's place changes -/
structure ButL (p : Addr) (H H' : Hp) : Prop where
  b : But p H H'
  f : ∀ (C dx L : Addr) (n : Int) (i : Nat), H p = some (.ins C dx (lnF n L i)) → ∃ i', H' p = some (.ins C dx (lnF n L i'))
theorem ButL.refl (p : Addr) (H : Hp) : ButL p H H := ⟨But.refl _ _, fun C dx L n i e => ⟨i, e⟩⟩
theorem ButL.trans {p : Addr} {H H' H2 : Hp} (a : ButL p H H') (b : ButL p H' H2) : ButL p H H2 := ⟨a.b.trans b.b, fun C dx L n i e => let ⟨i', e'⟩ := a.f C dx L n i e; b.f C dx L n i' e'⟩
theorem sameL {p : Addr} {H H' : Hp} (s : Same H H') : ButL p H H' := ⟨same_but s, fun C dx L n i e => ⟨i, s _ _ e⟩⟩
theorem butL_upd {H : Hp} {C p dx L : Addr} {n : Int} {i i' : Nat} (h : H p = some (.ins C dx (lnF n L i))) : ButL p H (upd H p (.ins C dx (lnF n L i'))) := by
  refine ⟨fun a o' ha e => by rw [upd_ne ha]; exact e, fun C2 dx2 L2 n2 i2 e => ⟨i', ?_⟩⟩
  rw [h] at e
  injection e with e
  injection e with e1 e2 e3
  have e4 : (V.ref L : V) = V.ref L2 := by
    have h0 := congrArg (List.lookup ("pieces" : Str)) e3
    rw [lk2, lk2] at h0
    exact Option.some.inj h0
  have e5 : (V.int n : V) = V.int n2 := by
    have h0 := congrArg (List.lookup ("number" : Str)) e3
    rw [lk1, lk1] at h0
    exact Option.some.inj h0
  injection e4 with e4
  injection e5 with e5
  subst e1 e2 e4 e5
  exact upd_same
theorem LineAt.go {H : Hp} {CL p dx L : Addr} {n : Int} {as : List (Addr × Pc)} {i : Nat} (h1 : H p = some (.ins CL dx (lnF n L i))) (h2 : H L = some (.lst (as.map fun x => .ref x.1))) (h3 : PcsAt H as) : LineAt (upd H p (.ins CL dx (lnF n L (i + 1)))) CL p n (as.map (·.2)) (i + 1) := by
  refine ⟨dx, L, as, upd_same, ?_, h3.keep fun a xs e => ?_, rfl⟩
  · rw [upd_ne (fun z => by rw [z, h1] at h2; cases h2)]
    exact h2
  · rw [upd_ne (fun z => by rw [z, h1] at e; cases e)]
    exact e
def spTake (C CL : Addr) : Sp := fun vs H Q E => ∃ (p : Addr) (n : Int) (ps : List Pc) (i : Nat) (k : Str), vs = [.ref p, .str k] ∧ LineAt H CL p n ps i ∧ i < ps.length ∧
  ((curP ps i).kind = k → ∀ H', ButL p H H' → LineAt H' CL p n ps (i + 1) → Q (pvV (curP ps i).val) H') ∧ ((curP ps i).kind ≠ k → BadAt C n ((curP ps i).col : Nat) H E)
theorem sc_take : FnScope ["self", "kind", "value"] ["self", "kind"] (defScope m_Line_take) := ⟨rfl, rfl, rfl, by decide +kernel, rfl, by decide +kernel, by decide +kernel⟩
theorem but_upd {H : Hp} {p : Addr} {o : HO} : But p H (upd H p o) := fun a o' ha e => by
  rw [upd_ne ha]
  exact e
theorem ok_take {f C CL : Addr} {fd : FuncData} (F : Fun K "take" "Line.take" m_Line_take f fd) (Z : LnC K CL) (G_is_kind : ReadyM P w K mg base CL 1 "is_kind" ["self", "kind"] (spIsKind CL)) (G_fail : ReadyM P w K mg base CL 2 "fail" ["self"] (spFail C CL)) : FnOk P w K mg base (L2.CX P w) 3 f fd ["self", "kind"] (spTake C CL) := by
  refine F.okX sc_take (fun vs H Q E h => ?_) (fun cdv A outer s H vs Q E hr h => ?_)
  · obtain ⟨p, n, ps, i, k, rfl, _⟩ := h
    rfl
  obtain ⟨p, n, ps, i, k, rfl, hl, hi, q, qe⟩ := h
  have nd := sc_take.nd
  have hr2 : Room 2 _ := hr
  have hr1 : Room 1 _ := hr.mono (by decide)
  refine ⟨_, pss_cons (ps_if (pt_not (pt_val (pe_m G_is_kind Z.cls hr1 noE (pv 0) (pa_cons (pv 1) pa_nil)))) (pss_one (ps_expr (pe_m0' G_fail Z.cls hr2 (onward (takes_of rfl rfl rfl rfl)) (pv 0)))) (pss_nil))
      (pss_cons (ps_set (i := 2) nd rfl (.inl rfl) (pe_ix ix_tup (pe_ix (show IxR _ (rIxL K) from ix_list) (pe_fld (pv 0) rfl) (pe_fld (pv 0) rfl) (fun _ _ => rfl)) pe_int (fun _ _ => rfl)))
      (pss_cons (ps_fldaug (pv 0) pe_int ip_add)
      (pss_one (ps_ret (pv 2))))), ?_⟩
  obtain ⟨dx, L, as, h1, h2, h3, h4⟩ := id hl
  refine ⟨_, rfl, p, dx, _, rfl, h1, rfl, _, rfl, p, n, ps, i, k, rfl, hl, hi, _, rfl, ?_⟩
  by_cases hk : (curP ps i).kind = k
  · rw [decide_eq_true hk]
    refine iteF ?_
    subst h4
    obtain ⟨qa, hq⟩ := curP_of hi
    refine ⟨_, rfl, p, CL, dx, _, _, rfl, h1, Z.cls, Z.n2, lk2, _, rfl, p, CL, dx, _, _, rfl, h1, Z.cls, Z.n3, lk3, L, _, (i : Int), _, rfl, rfl, SqL.of h2, atI_nat (by rw [List.getElem?_map, hq]; rfl), qa, _, 1, _, rfl, rfl, SqT.of (h3 _ (List.mem_of_getElem? hq)), rfl, ?_⟩
    refine ⟨_, rfl, p, CL, dx, _, _, rfl, h1, Z.cls, Z.n3, lk3, _, _, rfl, rfl, dx, _, h1, by show 3 < 1000; decide, _, rfl, ?_⟩
    exact q hk _ (butL_upd h1) (LineAt.go h1 h2 h3)
  · rw [decide_eq_false hk]
    exact iteT ⟨_, rfl, p, dx, _, rfl, h1, rfl, p, n, ps, i, rfl, hl, hi, qe hk⟩
/-! ### took -/
def spTook (CL : Addr) : Sp := fun vs H Q _ => ∃ (p : Addr) (n : Int) (ps : List Pc) (i : Nat) (k : Str), vs = [.ref p, .str k] ∧ LineAt H CL p n ps i ∧ i < ps.length ∧ EndP ps ∧
  (ownW ps i = k → ∀ H', ButL p H H' → LineAt H' CL p n ps (i + 1) → Q (.bl true) H') ∧ (ownW ps i ≠ k → Q (.bl false) H)
theorem sc_took : FnScope ["self", "word"] ["self", "word"] (defScope m_Line_took) := ⟨rfl, rfl, rfl, by decide +kernel, rfl, by decide +kernel, by decide +kernel⟩
theorem ok_took {f CL : Addr} {fd : FuncData} (F : Fun K "took" "Line.took" m_Line_took f fd) (Z : LnC K CL) (G_own : ReadyM P w K mg base CL 2 "own_word" ["self"] (spOwn CL)) : FnOk P w K mg base (L2.CX P w) 3 f fd ["self", "word"] (spTook CL) := by
  refine F.okX sc_took (fun vs H Q E h => ?_) (fun cdv A outer s H vs Q E hr h => ?_)
  · obtain ⟨p, n, ps, i, k, rfl, _⟩ := h
    rfl
  obtain ⟨p, n, ps, i, k, rfl, hl, hi, he, q, q2⟩ := h
  have hr2 : Room 2 _ := hr
  refine ⟨_, pss_cons (ps_if (pt_cmpR op_ne (pe_m0' G_own Z.cls hr2 noE (pv 0)) (pv 1) (nomark _)) (pss_one (ps_ret pe_bl)) (pss_nil))
      (pss_cons (ps_fldaug (pv 0) pe_int ip_add)
      (pss_one (ps_ret pe_bl))), ?_⟩
  obtain ⟨dx, L, as, h1, h2, h3, h4⟩ := id hl
  refine ⟨_, rfl, p, dx, _, rfl, h1, rfl, p, n, ps, i, rfl, hl, hi, he, _, rfl, rfl, _, rfl, ?_⟩
  rw [dec_str]
  by_cases hk : ownW ps i = k
  · rw [decide_eq_true hk]
    refine iteF ?_
    refine ⟨_, rfl, p, CL, dx, _, _, rfl, h1, Z.cls, Z.n3, lk3, _, _, rfl, rfl, dx, _, h1, by show 3 < 1000; decide, ?_⟩
    subst h4
    exact q hk _ (butL_upd h1) (LineAt.go h1 h2 h3)
  · rw [decide_eq_false hk]
    exact iteT (q2 hk)
/-! ### expect, expect_end, take_one_of -/
def spExpect (C CL : Addr) : Sp := fun vs H Q E => ∃ (p : Addr) (n : Int) (ps : List Pc) (i : Nat) (k : Str), vs = [.ref p, .str k] ∧ LineAt H CL p n ps i ∧ i < ps.length ∧ EndP ps ∧
  (ownW ps i = k → ∀ H', ButL p H H' → LineAt H' CL p n ps (i + 1) → Q .non H') ∧ (ownW ps i ≠ k → BadAt C n ((curP ps i).col : Nat) H E)
theorem sc_expect : FnScope ["self", "word"] ["self", "word"] (defScope m_Line_expect) := ⟨rfl, rfl, rfl, by decide +kernel, rfl, by decide +kernel, by decide +kernel⟩
theorem ok_expect {f C CL : Addr} {fd : FuncData} (F : Fun K "expect" "Line.expect" m_Line_expect f fd) (Z : LnC K CL) (G_took : ReadyM P w K mg base CL 3 "took" ["self", "word"] (spTook CL)) (G_fail : ReadyM P w K mg base CL 2 "fail" ["self"] (spFail C CL)) : FnOk P w K mg base (L2.CX P w) 4 f fd ["self", "word"] (spExpect C CL) := by
  refine F.okX sc_expect (fun vs H Q E h => ?_) (fun cdv A outer s H vs Q E hr h => ?_)
  · obtain ⟨p, n, ps, i, k, rfl, _⟩ := h
    rfl
  obtain ⟨p, n, ps, i, k, rfl, hl, hi, he, q, qe⟩ := h
  have hr3 : Room 3 _ := hr
  have hr2 : Room 2 _ := hr.mono (by decide)
  refine ⟨_, pss_one (ps_if (pt_not (pt_val (pe_m G_took Z.cls hr3 noE (pv 0) (pa_cons (pv 1) pa_nil)))) (pss_one (ps_expr (pe_m0' G_fail Z.cls hr2 (onward (takes_of rfl rfl rfl rfl)) (pv 0)))) (pss_nil)), ?_⟩
  obtain ⟨dx, L, as, h1, h2, h3, h4⟩ := id hl
  exact ⟨_, rfl, p, dx, _, rfl, h1, rfl, _, rfl, p, n, ps, i, k, rfl, hl, hi, he, fun hk H' b hl' => ⟨_, rfl, iteF (q hk H' b hl')⟩, fun hk => ⟨_, rfl, iteT ⟨_, rfl, p, dx, _, rfl, h1, rfl, p, n, ps, i, rfl, hl, hi, qe hk⟩⟩⟩
def spExpEnd (C CL : Addr) : Sp := fun vs H Q E => ∃ (p : Addr) (n : Int) (ps : List Pc) (i : Nat), vs = [.ref p] ∧ LineAt H CL p n ps i ∧ i < ps.length ∧
  ((curP ps i).kind = "end" → Q .non H) ∧ ((curP ps i).kind ≠ "end" → BadAt C n ((curP ps i).col : Nat) H E)
theorem sc_expend : FnScope ["self"] ["self"] (defScope m_Line_expect_end) := ⟨rfl, rfl, rfl, by decide +kernel, rfl, by decide +kernel, by decide +kernel⟩
theorem ok_expend {f C CL : Addr} {fd : FuncData} (F : Fun K "expect_end" "Line.expect_end" m_Line_expect_end f fd) (Z : LnC K CL) (G_is_kind : ReadyM P w K mg base CL 1 "is_kind" ["self", "kind"] (spIsKind CL)) (G_fail : ReadyM P w K mg base CL 2 "fail" ["self"] (spFail C CL)) : FnOk P w K mg base (L2.CX P w) 3 f fd ["self"] (spExpEnd C CL) := by
  refine F.okX sc_expend (fun vs H Q E h => ?_) (fun cdv A outer s H vs Q E hr h => ?_)
  · obtain ⟨p, n, ps, i, rfl, _⟩ := h
    rfl
  obtain ⟨p, n, ps, i, rfl, hl, hi, q, qe⟩ := h
  have hr2 : Room 2 _ := hr
  have hr1 : Room 1 _ := hr.mono (by decide)
  refine ⟨_, pss_one (ps_if (pt_not (pt_val (pe_m G_is_kind Z.cls hr1 noE (pv 0) (pa_cons pe_str pa_nil)))) (pss_one (ps_expr (pe_m0' G_fail Z.cls hr2 (onward (takes_of rfl rfl rfl rfl)) (pv 0)))) (pss_nil)), ?_⟩
  obtain ⟨dx, L, as, h1, h2, h3, h4⟩ := id hl
  refine ⟨_, rfl, p, dx, _, rfl, h1, rfl, p, n, ps, i, _, rfl, hl, hi, _, rfl, ?_⟩
  by_cases hk : (curP ps i).kind = "end"
  · rw [decide_eq_true hk]
    exact iteF (q hk)
  · rw [decide_eq_false hk]
    exact iteT ⟨_, rfl, p, dx, _, rfl, h1, rfl, p, n, ps, i, rfl, hl, hi, qe hk⟩
def spTakeOne (K : PySem.W.Frag) (C CL : Addr) : Sp := fun vs H Q E => ∃ (p wa : Addr) (n : Int) (ps : List Pc) (i : Nat) (ws : List Str), vs = [.ref p, .ref wa] ∧ LineAt H CL p n ps i ∧ i < ps.length ∧ EndP ps ∧ (SqL K H wa (ws.map V.str) ∨ SqT K H wa (ws.map V.str)) ∧ ("" : Str) ∉ ws ∧
  (ownW ps i ∈ ws → ∀ H', ButL p H H' → LineAt H' CL p n ps (i + 1) → Q (.str (ownW ps i)) H') ∧ (ownW ps i ∉ ws → BadAt C n ((curP ps i).col : Nat) H E)
theorem sc_takeone : FnScope ["self", "words"] ["self", "words"] (defScope m_Line_take_one_of) := ⟨rfl, rfl, rfl, by decide +kernel, rfl, by decide +kernel, by decide +kernel⟩
theorem notin_strs {z : Str} {l : List Str} {A B : Prop} (h1 : z ∉ l → A) (h2 : z ∈ l → B) : if (if true = true then !inV (.str z) (l.map V.str) else inV (.str z) (l.map V.str)) = true then A else B := by
  rw [if_pos rfl, inV_str]
  by_cases h : z ∈ l
  · rw [decide_eq_true h]
    exact iteF (h2 h)
  · rw [decide_eq_false h]
    exact iteT (h1 h)
theorem ok_takeone {f C CL : Addr} {fd : FuncData} (F : Fun K "take_one_of" "Line.take_one_of" m_Line_take_one_of f fd) (Z : LnC K CL) (G_own : ReadyM P w K mg base CL 2 "own_word" ["self"] (spOwn CL)) (G_fail : ReadyM P w K mg base CL 2 "fail" ["self"] (spFail C CL)) (G_take : ReadyM P w K mg base CL 3 "take" ["self", "kind"] (spTake C CL)) : FnOk P w K mg base (L2.CX P w) 4 f fd ["self", "words"] (spTakeOne K C CL) := by
  refine F.okX sc_takeone (fun vs H Q E h => ?_) (fun cdv A outer s H vs Q E hr h => ?_)
  · obtain ⟨p, wa, n, ps, i, ws, rfl, _⟩ := h
    rfl
  obtain ⟨p, wa, n, ps, i, ws, rfl, hl, hi, he, hw, h0, q, qe⟩ := h
  have hr3 : Room 3 _ := hr
  have hr2 : Room 2 _ := hr.mono (by decide)
  refine ⟨_, pss_cons (ps_if (pt_cmpR op_notIn_seq (pe_m0' G_own Z.cls hr2 noE (pv 0)) (pv 1) rfl) (pss_one (ps_expr (pe_m0' G_fail Z.cls hr2 (onward (takes_of rfl rfl rfl rfl)) (pv 0)))) (pss_nil))
      (pss_one (ps_ret (pe_m G_take Z.cls hr3 (onward (takes_of rfl rfl rfl rfl)) (pv 0) (pa_cons pe_str pa_nil)))), ?_⟩
  obtain ⟨dx, L, as, h1, h2, h3, h4⟩ := id hl
  refine ⟨_, rfl, p, dx, _, rfl, h1, rfl, p, n, ps, i, rfl, hl, hi, he, _, rfl, wa, _, rfl, hw, rfl, flat_strs _, _, rfl, notin_strs (fun hk => ?_) (fun hk => ?_)⟩
  · exact ⟨_, rfl, p, dx, _, rfl, h1, rfl, p, n, ps, i, rfl, hl, hi, qe hk⟩
  · have hown : (curP ps i).kind = "own" := Classical.byContradiction fun z => h0 (by
      have e : ownW ps i = "" := if_neg z
      rw [← e]
      exact hk)
    refine ⟨_, rfl, p, dx, _, rfl, h1, rfl, p, n, ps, i, _, rfl, hl, hi, fun _ H' b hl' => ?_, fun z => absurd hown z⟩
    rw [he.own hi hown]
    exact q hk H' b hl'
/-! ### __init__ -/
def spInit (C CL : Addr) : Sp := fun vs H Q E => ∃ (p dx : Addr) (z : Str) (m : Int), vs = [.ref p, .str z, .int m] ∧ H p = some (.ins CL dx []) ∧ z.length ≤ 100000 ∧
  (∀ ps, piecesOf z = .ok ps → ∀ H', But p H H' → LineAt H' CL p m ps 0 → (∃ dx L i, H' p = some (.ins CL dx (lnF m L i)) ∧ H L = none) → Q .non H') ∧ ∀ c, piecesOf z = .error c → ∀ (H' : Hp) (d : Addr), But p H H' → H' d = none → E (.ref C) (some d) (upd H' d (.xd [("line", .int m), ("column", .int (c : Nat))]))
theorem sc_init : FnScope ["self", "text", "number"] ["self", "text", "number"] (defScope m_Line_init) := ⟨rfl, rfl, rfl, by decide +kernel, rfl, by decide +kernel, by decide +kernel⟩
theorem ok_init {f C CL : Addr} {fd : FuncData} (F : Fun K "__init__" "Line.__init__" m_Line_init f fd) (Z : LnC K CL) (G_pieces_of : ReadyX P w K mg base 4 "pieces_of" ["text", "number"] (spPieces K C)) : FnOk P w K mg base (L2.CX P w) 5 f fd ["self", "text", "number"] (spInit C CL) := by
  refine F.okX sc_init (fun vs H Q E h => ?_) (fun cdv A outer s H vs Q E hr h => ?_)
  · obtain ⟨p, dx, z, m, rfl, _⟩ := h
    rfl
  obtain ⟨p, dx, z, m, rfl, hp, hz, q, qe⟩ := h
  have hr4 : Room 4 _ := hr
  refine ⟨_, pss_cons (ps_fld (pv 0) (pv 2) rfl)
      (pss_cons (ps_fld (pv 0) (pe_fnX G_pieces_of hr4 (takes_of rfl rfl rfl rfl) (pa_cons (pv 1) (pa_cons (pv 2) pa_nil))) rfl)
      (pss_one (ps_fld (pv 0) pe_int rfl))), ?_⟩
  refine ⟨_, rfl, _, rfl, p, CL, dx, _, rfl, hp, Z.cls, Z.n1, by show 0 < 1000; decide, ?_⟩
  have b1 : But p H (upd H p (.ins CL dx (putF "number" (.int m) []))) := but_upd
  have e1 : upd H p (.ins CL dx (putF "number" (.int m) [])) p = some (.ins CL dx [("number", .int m)]) := upd_same
  generalize upd H p (.ins CL dx (putF "number" (.int m) [])) = H1 at b1 e1 ⊢
  refine ⟨_, rfl, _, rfl, z, m, rfl, hz, fun ps hps L as H2 s2 nLn eL hpc hmap => ?_, fun c hc H2 d s2 nd' => ?_⟩
  · have ep := s2 _ _ e1
    refine ⟨_, rfl, p, CL, dx, _, rfl, ep, Z.cls, Z.n2, by show 1 < 1000; decide, ?_⟩
    have nL : L ≠ p := fun zz => by
      rw [zz, ep] at eL
      cases eL
    have e2 : upd H2 p (.ins CL dx (putF "pieces" (.ref L) [("number", .int m)])) p = some (.ins CL dx [("number", .int m), ("pieces", .ref L)]) := upd_same
    have b2 : But p H (upd H2 p (.ins CL dx (putF "pieces" (.ref L) [("number", .int m)]))) := fun a o ha e => by
      rw [upd_ne ha]
      exact s2 _ _ (b1 a o ha e)
    have eL2 : upd H2 p (.ins CL dx (putF "pieces" (.ref L) [("number", .int m)])) L = some (.lst (as.map fun x => .ref x.1)) := by
      rw [upd_ne nL]
      exact eL
    have hp2 : PcsAt (upd H2 p (.ins CL dx (putF "pieces" (.ref L) [("number", .int m)]))) as := hpc.keep fun a xs e => by
      rw [upd_ne (fun zz => by rw [zz, ep] at e; cases e)]
      exact e
    generalize upd H2 p (.ins CL dx (putF "pieces" (.ref L) [("number", .int m)])) = H3 at e2 b2 eL2 hp2 ⊢
    refine ⟨_, rfl, p, CL, dx, _, rfl, e2, Z.cls, Z.n3, by show 2 < 1000; decide, ?_⟩
    have hLn : H L = none := by
      cases e : H L with
      | none => rfl
      | some o =>
        rw [b1 L o nL e] at nLn
        cases nLn
    refine q ps hps _ (b2.trans but_upd) ⟨dx, L, as, upd_same, ?_, hp2.keep fun a xs e => ?_, hmap⟩ ⟨dx, L, _, upd_same, hLn⟩
    · rw [upd_ne nL]
      exact eL2
    · rw [upd_ne (fun zz => by rw [zz, e2] at e; cases e)]
      exact e
  · exact qe c hc H2 d (fun a o ha e => s2 _ _ (b1 a o ha e)) nd'
end
end Kx

namespace Kx
open PySem PySem.Spec PyProof.Rows L2 TL
theorem own_in {ps : List Pc} (h : EndP ps) {i : Nat} (hi : i < ps.length) : ownW ps i ∈ ("" : Str) :: ownAll := by
  by_cases hk : (curP ps i).kind = "own"
  · obtain ⟨qs, c, rfl, hq⟩ := id h
    have hm := cur_mem hi
    rcases List.mem_append.mp hm with hm | hm
    · obtain ⟨z, e, hz⟩ := (hq _ hm).own hk
      have hv := h.own hi hk
      rw [e] at hv
      rw [← PV.tx.inj hv]
      exact List.mem_cons_of_mem _ hz
    · rw [List.mem_singleton.mp hm] at hk
      exact absurd hk (show ¬ ("end" : Str) = "own" by decide +kernel)
  · have e : ownW ps i = "" := if_neg hk
    rw [e]
    exact List.mem_cons_self
theorem own_pos {ps : List Pc} {i : Nat} (h : ownW ps i ≠ "") : (curP ps i).kind ≠ "end" := fun z => h (if_neg (by rw [z]; exact show ¬ ("end" : Str) = "own" by decide +kernel))
def BadP (C p : Addr) (n c : Int) (H : Hp) (E : XK) : Prop := ∀ (H' : Hp) (d : Addr), ButL p H H' → H' d = none → E (.ref C) (some d) (upd H' d (.xd [("line", .int n), ("column", .int c)]))
theorem BadP.at {C p : Addr} {n c : Int} {H H' : Hp} {E : XK} (h : BadP C p n c H E) (b : ButL p H H') : BadAt C n c H' E := fun H2 d s nd => h H2 d (b.trans (sameL s)) nd
theorem BadP.but {C p : Addr} {n c : Int} {H H' : Hp} {E : XK} (h : BadP C p n c H E) (b : ButL p H H') : BadP C p n c H' E := fun H2 d s nd => h H2 d (b.trans s) nd
theorem cur_ok {ps : List Pc} (h : EndP ps) {i : Nat} (hi : i < ps.length) (hk : (curP ps i).kind ≠ "end") : PcOk (curP ps i) := by
  obtain ⟨qs, c, rfl, hq⟩ := h
  rcases List.mem_append.mp (cur_mem hi) with hm | hm
  · exact hq _ hm
  · rw [List.mem_singleton.mp hm] at hk
    exact absurd rfl hk
abbrev s_read_list : Stmt := topS 27
abbrev s_read_column : Stmt := topS 28
/-! ### a local name that holds one of some defs that may raise, called -/
structure CalX (P : Program) (w : World) (K : PySem.W.Frag) (mg : Str → Option Value) (base : Heap) (k : Nat) (f : Addr) (sp : Sp) : Prop where
  ex : ∃ (fd : FuncData) (ps : List Str), FnOk P w K mg base (L2.CX P w) k f fd ps sp ∧ PySem.W.keepIn K (.ref f) = true ∧ Binds K fd ps []
section
variable {X : Cx}
def tCallW (i : Nat) (fam : List (Addr × Sp)) (W : WX) (t : TA) : TE := fun σ H Q => ∃ p ∈ fam, σ[i]? = some (some (.ref p.1)) ∧ t σ H fun vs H1 => p.2 vs H1 Q (WE W σ)
theorem pe_cvX {i j : Nat} {fam : List (Addr × Sp)} {W : WX} {x : Str} {p pos : Pos} {e : Expr} {es : List Expr} {t : TA} (c : ∀ p ∈ fam, ∃ k, k ≤ j ∧ CalX X.prog X.w X.K X.mg X.base k p.1 p.2) (hr : Room j X.A) (tk : Takes X W) (hN : X.N[i]? = some x) (hv : Vis X.env.scope x) (ha : PA X (e :: es) t)
    (hd : (x == ("__debug__" : Str)) = false := by decide) (hcd : (x == ("__classdict__" : Str)) = false := by decide)
    (he : starEach (e :: es) X.env = (false, eval e X.env) :: starEach es X.env := by rfl) (hpl : (backTo pos (starEach es X.env)).any (·.1) = false := by rfl) :
    PE X (.Call (.Name x p) (e :: es) [] pos) (tCallW i fam W t) := by
  constructor
  intro pins s σ H Q I h
  obtain ⟨⟨f, sp⟩, hm, hs, ht⟩ := h
  obtain ⟨k, hk, ⟨fd, ps, F, kp, b⟩⟩ := c _ hm
  refine wpAny_Call_Name_kw (thn ((pe_var (pos := p) hN hv hd hcd).run pins s σ H (fun v H1 => v = .ref f ∧ H1 = H) I ⟨.ref f, hs, rfl, rfl⟩) ?_)
  rintro u s1 ⟨v, H1, I1, r1, rfl, rfl⟩
  cases r1
  refine PySem.W.callWith_K (h₀ := X.base) I.ok.mod.kin kp (thn (ha.run pos pins s1 σ _ _ I1 ht) ?_) he hpl
  rintro us s2 ⟨vs, H2, I2, r, q⟩
  exact ⟨I2.kIn, run_fnS F (hr.mono hk) b (passAt tk σ) I2 r q⟩
end
theorem LineAt.put {H G : Hp} {CL p N : Addr} {n : Int} {ps : List Pc} {i j : Nat} {o : HO} (hl : LineAt H CL p n ps i) (b : ButL p H G) (hg : LineAt G CL p n ps j) (hN : H N = none) : LineAt (upd G N o) CL p n ps j := by
  obtain ⟨dx, L, as, h1, h2, h3, h4⟩ := hl
  obtain ⟨i', e⟩ := b.f _ _ _ _ _ h1
  obtain ⟨dx2, L2, as2, g1, _, _, _⟩ := hg
  have ej : i' = j := by
    rw [e] at g1
    injection g1 with g1
    injection g1 with _ _ g3
    have h0 := congrArg (List.lookup ("place" : Str)) g3
    rw [lk3, lk3] at h0
    injection h0 with h0
    injection h0 with h0
    omega
  subst ej
  have nt : ∀ {a : Addr} {o' : HO}, H a = some o' → a ≠ N := fun h z => by
    rw [z, hN] at h
    cases h
  have np : ∀ {a : Addr} {o' : HO}, H a = some o' → (∀ C d f, o' ≠ .ins C d f) → a ≠ p := fun h k z => by
    rw [z, h1] at h
    cases h
    exact k _ _ _ rfl
  refine ⟨dx, L, as, ?_, ?_, fun x hx => ?_, h4⟩
  · rw [upd_ne (nt h1)]
    exact e
  · rw [upd_ne (nt h2)]
    exact b.b _ _ (np h2 fun _ _ _ z => by cases z) h2
  · have h := h3 x hx
    rw [upd_ne (nt h)]
    exact b.b _ _ (np h fun _ _ _ z => by cases z) h
theorem ButL.put {p N : Addr} {H G : Hp} {o : HO} (b : ButL p H G) (hN : H N = none) : ButL p H (upd G N o) := ⟨fun a o' ha e => by
  rw [upd_ne (fun z => by rw [z, hN] at e; cases e)]
  exact b.b a o' ha e, fun C dx L n i e => by
  obtain ⟨i', e'⟩ := b.f C dx L n i e
  refine ⟨i', ?_⟩
  rw [upd_ne (fun z => by rw [z, hN] at e; cases e)]
  exact e'⟩
/-! ### readings of any kind -/
abbrev Rdg (A : Type) : Type := List Pc → Nat → Except Nat (A × Nat)
def thenA {A B : Type} (r : Except Nat (A × Nat)) (k : A → Nat → Except Nat (B × Nat)) : Except Nat (B × Nat) := match r with
  | .error j => .error j
  | .ok (a, j) => k a j
def FineF {A : Type} (rd : Rdg A) : Prop := ∀ ps, EndP ps → ∀ i, i < ps.length → ∀ a j, rd ps i = .ok (a, j) → i < j ∧ j < ps.length
def KeepAt {A : Type} (At : Hp → V → A → Prop) : Prop := ∀ (H H' : Hp) (v : V) (a : A), (∀ (t : Addr) (xs : List V), H t = some (.tup xs) → H' t = some (.tup xs)) → At H v a → At H' v a
def spRd {A : Type} (C CL : Addr) (At : Hp → V → A → Prop) (rd : Rdg A) : Sp := fun vs H Q E => ∃ (p : Addr) (n : Int) (ps : List Pc) (i : Nat), vs = [.ref p] ∧ LineAt H CL p n ps i ∧ i < ps.length ∧ EndP ps ∧ ps.length ≤ 10000 ∧
  (∀ a j, rd ps i = .ok (a, j) → ∀ v H', ButL p H H' → LineAt H' CL p n ps j → At H' v a → Q v H') ∧ (∀ j, rd ps i = .error j → BadP C p n ((curP ps j).col : Nat) H E)
def rdItems {A : Type} (rd : Rdg A) (ps : List Pc) : Nat → List A → Nat → Except Nat (List A × Nat)
  | 0, as, i => .ok (as, i)
  | g + 1, as, i => if ownW ps i = "," then thenA (rd ps (i + 1)) fun a j => rdItems rd ps g (as ++ [a]) j else .ok (as, i)
def rdList {A : Type} (rd : Rdg A) : Rdg (List A) := fun ps i => thenA (rd ps i) fun a j => rdItems rd ps ps.length [a] j
def ListAt {A : Type} (At : Hp → V → A → Prop) (H : Hp) (v : V) (as : List A) : Prop := ∃ (t : Addr) (xs : List V), v = .ref t ∧ H t = some (.tup xs) ∧ Paired (At H) xs as
theorem ListAt.keep {A : Type} {At : Hp → V → A → Prop} (k : KeepAt At) : KeepAt (ListAt At) := fun H H' v as h ⟨t, xs, e, h1, h2⟩ => ⟨t, xs, e, h _ _ h1, Paired.mapP h2 fun a b q => k H H' a b h q⟩
theorem items_fine {A : Type} {rd : Rdg A} (hr : FineF rd) {ps : List Pc} (he : EndP ps) : ∀ (g : Nat) (as : List A) (i : Nat) (bs : List A) (j : Nat), i < ps.length → rdItems rd ps g as i = .ok (bs, j) → i ≤ j ∧ j < ps.length
  | 0, as, i, bs, j, hi, h => by
    cases h
    exact ⟨Nat.le_refl _, hi⟩
  | g + 1, as, i, bs, j, hi, h => by
    rw [rdItems] at h
    by_cases c : ownW ps i = ","
    · rw [if_pos c] at h
      have hi1 := he.next hi (own_pos (by rw [c]; decide +kernel))
      cases hh : rd ps (i + 1) with
      | error k =>
        rw [hh] at h
        cases h
      | ok t =>
        obtain ⟨a, k⟩ := t
        rw [hh] at h
        obtain ⟨k1, k2⟩ := hr ps he (i + 1) hi1 a k hh
        obtain ⟨m1, m2⟩ := items_fine hr he g _ k bs j k2 h
        exact ⟨by omega, m2⟩
    · rw [if_neg c] at h
      cases h
      exact ⟨Nat.le_refl _, hi⟩
theorem list_fine {A : Type} {rd : Rdg A} (hr : FineF rd) : FineF (rdList rd) := fun ps he i hi bs j h => by
  unfold rdList at h
  cases hh : rd ps i with
  | error k =>
    rw [hh] at h
    cases h
  | ok t =>
    obtain ⟨a, k⟩ := t
    rw [hh] at h
    obtain ⟨k1, k2⟩ := hr ps he i hi a k hh
    obtain ⟨m1, m2⟩ := items_fine hr he _ _ k bs j k2 h
    exact ⟨by omega, m2⟩
section
variable {P : Program} {w : World} {K : PySem.W.Frag} {mg : Str → Option Value} {base : Heap}
def spList {A : Type} (C CL fr : Addr) (At : Hp → V → A → Prop) (rd : Rdg A) : Sp := fun vs H Q E => ∃ p : Addr, vs = [.ref p, .ref fr] ∧ spRd C CL (ListAt At) (rdList rd) [.ref p] H Q E
abbrev N_read_list : List Str := ["line", "read_one", "things"]
theorem sc_list : FnScope N_read_list ["line", "read_one"] (defScope s_read_list) := ⟨rfl, rfl, rfl, by decide +kernel, rfl, by decide +kernel, by decide +kernel⟩
theorem ok_list {A : Type} {g C CL fr : Addr} {fd : FuncData} {k : Nat} {At : Hp → V → A → Prop} {rd : Rdg A} (F : Fun K "read_list" "read_list" s_read_list g fd) (Z : LnC K CL) (m_tuple : mg "tuple" = none) (hA : KeepAt At) (hR : FineF rd) (G_took : ReadyM P w K mg base CL 3 "took" ["self", "word"] (spTook CL)) (G_one : CalX P w K mg base k fr (spRd C CL At rd)) (hk : 3 ≤ k) : FnOk P w K mg base (L2.CX P w) (k + 1) g fd ["line", "read_one"] (spList C CL fr At rd) := by
  refine F.okX sc_list (fun vs H Q E h => ?_) (fun cdv A' outer s H vs Q E hr h => ?_)
  · obtain ⟨p, rfl, _⟩ := h
    rfl
  obtain ⟨p, rfl, p', n, ps, i, ep, hl, hi, he, hlen, q, qe⟩ := h
  cases ep
  have nd := sc_list.nd
  have hrk : Room k _ := hr
  have hr3 : Room 3 _ := hrk.mono hk
  have cal : ∀ x ∈ [(fr, spRd C CL At rd)], ∃ k', k' ≤ k ∧ CalX P w K mg base k' x.1 x.2 := fun x hx => by
    rw [List.mem_singleton.mp hx]
    exact ⟨k, Nat.le_refl _, G_one⟩
  refine ⟨_, pss_cons (ps_set (i := 2) nd rfl (.inl rfl) (pe_lst (pa_cons (pe_cvX (i := 1) cal hrk (takes_of rfl rfl rfl rfl) rfl (.inl rfl) (pa_cons (pv 0) pa_nil)) pa_nil)))
      (pss_cons (ps_while (passes_of rfl) (pt_val (pe_m G_took Z.cls hr3 noE (pv 0) (pa_cons pe_str pa_nil))) (pss_one (ps_expr (pe_bm PySem.F.plainAttrs_list PySem.F.slot_list_append PySem.F.type_list_append mt_append (pv 2) (pa_cons (pe_cvX (i := 1) cal hrk (takes_of rfl rfl rfl rfl) rfl (.inl rfl) (pa_cons (pv 0) pa_nil)) pa_nil)))))
      (pss_one (ps_ret (pe_callTy call_tuple_of (by rfl) m_tuple PyProof.Rows.boot_tuple (pa_cons (pv 2) pa_nil))))), ?_⟩
  have z1 : 1 ≤ sizeLine := by decide
  have eAll : rdList rd ps i = thenA (rd ps i) fun a j => rdItems rd ps ps.length [a] j := rfl
  refine ⟨(fr, spRd C CL At rd), List.mem_cons_self, rfl, _, rfl, p, n, ps, i, rfl, hl, hi, he, hlen, fun a0 j0 hr0 v0 H1 b1 hl1 ha0 => ⟨z1, fun L hL => ?_⟩, fun j hr0 => qe j (by rw [eAll, hr0]; rfl)⟩
  obtain ⟨f1, f2⟩ := hR ps he i hi a0 j0 hr0
  rw [hr0] at eAll
  change rdList rd ps i = rdItems rd ps ps.length [a0] j0 at eAll
  obtain ⟨dx, L0, as0, hp, _⟩ := id hl
  have nLp : L ≠ p := fun z => by
    obtain ⟨dx1, L1, as1, h1, _⟩ := hl1
    rw [z, h1] at hL
    cases hL
  have hLH : H L = none := by
    cases e : H L with
    | none => rfl
    | some o =>
      rw [b1.b _ _ nLp e] at hL
      cases hL
  let Inv : Nat → L2.St → Hp → Prop := fun gg σ G => ∃ (as : List A) (j : Nat) (xs : List V), σ = [some (.ref p), some (.ref fr), some (.ref L)] ∧ ButL p H G ∧ LineAt G CL p n ps j ∧ j < ps.length ∧ G L = some (.lst xs) ∧ Paired (At G) xs as ∧ ps.length ≤ j + gg ∧ as.length ≤ j + 1 ∧ rdList rd ps i = rdItems rd ps gg as j
  refine ⟨Inv, ⟨ps.length, [a0], j0, [v0], rfl, b1.put hLH, hl.put b1 hl1 hLH, f2, upd_same, .cons (hA _ _ _ _ (fun t xs h => same_upd hL t _ h) ha0) .nil, by omega, by show 1 ≤ _; omega, eAll⟩, ?_⟩
  rintro gg σ G ⟨as, j, xs, rfl, b, hlj, hj, eL, hx, hg, hlen2, htot⟩
  obtain ⟨g', rfl⟩ : ∃ g', gg = g' + 1 := ⟨gg - 1, by omega⟩
  obtain ⟨dx1, L1, as1, h1, _⟩ := id hlj
  refine ⟨_, rfl, p, dx1, _, rfl, h1, rfl, p, n, ps, j, _, rfl, hlj, hj, he, fun hw G1 c1 hl2 => ?_, fun hw => ?_⟩
  · have hj1 := he.next hj (own_pos (by rw [hw]; decide +kernel))
    rw [rdItems, if_pos hw] at htot
    have eL1 := c1.b _ _ nLp eL
    have kt1 : ∀ (a : Addr) (xs : List V), G a = some (.tup xs) → G1 a = some (.tup xs) := fun a xs h => c1.b a _ (fun z => by rw [z, h1] at h; cases h) h
    obtain ⟨dx2, L2', as2, h2, _⟩ := id hl2
    refine ⟨_, rfl, iteT ⟨fun σ' G2 => ∃ m', m' < g' + 1 ∧ Inv m' σ' G2, fun σ' G2 h => h, ?_⟩⟩
    refine ⟨_, rfl, .inl ⟨rfl, _, SqL.of eL1⟩, (fr, spRd C CL At rd), List.mem_cons_self, rfl, _, rfl, p, n, ps, j + 1, rfl, hl2, hj1, he, hlen, fun a j2 hra v G2 c2 hl3 ha => ?_, fun j2 hra => (qe j2 (by rw [htot, hra]; rfl)).but (b.trans c1)⟩
    obtain ⟨m1, m2⟩ := hR ps he (j + 1) hj1 a j2 hra
    rw [hra] at htot
    have eL2 := c2.b _ _ nLp eL1
    have kt2 : ∀ (a : Addr) (xs : List V), G1 a = some (.tup xs) → G2 a = some (.tup xs) := fun a xs h => c2.b a _ (fun z => by rw [z, h2] at h; cases h) h
    have ktL : ∀ (a : Addr) (ys : List V), G2 a = some (.tup ys) → upd G2 L (.lst (xs ++ [v])) a = some (.tup ys) := fun a ys h => by
      rw [upd_ne (fun z => by rw [z, eL2] at h; cases h)]
      exact h
    have lx : xs.length = as.length := Paired.length hx
    refine ⟨L, _, _, rfl, rfl, eL2, Nat.lt_of_le_of_lt (show _ ≤ 10001 by omega) (by decide), ?_⟩
    refine ⟨g', by omega, as ++ [a], j2, xs ++ [v], rfl, ((b.trans c1).trans c2).put hLH, hl.put ((b.trans c1).trans c2) hl3 hLH, m2, upd_same, Paired.snoc (Paired.mapP hx fun x y h => hA _ _ _ _ (fun t ys e => ktL _ _ (kt2 _ _ (kt1 _ _ e))) h) (hA _ _ _ _ ktL ha), by omega, by rw [List.length_append]; show as.length + 1 ≤ j2 + 1; omega, htot⟩
  · rw [rdItems, if_neg hw] at htot
    refine ⟨_, rfl, iteF ?_⟩
    refine ⟨_, rfl, L, _, rfl, .inl ⟨SqL.of eL, fun t ht => ?_⟩⟩
    have u := same_upd (o := .tup xs) ht
    exact q as j htot (.ref t) _ (b.trans (sameL u)) (hlj.keep u) ⟨t, xs, rfl, upd_same, Paired.mapP hx fun x y h => hA _ _ _ _ (fun t' ys e => u t' _ e) h⟩
end
def StrAt (_ : Hp) (v : V) (z : Str) : Prop := v = .str z
theorem StrAt.keep : KeepAt StrAt := fun _ _ _ _ _ h => h
def txt (v : PV) : Str := match v with
  | .tx z => z
  | .nm _ => ""
def rdName : Rdg Str := fun ps i => if (curP ps i).kind = "name" then .ok (txt (curP ps i).val, i + 1) else .error i
def rdWord (ws : List Str) : Rdg Str := fun ps i => if ownW ps i ∈ ws then .ok (ownW ps i, i + 1) else .error i
def rdTwo (ws : List Str) : Rdg (Str × Str) := fun ps i => thenA (rdName ps i) fun z j => thenA (rdWord ws ps j) fun w k => .ok ((z, w), k)
def rdNew : Rdg Str := fun ps i => thenA (rdWord ["as"] ps i) fun _ j => rdName ps j
def TwoAt (H : Hp) (v : V) (x : Str × Str) : Prop := ∃ t : Addr, v = .ref t ∧ H t = some (.tup [.str x.1, .str x.2])
theorem TwoAt.keep : KeepAt TwoAt := fun _ _ _ _ h ⟨t, e, q⟩ => ⟨t, e, h _ _ q⟩
theorem name_fine : FineF rdName := fun ps he i hi a j h => by
  unfold rdName at h
  by_cases c : (curP ps i).kind = "name"
  · rw [if_pos c] at h
    cases h
    exact ⟨Nat.lt_succ_self _, he.next hi (by rw [c]; decide +kernel)⟩
  · rw [if_neg c] at h
    cases h
theorem word_fine {ws : List Str} (h0 : ("" : Str) ∉ ws) : FineF (rdWord ws) := fun ps he i hi a j h => by
  unfold rdWord at h
  by_cases c : ownW ps i ∈ ws
  · rw [if_pos c] at h
    cases h
    exact ⟨Nat.lt_succ_self _, he.next hi (own_pos fun z => h0 (by rw [← z]; exact c))⟩
  · rw [if_neg c] at h
    cases h
theorem thenA_fine {A B : Type} {rd : Rdg A} {k : A → Rdg B} (hr : FineF rd) (hk : ∀ a, FineF (k a)) : FineF (fun ps i => thenA (rd ps i) fun a j => k a ps j) := fun ps he i hi b j h => by
  cases hh : rd ps i with
  | error m =>
    dsimp only at h
    rw [hh] at h
    cases h
  | ok t =>
    obtain ⟨a, m⟩ := t
    dsimp only at h
    rw [hh] at h
    obtain ⟨k1, k2⟩ := hr ps he i hi a m hh
    obtain ⟨m1, m2⟩ := hk a ps he m k2 b j h
    exact ⟨by omega, m2⟩
theorem two_fine {ws : List Str} (h0 : ("" : Str) ∉ ws) : FineF (rdTwo ws) := fun ps he i hi x j h => by
  unfold rdTwo at h
  cases hh : rdName ps i with
  | error m =>
    rw [hh] at h
    cases h
  | ok t =>
    obtain ⟨a, m⟩ := t
    rw [hh] at h
    obtain ⟨k1, k2⟩ := name_fine ps he i hi a m hh
    change thenA (rdWord ws ps m) _ = _ at h
    cases h2 : rdWord ws ps m with
    | error m2 =>
      rw [h2] at h
      cases h
    | ok t2 =>
      obtain ⟨b, m2⟩ := t2
      rw [h2] at h
      cases h
      obtain ⟨l1, l2⟩ := word_fine h0 ps he m k2 b j h2
      exact ⟨by omega, l2⟩
theorem new_fine : FineF rdNew := thenA_fine (k := fun _ => rdName) (word_fine (by decide +kernel)) fun _ => name_fine
section
variable {P : Program} {w : World} {K : PySem.W.Frag} {mg : Str → Option Value} {base : Heap}
theorem val_name {ps : List Pc} (he : EndP ps) {i : Nat} (hi : i < ps.length) (hk : (curP ps i).kind = "name") : pvV (curP ps i).val = .str (txt (curP ps i).val) := by
  obtain ⟨z, hv⟩ := (cur_ok he hi (by rw [hk]; decide +kernel)).txt (.inr hk)
  rw [hv]
  rfl
theorem sc_rcolumn : FnScope ["line", "name"] ["line"] (defScope s_read_column) := ⟨rfl, rfl, rfl, by decide +kernel, rfl, by decide +kernel, by decide +kernel⟩
theorem ok_rcolumn {g C CL : Addr} {fd : FuncData} (F : Fun K "read_column" "read_column" s_read_column g fd) (Z : LnC K CL) (G_take : ReadyM P w K mg base CL 3 "take" ["self", "kind"] (spTake C CL)) (G_one : ReadyM P w K mg base CL 4 "take_one_of" ["self", "words"] (spTakeOne K C CL)) : FnOk P w K mg base (L2.CX P w) 5 g fd ["line"] (spRd C CL TwoAt (rdTwo ["int", "text"])) := by
  refine F.okX sc_rcolumn (fun vs H Q E h => ?_) (fun cdv A outer s H vs Q E hr h => ?_)
  · obtain ⟨p, n, ps, i, rfl, _⟩ := h
    rfl
  obtain ⟨p, n, ps, i, rfl, hl, hi, he, hlen, q, qe⟩ := h
  have nd := sc_rcolumn.nd
  have hr4 : Room 4 _ := hr
  have hr3 : Room 3 _ := hr.mono (by decide)
  have z2 : 2 ≤ sizeLine := by decide
  refine ⟨_, pss_cons (ps_set (i := 1) nd rfl (.inl rfl) (pe_m G_take Z.cls hr3 (onward (takes_of rfl rfl rfl rfl)) (pv 0) (pa_cons pe_str pa_nil)))
      (pss_one (ps_ret (pe_tup (pa_cons (pv 1) (pa_cons (pe_m G_one Z.cls hr4 (onward (takes_of rfl rfl rfl rfl)) (pv 0) (pa_cons (pe_tup (pa_cons pe_str (pa_cons pe_str pa_nil))) pa_nil)) pa_nil))))), ?_⟩
  obtain ⟨dx, L, as, h1, _⟩ := id hl
  refine ⟨_, rfl, p, dx, _, rfl, h1, rfl, p, n, ps, i, _, rfl, hl, hi, fun hk H1 b1 hl1 => ?_, fun hk => ?_⟩
  · have e1 : rdName ps i = .ok (txt (curP ps i).val, i + 1) := if_pos hk
    have hi1 := he.next hi (by rw [hk]; decide +kernel)
    have e2 : rdTwo ["int", "text"] ps i = thenA (rdWord ["int", "text"] ps (i + 1)) fun w k => .ok ((txt (curP ps i).val, w), k) := by
      unfold rdTwo
      rw [e1]
      rfl
    rw [val_name he hi hk]
    obtain ⟨dx1, L1, as1, h1', _⟩ := id hl1
    refine ⟨_, rfl, _, rfl, p, dx1, _, rfl, h1', rfl, z2, fun wt hwt => ?_⟩
    have u := same_upd (o := .tup ((["int", "text"] : List Str).map V.str)) hwt
    refine ⟨p, wt, n, ps, i + 1, ["int", "text"], rfl, hl1.keep u, hi1, he, .inr (SqT.of upd_same), by decide +kernel, fun hw H2 b2 hl2 => ⟨z2, fun t ht => ?_⟩, fun hw => ?_⟩
    · have e3 : rdWord ["int", "text"] ps (i + 1) = .ok (ownW ps (i + 1), i + 2) := if_pos hw
      have u2 := same_upd (o := .tup [.str (txt (curP ps i).val), .str (ownW ps (i + 1))]) ht
      exact q _ (i + 2) (by rw [e2, e3]; rfl) (.ref t) _ (((b1.trans (sameL u)).trans b2).trans (sameL u2)) (hl2.keep u2) ⟨t, rfl, upd_same⟩
    · have e3 : rdWord ["int", "text"] ps (i + 1) = .error (i + 1) := if_neg hw
      exact (qe (i + 1) (by rw [e2, e3]; rfl)).at (b1.trans (sameL u))
  · have e1 : rdName ps i = .error i := if_neg hk
    refine (qe i ?_).at (ButL.refl _ _)
    unfold rdTwo
    rw [e1]
    rfl
end
abbrev s_read_table_head : Stmt := topS 29
def rdOne : Rdg (List Str) := fun ps i => thenA (rdName ps i) fun z j => .ok ([z], j)
def rdThen {A B : Type} (rx : Rdg A) (w : Str) (ry : Rdg B) : Rdg (A × B) := fun ps i => thenA (rx ps i) fun a j => thenA (rdWord [w] ps j) fun _ j2 => thenA (ry ps j2) fun b k => .ok ((a, b), k)
def rdTwoIn : Rdg (List Str) := fun ps i => thenA (rdThen rdName "," rdName ps i) fun x k => .ok ([x.1, x.2], k)
def InAt : Hp → V → List Str → Prop := ListAt StrAt
theorem InAt.keep : KeepAt InAt := ListAt.keep StrAt.keep
def PairAt {A B : Type} (At1 : Hp → V → A → Prop) (At2 : Hp → V → B → Prop) (H : Hp) (v : V) (x : A × B) : Prop := ∃ (t : Addr) (a b : V), v = .ref t ∧ H t = some (.tup [a, b]) ∧ At1 H a x.1 ∧ At2 H b x.2
theorem PairAt.keep {A B : Type} {At1 : Hp → V → A → Prop} {At2 : Hp → V → B → Prop} (k1 : KeepAt At1) (k2 : KeepAt At2) : KeepAt (PairAt At1 At2) := fun H H' v x h ⟨t, a, b, e, q, q1, q2⟩ => ⟨t, a, b, e, h _ _ q, k1 H H' _ _ h q1, k2 H H' _ _ h q2⟩
theorem then_fine {A B : Type} {rx : Rdg A} {w : Str} {ry : Rdg B} (hw : w ≠ "") (h1 : FineF rx) (h2 : FineF ry) : FineF (rdThen rx w ry) := fun ps he i hi x j h => by
  unfold rdThen at h
  cases e1 : rx ps i with
  | error m =>
    rw [e1] at h
    cases h
  | ok t =>
    obtain ⟨a, m⟩ := t
    rw [e1] at h
    obtain ⟨k1, k2⟩ := h1 ps he i hi a m e1
    change thenA (rdWord [w] ps m) _ = _ at h
    cases e2 : rdWord [w] ps m with
    | error m2 =>
      rw [e2] at h
      cases h
    | ok t2 =>
      obtain ⟨b, m2⟩ := t2
      rw [e2] at h
      obtain ⟨l1, l2⟩ := word_fine (fun z => hw (List.mem_singleton.mp z).symm) ps he m k2 b m2 e2
      change thenA (ry ps m2) _ = _ at h
      cases e3 : ry ps m2 with
      | error m3 =>
        rw [e3] at h
        cases h
      | ok t3 =>
        obtain ⟨c, m3⟩ := t3
        rw [e3] at h
        cases h
        obtain ⟨n1, n2⟩ := h2 ps he m2 l2 c j e3
        exact ⟨by omega, n2⟩
theorem map_fine {A B : Type} {rd : Rdg A} {g : A → B} (h1 : FineF rd) : FineF (fun ps i => thenA (rd ps i) fun a j => .ok (g a, j)) := fun ps he i hi x j h => by
  cases e1 : rd ps i with
  | error m =>
    dsimp only at h
    rw [e1] at h
    cases h
  | ok t =>
    obtain ⟨a, m⟩ := t
    dsimp only at h
    rw [e1] at h
    cases h
    exact h1 ps he i hi a j e1
theorem one_fine : FineF rdOne := map_fine name_fine
theorem twoIn_fine : FineF rdTwoIn := map_fine (then_fine (by decide +kernel) name_fine name_fine)
section
variable {P : Program} {w : World} {K : PySem.W.Frag} {mg : Str → Option Value} {base : Heap}
end
def EmptyAt (H : Hp) (v : V) (_ : Unit) : Prop := ∃ t : Addr, v = .ref t ∧ H t = some (.tup [])
theorem EmptyAt.keep : KeepAt EmptyAt := fun _ _ _ _ h ⟨t, e, q⟩ => ⟨t, e, h _ _ q⟩
def rdUnit {A : Type} (rd : Rdg A) : Rdg (A × Unit) := fun ps i => thenA (rd ps i) fun a j => .ok ((a, ()), j)
theorem unit_fine {A : Type} {rd : Rdg A} (h : FineF rd) : FineF (rdUnit rd) := map_fine h
/-- name ( columns ) -/
def rdHead : Rdg (Str × List (Str × Str)) := fun ps i => thenA (rdThen rdName "(" (rdList (rdTwo ["int", "text"])) ps i) fun x j => thenA (rdWord [")"] ps j) fun _ k => .ok (x, k)
def HeadAt : Hp → V → Str × List (Str × Str) → Prop := PairAt StrAt (ListAt TwoAt)
theorem HeadAt.keep : KeepAt HeadAt := PairAt.keep StrAt.keep (ListAt.keep TwoAt.keep)
section
variable {P : Program} {w : World} {K : PySem.W.Frag} {mg : Str → Option Value} {base : Heap}
end
theorem after_fine {A B C : Type} {rd : Rdg A} {w : Str} {g : A → C} (hw : w ≠ "") (h1 : FineF rd) : FineF (fun ps i => thenA (rd ps i) fun a j => thenA (rdWord [w] ps j) fun _ k => .ok (g a, k)) := fun ps he i hi x j h => by
  cases e1 : rd ps i with
  | error m =>
    dsimp only at h
    rw [e1] at h
    cases h
  | ok t =>
    obtain ⟨a, m⟩ := t
    dsimp only at h
    rw [e1] at h
    obtain ⟨k1, k2⟩ := h1 ps he i hi a m e1
    change thenA (rdWord [w] ps m) _ = _ at h
    cases e2 : rdWord [w] ps m with
    | error m2 =>
      rw [e2] at h
      cases h
    | ok t2 =>
      obtain ⟨b, m2⟩ := t2
      rw [e2] at h
      cases h
      obtain ⟨l1, l2⟩ := word_fine (fun z => hw (List.mem_singleton.mp z).symm) ps he m k2 b j e2
      exact ⟨by omega, l2⟩
theorem head_fine : FineF rdHead := after_fine (C := Str × List (Str × Str)) (g := id) (B := Unit) (by decide +kernel) (then_fine (by decide +kernel) name_fine (list_fine (two_fine (by decide +kernel))))
section
variable {P : Program} {w : World} {K : PySem.W.Frag} {mg : Str → Option Value} {base : Heap}
theorem sc_rhead : FnScope ["line", "name", "columns"] ["line"] (defScope s_read_table_head) := ⟨rfl, rfl, rfl, by decide +kernel, rfl, by decide +kernel, by decide +kernel⟩
theorem ok_rhead {g C CL fr : Addr} {fd : FuncData} (F : Fun K "read_table_head" "read_table_head" s_read_table_head g fd) (Z : LnC K CL) (m_f : mg "read_column" = some (.ref fr)) (G_take : ReadyM P w K mg base CL 3 "take" ["self", "kind"] (spTake C CL)) (G_expect : ReadyM P w K mg base CL 4 "expect" ["self", "word"] (spExpect C CL)) (G_y : ReadyX P w K mg base 6 "read_list" ["line", "read_one"] (spList C CL fr TwoAt (rdTwo ["int", "text"]))) : FnOk P w K mg base (L2.CX P w) 7 g fd ["line"] (spRd C CL HeadAt rdHead) := by
  refine F.okX sc_rhead (fun vs H Q E h => ?_) (fun cdv A outer s H vs Q E hr h => ?_)
  · obtain ⟨p, n, ps, i, rfl, _⟩ := h
    rfl
  obtain ⟨p, n, ps, i, rfl, hl, hi, he, hlen, q, qe⟩ := h
  have nd := sc_rhead.nd
  have hr6 : Room 6 _ := hr
  have hr4 : Room 4 _ := hr.mono (by decide)
  have hr3 : Room 3 _ := hr.mono (by decide)
  have z2 : 2 ≤ sizeLine := by decide
  refine ⟨_, pss_cons (ps_set (i := 1) nd rfl (.inl rfl) (pe_m G_take Z.cls hr3 (onward (takes_of rfl rfl rfl rfl)) (pv 0) (pa_cons pe_str pa_nil)))
      (pss_cons (ps_expr (pe_m G_expect Z.cls hr4 (onward (takes_of rfl rfl rfl rfl)) (pv 0) (pa_cons pe_str pa_nil)))
      (pss_cons (ps_set (i := 2) nd rfl (.inl rfl) (pe_fnX G_y hr6 (takes_of rfl rfl rfl rfl) (pa_cons (pv 0) (pa_cons (pe_glob (v := .ref fr) rfl m_f rfl) pa_nil))))
      (pss_cons (ps_expr (pe_m G_expect Z.cls hr4 (onward (takes_of rfl rfl rfl rfl)) (pv 0) (pa_cons pe_str pa_nil)))
      (pss_one (ps_ret (pe_tup (pa_cons (pv 1) (pa_cons (pv 2) pa_nil)))))))), ?_⟩
  obtain ⟨dx, L, as, h1, _⟩ := id hl
  have eAll : rdHead ps i = thenA (thenA (rdName ps i) fun a j => thenA (rdWord ["("] ps j) fun _ j2 => thenA (rdList (rdTwo ["int", "text"]) ps j2) fun b k => .ok ((a, b), k)) fun x j => thenA (rdWord [")"] ps j) fun _ k => .ok (x, k) := rfl
  refine ⟨_, rfl, p, dx, _, rfl, h1, rfl, p, n, ps, i, _, rfl, hl, hi, fun hk H1 b1 hl1 => ?_, fun hk => ?_⟩
  · have e1 : rdName ps i = .ok (txt (curP ps i).val, i + 1) := if_pos hk
    rw [e1] at eAll
    have hi1 := he.next hi (by rw [hk]; decide +kernel)
    rw [val_name he hi hk]
    obtain ⟨dx1, L1, as1, h1', _⟩ := id hl1
    generalize txt (curP ps i).val = nm at eAll ⊢
    refine ⟨_, rfl, p, dx1, _, rfl, h1', rfl, p, n, ps, i + 1, _, rfl, hl1, hi1, he, fun hw H2 b2 hl2 => ?_, fun hw => ?_⟩
    · have e2 : rdWord ["("] ps (i + 1) = .ok (ownW ps (i + 1), i + 2) := if_pos (by rw [hw]; exact List.mem_cons_self)
      have hi2 := he.next hi1 (own_pos (by rw [hw]; decide +kernel))
      have e3 : rdHead ps i = thenA (thenA (rdList (rdTwo ["int", "text"]) ps (i + 2)) fun b k => .ok ((nm, b), k)) fun x j => thenA (rdWord [")"] ps j) fun _ k => .ok (x, k) := by
        rw [eAll]
        show thenA (thenA (rdWord ["("] ps (i + 1)) _) _ = _
        rw [e2]
        rfl
      refine ⟨_, rfl, p, rfl, p, n, ps, i + 2, rfl, hl2, hi2, he, hlen, fun cs j hrc v H3 b3 hl3 hc => ?_, fun j hrc => (qe j (by rw [e3, hrc]; rfl)).but (b1.trans b2)⟩
      obtain ⟨f1, f2⟩ := list_fine (two_fine (by decide +kernel)) ps he (i + 2) hi2 cs j hrc
      rw [hrc] at e3
      change rdHead ps i = thenA (rdWord [")"] ps j) fun _ k => .ok ((nm, cs), k) at e3
      obtain ⟨dx3, L3, as3, h3, _⟩ := id hl3
      refine ⟨_, rfl, p, dx3, _, rfl, h3, rfl, p, n, ps, j, _, rfl, hl3, f2, he, fun hw2 H4 b4 hl4 => ?_, fun hw2 => ?_⟩
      · have e4 : rdWord [")"] ps j = .ok (ownW ps j, j + 1) := if_pos (by rw [hw2]; exact List.mem_cons_self)
        refine ⟨_, rfl, _, rfl, z2, fun t ht => ?_⟩
        have u := same_upd (o := .tup [.str nm, v]) ht
        exact q (nm, cs) (j + 1) (by rw [e3, e4]; rfl) (.ref t) _ ((((b1.trans b2).trans b3).trans b4).trans (sameL u)) (hl4.keep u) ⟨t, .str nm, v, rfl, upd_same, rfl, ListAt.keep TwoAt.keep _ _ _ _ (fun x ys h => u x _ (b4.b x _ (fun zz => by rw [zz, h3] at h; cases h) h)) hc⟩
      · have e4 : rdWord [")"] ps j = .error j := if_neg (fun z => hw2 (List.mem_singleton.mp z))
        exact (qe j (by rw [e3, e4]; rfl)).at ((b1.trans b2).trans b3)
    · have e2 : rdWord ["("] ps (i + 1) = .error (i + 1) := if_neg (fun z => hw (List.mem_singleton.mp z))
      refine (qe (i + 1) ?_).at b1
      rw [eAll]
      show thenA (thenA (rdWord ["("] ps (i + 1)) _) _ = _
      rw [e2]
      rfl
  · have e1 : rdName ps i = .error i := if_neg hk
    exact (qe i (by rw [eAll, e1]; rfl)).at (ButL.refl _ _)
end
end Kx

namespace Kx
open PySem PySem.Spec PyProof.Rows L2 TL
abbrev s_read_value : Stmt := topS 40
abbrev s_read_row : Stmt := topS 41
/-! ### values -/
inductive Vl where
  | num (i : Int)
  | quo (z : Str)
def vlV : Vl → V
  | .num i => .int i
  | .quo z => .str z
def VlAt (_ : Hp) (v : V) (x : Vl) : Prop := v = vlV x
theorem VlAt.keep : KeepAt VlAt := fun _ _ _ _ _ h => h
def nmv (v : PV) : Int := match v with
  | .nm n => (n : Int)
  | .tx _ => 0
def rdQuo : Rdg Vl := fun ps i => if (curP ps i).kind = "quoted" then .ok (.quo (txt (curP ps i).val), i + 1) else .error i
def rdFig (s : Int) : Rdg Vl := fun ps i => if (curP ps i).kind = "number" then .ok (.num (s * nmv (curP ps i).val), i + 1) else .error i
def rdVal (k : Str) : Rdg Vl := fun ps i => if k = "text" then rdQuo ps i else if ownW ps i = "-" then rdFig (-1) ps (i + 1) else rdFig 1 ps i
theorem quo_fine : FineF rdQuo := fun ps he i hi a j h => by
  unfold rdQuo at h
  by_cases c : (curP ps i).kind = "quoted"
  · rw [if_pos c] at h
    cases h
    exact ⟨Nat.lt_succ_self _, he.next hi (by rw [c]; decide +kernel)⟩
  · rw [if_neg c] at h
    cases h
theorem fig_fine {s : Int} : FineF (rdFig s) := fun ps he i hi a j h => by
  unfold rdFig at h
  by_cases c : (curP ps i).kind = "number"
  · rw [if_pos c] at h
    cases h
    exact ⟨Nat.lt_succ_self _, he.next hi (by rw [c]; decide +kernel)⟩
  · rw [if_neg c] at h
    cases h
theorem val_fine {k : Str} : FineF (rdVal k) := fun ps he i hi a j h => by
  unfold rdVal at h
  by_cases c : k = "text"
  · rw [if_pos c] at h
    exact quo_fine ps he i hi a j h
  · rw [if_neg c] at h
    by_cases d : ownW ps i = "-"
    · rw [if_pos d] at h
      have hi1 := he.next hi (own_pos (by rw [d]; decide +kernel))
      obtain ⟨k1, k2⟩ := fig_fine ps he (i + 1) hi1 a j h
      exact ⟨by omega, k2⟩
    · rw [if_neg d] at h
      exact fig_fine ps he i hi a j h
section
variable {P : Program} {w : World} {K : PySem.W.Frag} {mg : Str → Option Value} {base : Heap}
theorem val_quo {ps : List Pc} (he : EndP ps) {i : Nat} (hi : i < ps.length) (hk : (curP ps i).kind = "quoted") : pvV (curP ps i).val = .str (txt (curP ps i).val) := by
  obtain ⟨z, hv⟩ := (cur_ok he hi (by rw [hk]; decide +kernel)).txt (.inl hk)
  rw [hv]
  rfl
theorem val_fig {ps : List Pc} (he : EndP ps) {i : Nat} (hi : i < ps.length) (hk : (curP ps i).kind = "number") : pvV (curP ps i).val = .int (nmv (curP ps i).val) := by
  obtain ⟨n, hv⟩ := (cur_ok he hi (by rw [hk]; decide +kernel)).num hk
  rw [hv]
  rfl
def spVal (C CL : Addr) (k : Str) : Sp := fun vs H Q E => ∃ (p : Addr) (n : Int) (ps : List Pc) (i : Nat), vs = [.ref p, .str k] ∧ LineAt H CL p n ps i ∧ i < ps.length ∧ EndP ps ∧ ps.length ≤ 10000 ∧
  (∀ a j, rdVal k ps i = .ok (a, j) → ∀ v H', ButL p H H' → LineAt H' CL p n ps j → VlAt H' v a → Q v H') ∧ (∀ j, rdVal k ps i = .error j → BadP C p n ((curP ps j).col : Nat) H E)
theorem sc_rval : FnScope ["line", "kind"] ["line", "kind"] (defScope s_read_value) := ⟨rfl, rfl, rfl, by decide +kernel, rfl, by decide +kernel, by decide +kernel⟩
theorem ok_rval {g C CL : Addr} {fd : FuncData} {k : Str} (F : Fun K "read_value" "read_value" s_read_value g fd) (Z : LnC K CL) (G_took : ReadyM P w K mg base CL 3 "took" ["self", "word"] (spTook CL)) (G_take : ReadyM P w K mg base CL 3 "take" ["self", "kind"] (spTake C CL)) : FnOk P w K mg base (L2.CX P w) 4 g fd ["line", "kind"] (spVal C CL k) := by
  refine F.okX sc_rval (fun vs H Q E h => ?_) (fun cdv A outer s H vs Q E hr h => ?_)
  · obtain ⟨p, n, ps, i, rfl, _⟩ := h
    rfl
  obtain ⟨p, n, ps, i, rfl, hl, hi, he, hlen, q, qe⟩ := h
  have nd := sc_rval.nd
  have hr3 : Room 3 _ := hr
  refine ⟨_, pss_cons (ps_if (pt_cmpR op_eq (pv 1) pe_str (nomark _)) (pss_one (ps_ret (pe_m G_take Z.cls hr3 (onward (takes_of rfl rfl rfl rfl)) (pv 0) (pa_cons pe_str pa_nil)))) (pss_nil))
      (pss_cons (ps_if (pt_val (pe_m G_took Z.cls hr3 noE (pv 0) (pa_cons pe_str pa_nil))) (pss_one (ps_ret (pe_un un_neg (pe_m G_take Z.cls hr3 (onward (takes_of rfl rfl rfl rfl)) (pv 0) (pa_cons pe_str pa_nil))))) (pss_nil))
      (pss_one (ps_ret (pe_m G_take Z.cls hr3 (onward (takes_of rfl rfl rfl rfl)) (pv 0) (pa_cons pe_str pa_nil))))), ?_⟩
  obtain ⟨dx, L, as, h1, _⟩ := id hl
  refine ⟨_, rfl, rfl, _, rfl, ?_⟩
  by_cases c : k = "text"
  · have e : rdVal k ps i = rdQuo ps i := if_pos c
    rw [e] at q qe
    rw [decide_eq_true (congrArg V.str c)]
    exact ⟨_, rfl, p, dx, _, rfl, h1, rfl, p, n, ps, i, _, rfl, hl, hi, fun hk H1 b1 hl1 => q _ _ (if_pos hk) _ H1 b1 hl1 (val_quo he hi hk), fun hk => (qe i (if_neg hk)).at (ButL.refl _ _)⟩
  · rw [decide_eq_false fun z => c (V.str.inj z)]
    refine ⟨_, rfl, p, dx, _, rfl, h1, rfl, p, n, ps, i, _, rfl, hl, hi, he, fun hw H1 b1 hl1 => ?_, fun hw => ?_⟩
    · have e : rdVal k ps i = rdFig (-1) ps (i + 1) := (if_neg c).trans (if_pos hw)
      rw [e] at q qe
      have hi1 := he.next hi (own_pos (by rw [hw]; decide +kernel))
      obtain ⟨dx1, L1, as1, h1', _⟩ := id hl1
      refine ⟨_, rfl, iteT ⟨_, rfl, p, dx1, _, rfl, h1', rfl, p, n, ps, i + 1, _, rfl, hl1, hi1, fun hk H2 b2 hl2 => ?_, fun hk => ((qe (i + 1) (if_neg hk)).but b1).at (ButL.refl _ _)⟩⟩
      rw [val_fig he hi1 hk]
      refine ⟨_, rfl, q (.num (-1 * nmv (curP ps (i + 1)).val)) (i + 2) (if_pos hk) _ H2 (b1.trans b2) hl2 ?_⟩
      show V.int _ = V.int _
      rw [Int.neg_one_mul]
    · have e : rdVal k ps i = rdFig 1 ps i := (if_neg c).trans (if_neg hw)
      rw [e] at q qe
      refine ⟨_, rfl, iteF ⟨_, rfl, p, dx, _, rfl, h1, rfl, p, n, ps, i, _, rfl, hl, hi, fun hk H1 b1 hl1 => q _ _ (if_pos hk) _ H1 b1 hl1 ?_, fun hk => (qe i (if_neg hk)).at (ButL.refl _ _)⟩⟩
      show pvV _ = V.int _
      rw [val_fig he hi hk, Int.one_mul]
end
end Kx

namespace Kx
open PySem PySem.Spec PyProof.Rows L2 TL
/-! ### rows -/
def rdSep (vs : List Vl) : Rdg Unit := fun ps i => if vs.length = 0 then .ok ((), i) else if ownW ps i = "," then .ok ((), i + 1) else .error i
def rdVals : List Str → List Vl → Rdg (List Vl)
  | [], vs => fun _ i => .ok (vs, i)
  | k :: ks, vs => fun ps i => thenA (rdSep vs ps i) fun _ j => thenA (rdVal k ps j) fun v j2 => rdVals ks (vs ++ [v]) ps j2
theorem paired_at {A : Type} {Q : V → A → Prop} : ∀ {xs : List V} {as : List A} {i : Nat} {v : V}, Paired Q xs as → xs[i]? = some v → ∃ a, as[i]? = some a ∧ Q v a
  | [], _, _, _, _, h => by cases h
  | _ :: _, a :: _, 0, _, .cons h1 _, h => by
    cases h
    exact ⟨a, rfl, h1⟩
  | _ :: xs, _ :: as, i + 1, _, .cons _ h2, h => paired_at (xs := xs) (as := as) (i := i) h2 h
section
variable {P : Program} {w : World} {K : PySem.W.Frag} {mg : Str → Option Value} {base : Heap}
abbrev N_read_row : List Str := ["line", "columns", "values", "_", "kind"]
theorem sc_rrow : FnScope N_read_row ["line", "columns"] (defScope s_read_row) := ⟨rfl, rfl, rfl, by decide +kernel, rfl, by decide +kernel, by decide +kernel⟩
def spRow (C CL : Addr) : Sp := fun vs H Q E => ∃ (p : Addr) (c : V) (cs : List (Str × Str)) (n : Int) (ps : List Pc) (i : Nat), vs = [.ref p, c] ∧ ListAt TwoAt H c cs ∧ cs.length ≤ 20000 ∧ LineAt H CL p n ps i ∧ i < ps.length ∧ EndP ps ∧ ps.length ≤ 10000 ∧
  (∀ a j, rdVals (cs.map (·.2)) [] ps i = .ok (a, j) → ∀ (t : Addr) H', ButL p H H' → LineAt H' CL p n ps j → H' t = some (.tup (a.map vlV)) → Q (.ref t) H') ∧ (∀ j, rdVals (cs.map (·.2)) [] ps i = .error j → BadP C p n ((curP ps j).col : Nat) H E)
theorem ok_rrow {g C CL : Addr} {fd : FuncData} (F : Fun K "read_row" "read_row" s_read_row g fd) (Z : LnC K CL) (m_tuple : mg "tuple" = none) (G_expect : ReadyM P w K mg base CL 4 "expect" ["self", "word"] (spExpect C CL)) (G_any : ReadyX P w K mg base 4 "read_value" ["line", "kind"] (fun vs H Q E => ∃ k, spVal C CL k vs H Q E)) : FnOk P w K mg base (L2.CX P w) 5 g fd ["line", "columns"] (spRow C CL) := by
  refine F.okX sc_rrow (fun vs H Q E h => ?_) (fun cdv A outer s H vs Q E hr h => ?_)
  · obtain ⟨p, c, cs, n, ps, i, rfl, _⟩ := h
    rfl
  obtain ⟨p, c, cs, n, ps, i, rfl, ⟨ct, cxs, rfl, hc1, hc2⟩, hcl, hl, hi, he, hlen, q, qe⟩ := h
  have nd := sc_rrow.nd
  have hr4 : Room 4 _ := hr
  refine ⟨_, pss_cons (ps_set (i := 2) nd rfl (.inl rfl) (pe_lst pa_nil))
      (pss_cons (ps_for (passes_of rfl) rfl (pi_tup (pv 1)) (pg_tup rfl (pgs_cons (pg_name (i := 3) nd rfl (.inl rfl)) (pgs_cons (pg_name (i := 4) nd rfl (.inl rfl)) pgs_nil))) (C8.pss_cut (ps_if (pt_truth (pv 2) (fun _ => rfl)) (pss_one (ps_expr (pe_m G_expect Z.cls hr4 (onward (takes_of rfl rfl rfl rfl)) (pv 0) (pa_cons pe_str pa_nil)))) (pss_nil))
      (pss_one (ps_expr (pe_bm PySem.F.plainAttrs_list PySem.F.slot_list_append PySem.F.type_list_append mt_append (pv 2) (pa_cons (pe_fnX G_any hr4 (takes_of rfl rfl rfl rfl) (pa_cons (pv 0) (pa_cons (pv 4) pa_nil))) pa_nil))))))
      (pss_one (ps_ret (pe_callTy call_tuple_of (by rfl) m_tuple PyProof.Rows.boot_tuple (pa_cons (pv 2) pa_nil))))), ?_⟩
  refine ⟨by show 0 ≤ sizeLine; decide, fun L hL => ?_⟩
  have sL := same_upd (o := .lst []) hL
  have hl1 := hl.keep sL
  have eL0 : upd H L (.lst []) L = some (.lst []) := upd_same
  have b0 : ButL p H (upd H L (.lst [])) := sameL sL
  have nLp : L ≠ p := fun z => by
    obtain ⟨dx1, L1, as1, h1, _⟩ := hl
    rw [z, h1] at hL
    cases hL
  have ncp : ct ≠ p := fun z => by
    obtain ⟨dx1, L1, as1, h1, _⟩ := hl
    rw [z, h1] at hc1
    cases hc1
  generalize upd H L (.lst []) = H1 at sL hl1 eL0 b0 ⊢
  refine ⟨_, rfl, ct, rfl, ⟨_, SqT.of (b0.b _ _ ncp hc1)⟩, ?_⟩
  refine for_it (walk_tup (xs := cxs)) (fun m σ G => ∃ (y3 y4 : Option V) (vs : List Vl) (j : Nat), σ = [some (.ref p), some (.ref ct), some (.ref L), y3, y4] ∧ ButL p H G ∧ LineAt G CL p n ps j ∧ j < ps.length ∧ G L = some (.lst (vs.map vlV)) ∧ vs.length = m ∧ rdVals (cs.map (·.2)) [] ps i = rdVals ((cs.map (·.2)).drop m) vs ps j) ⟨none, none, [], i, rfl, b0, hl1, hi, eL0, rfl, rfl⟩ (fun m σ G _ ⟨_, _, _, _, _, b, _⟩ => SqT.of (b.b _ _ ncp hc1)) ?_ ?_
  · rintro m v σ G G' hm ⟨y3, y4, vs, j, rfl, b, hlj, hj, eL, hv, htot⟩ ⟨rfl, hx⟩
    obtain ⟨x, hxm, t, rfl, ht⟩ := paired_at hc2 hx
    have kt : ∀ {G : Hp}, ButL p H G → ∀ (a : Addr) (ys : List V), H a = some (.tup ys) → G a = some (.tup ys) := fun b a ys h => b.b a _ (fun z => by
      obtain ⟨dx1, L1, as1, h1, _⟩ := id hl
      rw [z, h1] at h
      cases h) h
    have hdrop : (cs.map (·.2)).drop m = x.2 :: (cs.map (·.2)).drop (m + 1) := by
      have h2 : (cs.map (·.2))[m]? = some x.2 := by rw [List.getElem?_map, hxm]; rfl
      rw [List.drop_eq_getElem?_toList_append, h2]
      rfl
    rw [hdrop, rdVals] at htot
    change _ = thenA (rdSep vs ps j) (fun _ j => thenA (rdVal x.2 ps j) fun v j2 => rdVals ((cs.map (·.2)).drop (m + 1)) (vs ++ [v]) ps j2) at htot
    obtain ⟨dx1, L1, as1, h1, _⟩ := id hlj
    refine ⟨t, _, rfl, SqT.of (kt b _ _ ht), rfl, _, _, rfl, _, _, rfl, rfl, ?_⟩
    refine ⟨fun σ G2 => ∃ j2, σ = [some (.ref p), some (.ref ct), some (.ref L), some (.str x.1), some (.str x.2)] ∧ ButL p H G2 ∧ LineAt G2 CL p n ps j2 ∧ j2 < ps.length ∧ G2 L = some (.lst (vs.map vlV)) ∧ rdVals (cs.map (·.2)) [] ps i = thenA (rdVal x.2 ps j2) fun v j3 => rdVals ((cs.map (·.2)).drop (m + 1)) (vs ++ [v]) ps j3, ?_, ?_⟩
    · refine ⟨_, rfl, !(vs.map vlV).isEmpty, .inl ⟨_, SqL.of eL, rfl⟩, ?_⟩
      by_cases hz : vs.length = 0
      · have e0 : vs = [] := List.eq_nil_of_length_eq_zero hz
        have es : rdSep vs ps j = .ok ((), j) := if_pos hz
        rw [es] at htot
        rw [e0]
        refine iteF ⟨j, rfl, b, hlj, hj, ?_, ?_⟩
        · rw [eL, e0]
        · rw [htot, e0]
          rfl
      · have e0 : (!(vs.map vlV).isEmpty) = true := by
          cases vs with
          | nil => exact absurd rfl hz
          | cons a r => rfl
        rw [e0]
        refine iteT ⟨_, rfl, p, dx1, _, rfl, h1, rfl, p, n, ps, j, _, rfl, hlj, hj, he, fun hw G2 b2 hl2 => ?_, fun hw => ?_⟩
        · have es : rdSep vs ps j = .ok ((), j + 1) := (if_neg hz).trans (if_pos hw)
          rw [es] at htot
          exact ⟨j + 1, rfl, b.trans b2, hl2, he.next hj (own_pos (by rw [hw]; decide +kernel)), b2.b _ _ nLp eL, htot⟩
        · have es : rdSep vs ps j = .error j := (if_neg hz).trans (if_neg hw)
          rw [es] at htot
          exact ((qe j htot).but b).at (ButL.refl _ _)
    · rintro σ G2 ⟨j2, rfl, b2, hl2, hj2, eL2, htot2⟩
      refine ⟨_, rfl, .inl ⟨rfl, _, SqL.of eL2⟩, _, rfl, _, rfl, x.2, p, n, ps, j2, rfl, hl2, hj2, he, hlen, fun a j3 hra v G3 b3 hl3 hva => ?_, fun j3 hra => ?_⟩
      · rw [hra] at htot2
        change rdVals (cs.map (·.2)) [] ps i = rdVals ((cs.map (·.2)).drop (m + 1)) (vs ++ [a]) ps j3 at htot2
        obtain ⟨m1, m2⟩ := val_fine ps he j2 hj2 a j3 hra
        have eL3 := b3.b _ _ nLp eL2
        rw [show v = vlV a from hva]
        have hlx : vs.length < 20000 := by
          rw [hv]
          have := Paired.length hc2
          omega
        refine ⟨L, _, _, rfl, rfl, eL3, Nat.lt_of_lt_of_le (show (vs.map vlV).length < 20000 by rw [List.length_map]; exact hlx) (by decide), some (.str x.1), some (.str x.2), vs ++ [a], j3, rfl, (b2.trans b3).put hL, hl.put (b2.trans b3) hl3 hL, m2, ?_, by rw [List.length_append, hv]; rfl, htot2⟩
        rw [List.map_append]
        exact upd_same
      · rw [hra] at htot2
        exact (qe j3 htot2).but b2
  · rintro σ G ⟨y3, y4, vs, j, rfl, b, hlj, hj, eL, hv, htot⟩
    rw [List.drop_eq_nil_of_le (by rw [List.length_map, ← Paired.length hc2]; exact Nat.le_refl _)] at htot
    refine ⟨_, rfl, L, _, rfl, .inl ⟨SqL.of eL, fun t ht => ?_⟩⟩
    have u := same_upd (o := .tup (vs.map vlV)) ht
    exact q vs j htot t _ (b.trans (sameL u)) (hlj.keep u) upd_same
end
end Kx

namespace Kx
open PySem PySem.Spec PyProof.Rows L2 TL
abbrev s_table_by : Stmt := topS 42
structure ReadyC (P : Program) (w : World) (K : PySem.W.Frag) (mg : Str → Option Value) (base : Heap) (CL : Addr) (k : Nat) (x : Str) (ps : List Str) (sp : Sp) : Prop where
  ex : ∃ f fd, mg x = some (.ref CL) ∧ Mk K CL f ∧ FnOk P w K mg base (L2.CX P w) k f fd ps sp ∧ Binds K fd ps []
theorem pe_mk {X : Cx} {E : XK} {CL : Addr} {k : Nat} {x : Str} {ps : List Str} {sp : Sp} {p pos : Pos} {e : Expr} {es : List Expr} {t : TA} (G : ReadyC X.prog X.w X.K X.mg X.base CL k x ps sp) (hr : Room (k + 1) X.A) (hx : Passes (L2.CX X.prog X.w) X E) (ha : PA X (e :: es) t) (hg : Gl X x := by rfl)
    (hdb : (x == ("__debug__" : Str)) = false := by decide) (he : starEach (e :: es) X.env = (false, eval e X.env) :: starEach es X.env := by rfl) (hpl : (backTo pos (starEach es X.env)).any (·.1) = false := by rfl) :
    PE X (.Call (.Name x p) (e :: es) [] pos) (tMake CL sp [] E t) := by
  obtain ⟨f, fd, hm, M, F, hb⟩ := G.ex
  exact pe_make M F hr hg hm hb .nil hx ha hdb he hpl
theorem pcs_len {all : Nat} : ∀ (f at_ many : Nat) (l : List Nat) (ps : List Pc), pcs all f at_ many l = .ok ps → ps.length ≤ l.length + 1
  | 0, at_, many, l, ps, h => by
    rw [pcs] at h
    cases h
    simp
  | f + 1, at_, many, [], ps, h => by
    rw [pcs] at h
    cases h
    simp
  | f + 1, at_, many, c :: r, ps, h => by
    by_cases h35 : c = 35
    · rw [pcs, if_pos h35] at h
      cases h
      simp
    · by_cases h32 : c = 32
      · rw [pcs, if_neg h35, if_pos h32] at h
        have := pcs_len f _ _ r ps h
        rw [List.length_cons]
        omega
      · rw [pcs_take (c := c) rfl h35 h32] at h
        cases hp : pcAt (c :: r) with
        | none =>
          rw [hp] at h
          cases h
        | some t =>
          obtain ⟨k, v, n⟩ := t
          rw [hp] at h
          dsimp only at h
          generalize (if isBr k v = true then many else many + 1) = mm at h
          by_cases h300 : 300 < mm
          · rw [if_pos h300] at h
            cases h
          · rw [if_neg h300] at h
            cases hr : pcs all f (at_ + n) mm ((c :: r).drop n) with
            | error e =>
              rw [hr] at h
              cases h
            | ok qs =>
              rw [hr] at h
              cases h
              have hn := (pcAt_pos hp).1
              have := pcs_len f _ _ _ qs hr
              rw [List.length_drop, List.length_cons] at this
              rw [List.length_cons, List.length_cons]
              omega
theorem pieces_len {z : Str} {ps : List Pc} (h : piecesOf z = .ok ps) : ps.length ≤ z.length + 1 := by
  have := pcs_len _ _ _ _ ps h
  rw [← len_tl] at this
  exact this
theorem EndP.pos {ps : List Pc} (h : EndP ps) : 0 < ps.length := by
  obtain ⟨qs, c, rfl, _⟩ := h
  rw [List.length_append]
  exact Nat.lt_of_lt_of_le Nat.zero_lt_one (Nat.le_add_left _ _)

/-! ### tables -/
abbrev HeadV : Type := Str × List (Str × Str)
abbrev TSt : Type := Option HeadV × List (List Vl)
def rdTTold (st : TSt) (ps : List Pc) : Except Nat (TSt × Nat) := if (curP ps 0).kind = "end" then .ok (st, 0) else match st.1 with
  | none => thenA (rdHead ps 0) fun h j => .ok ((some h, st.2), j)
  | some h => thenA (rdVals (h.2.map (·.2)) [] ps 0) fun vs j => .ok ((some h, st.2 ++ [vs]), j)
def toEndT (ps : List Pc) (r : Except Nat (TSt × Nat)) : Except Nat TSt := match r with
  | .error j => .error (curP ps j).col
  | .ok (st, j) => if (curP ps j).kind = "end" then .ok st else .error (curP ps j).col
def rdTRow (st : TSt) (z : Str) : Except Nat TSt := match piecesOf z with
  | .error c => .error c
  | .ok ps => toEndT ps (rdTTold st ps)
def rdTRows : List Str → TSt → Nat → Except (Nat × Nat) TSt
  | [], st, _ => .ok st
  | z :: r, st, n => match rdTRow st z with
    | .error c => .error (n, c)
    | .ok st' => rdTRows r st' (n + 1)
def rdTable (z : Str) : Except (Nat × Nat) (HeadV × List (List Vl)) := match rdTRows (linesOf z) (none, []) 1 with
  | .error e => .error e
  | .ok (none, _) => .error (1, 1)
  | .ok (some h, rows) => .ok (h, rows)
def RowAt (H : Hp) (v : V) (a : List Vl) : Prop := ∃ t : Addr, v = .ref t ∧ H t = some (.tup (a.map vlV))
theorem RowAt.keep : KeepAt RowAt := fun _ _ _ _ h ⟨t, e, q⟩ => ⟨t, e, h _ _ q⟩
def TabAt (H : Hp) (v : V) (x : HeadV × List (List Vl)) : Prop := ∃ (t rl : Addr) (cv : V) (vs : List V), v = .ref t ∧ H t = some (.tup [.str x.1.1, cv, .ref rl]) ∧ ListAt TwoAt H cv x.1.2 ∧ H rl = some (.lst vs) ∧ Paired (RowAt H) vs x.2
theorem items_len {A : Type} {rd : Rdg A} {ps : List Pc} : ∀ (g : Nat) (as : List A) (i : Nat) (bs : List A) (j : Nat), rdItems rd ps g as i = .ok (bs, j) → bs.length ≤ as.length + g
  | 0, as, i, bs, j, h => by
    rw [rdItems] at h
    cases h
    exact Nat.le_refl _
  | g + 1, as, i, bs, j, h => by
    rw [rdItems] at h
    by_cases c : ownW ps i = ","
    · rw [if_pos c] at h
      cases e : rd ps (i + 1) with
      | error m => rw [e] at h; cases h
      | ok x =>
        rw [e] at h
        have := items_len g (as ++ [x.1]) x.2 bs j h
        rw [List.length_append] at this
        simp only [List.length_singleton] at this
        omega
    · rw [if_neg c] at h
      cases h
      omega
theorem thenA_ok {A B : Type} {r : Except Nat (A × Nat)} {k : A → Nat → Except Nat (B × Nat)} {x : B × Nat} (h : thenA r k = .ok x) : ∃ a i, r = .ok (a, i) ∧ k a i = .ok x := by
  cases r with
  | error m => cases h
  | ok y => exact ⟨y.1, y.2, rfl, h⟩
theorem list_len {A : Type} {rd : Rdg A} {ps : List Pc} {i : Nat} {bs : List A} {j : Nat} (h : rdList rd ps i = .ok (bs, j)) : bs.length ≤ ps.length + 1 := by
  obtain ⟨a, m, _, h2⟩ := thenA_ok h
  have := items_len _ _ _ _ _ h2
  simp only [List.length_singleton] at this
  omega
theorem head_len {ps : List Pc} {i : Nat} {h : HeadV} {j : Nat} (e : rdHead ps i = .ok (h, j)) : h.2.length ≤ ps.length + 1 := by
  obtain ⟨x, m, h1, h2⟩ := thenA_ok e
  obtain ⟨_, m2, _, h3⟩ := thenA_ok h2
  cases h3
  obtain ⟨a, m3, _, h4⟩ := thenA_ok h1
  obtain ⟨_, m4, _, h5⟩ := thenA_ok h4
  obtain ⟨b, m5, h6, h7⟩ := thenA_ok h5
  cases h7
  exact list_len h6
section
variable {P : Program} {w : World} {K : PySem.W.Frag} {mg : Str → Option Value} {base : Heap}
end
end Kx

namespace Kx
open PySem PySem.Spec PyProof.Rows L2 TL
theorem vals_lt {ps : List Pc} (he : EndP ps) : ∀ {ks : List Str} {vs : List Vl} {i : Nat} {a : List Vl} {j : Nat}, i < ps.length → rdVals ks vs ps i = .ok (a, j) → j < ps.length
  | [], vs, i, a, j, hi, h => by
    rw [rdVals] at h
    cases h
    exact hi
  | k :: ks, vs, i, a, j, hi, h => by
    rw [rdVals] at h
    obtain ⟨_, m, h1, h2⟩ := thenA_ok h
    have hm : m < ps.length := by
      unfold rdSep at h1
      by_cases c : vs.length = 0
      · rw [if_pos c] at h1
        cases h1
        exact hi
      · rw [if_neg c] at h1
        by_cases d : ownW ps i = ","
        · rw [if_pos d] at h1
          cases h1
          exact he.next hi (own_pos (by rw [d]; decide +kernel))
        · rw [if_neg d] at h1
          cases h1
    obtain ⟨v, m2, h3, h4⟩ := thenA_ok h2
    exact vals_lt he (val_fine ps he m hm v m2 h3).2 h4
theorem ifT_ {c : Bool} {A B : Prop} (h : c = true) (a : A) : if c = true then A else B := by
  rw [if_pos h]
  exact a
theorem ifF_ {c : Bool} {A B : Prop} (h : c = false) (b : B) : if c = true then A else B := by
  rw [h]
  exact b
def HvAt (G : Hp) (v : V) : Option HeadV → Prop
  | none => v = .non
  | some h => HeadAt G v h ∧ h.2.length ≤ 20000
theorem HvAt.keep {G G' : Hp} {v : V} (s : Same G G') : ∀ {o : Option HeadV}, HvAt G v o → HvAt G' v o
  | none, h => h
  | some _, h => ⟨HeadAt.keep _ _ _ _ (fun t xs e => s t _ e) h.1, h.2⟩
section
variable {P : Program} {w : World} {K : PySem.W.Frag} {mg : Str → Option Value} {base : Heap}
def spTabBy (C : Addr) : Sp := fun vs H Q E => ((vs = [.non] ∨ ∃ i : Int, vs = [.int i]) ∧ BadAt C 0 0 H E) ∨ ∃ z : Str, vs = [.str z] ∧ z.length ≤ 99999 ∧ (∀ y ∈ linesOf z, y.length ≤ 9999) ∧
  (∀ x, rdTable z = .ok x → ∀ v H', Same H H' → TabAt H' v x → Q v H') ∧ (∀ n c, rdTable z = .error (n, c) → BadAt C (n : Nat) (c : Nat) H E)
abbrev N_tab : List Str := ["text", "head", "rows", "at", "told", "line"]
theorem sc_tab : FnScope N_tab ["text"] (defScope s_table_by) := ⟨rfl, rfl, rfl, by decide +kernel, rfl, by decide +kernel, by decide +kernel⟩
theorem ok_tab {g C CL fI : Addr} {fd : FuncData} (F : Fun K "table_by" "table_by" s_table_by g fd) (T : PySem.BadY.BadTxt K mg C fI) (Z : LnC K CL) (m_isinstance : mg "isinstance" = none) (m_str : mg "str" = none) (m_enumerate : mg "enumerate" = none) (G_line : ReadyC P w K mg base CL 5 "Line" ["self", "text", "number"] (spInit C CL)) (G_is_kind : ReadyM P w K mg base CL 1 "is_kind" ["self", "kind"] (spIsKind CL)) (G_expend : ReadyM P w K mg base CL 3 "expect_end" ["self"] (spExpEnd C CL)) (G_head : ReadyX P w K mg base 7 "read_table_head" ["line"] (spRd C CL HeadAt rdHead)) (G_row : ReadyX P w K mg base 5 "read_row" ["line", "columns"] (spRow C CL)) : FnOk P w K mg base (L2.CX P w) 8 g fd ["text"] (spTabBy C) := by
  refine F.okX sc_tab (fun vs H Q E h => ?_) (fun cdv A outer s H vs Q E hr h => ?_)
  · rcases h with ⟨rfl | ⟨i, rfl⟩, _⟩ | ⟨z, rfl, _⟩ <;> rfl
  have nd := sc_tab.nd
  have hr7 : Room 7 _ := hr
  have hr6 : Room 6 _ := hr.mono (by decide)
  have hr5 : Room 5 _ := hr.mono (by decide)
  have hr3 : Room 3 _ := hr.mono (by decide)
  have hr1 : Room 1 _ := hr.mono (by decide)
  refine ⟨_, pss_cons (ps_if (pt_not (pt_val (pe_callB call_isi (by rfl) m_isinstance PyProof.Rows.boot_isinstance (pa_cons (pv 0) (pa_cons (pe_bltn (v := .ty "str") (by rfl) m_str PyProof.Rows.boot_str rfl) pa_nil))))) (pss_one (ps_raiseBad2 rfl T hr5 (takes_of rfl rfl rfl rfl) (pa_cons pe_int (pa_cons pe_int pa_nil)))) pss_nil)
      (pss_cons (ps_set (i := 1) nd rfl (.inl rfl) pe_non)
      (pss_cons (ps_set (i := 2) nd rfl (.inl rfl) (pe_lst pa_nil))
      (pss_cons (ps_for (passes_of rfl) rfl (pi_enum (by rfl) m_enumerate (pa_cons (pe_split (pv 0) pe_str) pa_nil)) (pg_tup rfl (pgs_cons (pg_name (i := 3) nd rfl (.inl rfl)) (pgs_cons (pg_name (i := 4) nd rfl (.inl rfl)) pgs_nil))) (pss_cons (ps_set (i := 5) nd rfl (.inl rfl) (pe_mk G_line hr6 (onward (takes_of rfl rfl rfl rfl)) (pa_cons (pv 4) (pa_cons (pe_op op_add (pv 3) pe_int) pa_nil))))
      (pss_one (ps_if (pt_not (pt_val (pe_m G_is_kind Z.cls hr1 noE (pv 5) (pa_cons pe_str pa_nil)))) (C8.pss_cut (ps_if (pt_cmpR op_isN (pv 1) pe_non (nomark _)) (pss_one (ps_set (i := 1) nd rfl (.inl rfl) (pe_fnX G_head hr7 (takes_of rfl rfl rfl rfl) (pa_cons (pv 5) pa_nil)))) (pss_one (ps_expr (pe_bm PySem.F.plainAttrs_list PySem.F.slot_list_append PySem.F.type_list_append mt_append (pv 2) (pa_cons (pe_fnX G_row hr5 (takes_of rfl rfl rfl rfl) (pa_cons (pv 5) (pa_cons (pe_ix ix_tup (pv 1) pe_int (fun _ _ => rfl)) pa_nil))) pa_nil)))))
      (pss_one (ps_expr (pe_m0' G_expend Z.cls hr3 (onward (takes_of rfl rfl rfl rfl)) (pv 5))))) (pss_nil)))))
      (pss_cons (ps_if (pt_cmpR op_isN (pv 1) pe_non (nomark _)) (pss_one (ps_raiseBad2 rfl T hr5 (takes_of rfl rfl rfl rfl) (pa_cons pe_int (pa_cons pe_int pa_nil)))) (pss_nil))
      (pss_one (ps_ret (pe_tup (pa_cons (pe_ix ix_tup (pv 1) pe_int (fun _ _ => rfl)) (pa_cons (pe_ix ix_tup (pv 1) pe_int (fun _ _ => rfl)) (pa_cons (pv 2) pa_nil)))))))))), ?_⟩
  rcases h with ⟨rfl | ⟨i, rfl⟩, qe⟩ | ⟨z, rfl, hz, hy, q, qe⟩
  · exact ⟨_, rfl, _, _, _, _, false, rfl, .ty _, .base .non, kit_ty (by decide +kernel : kitB "NoneType" "str" = some false), _, rfl, iteT ⟨_, _, rfl, fun d hd => qe _ d (Same.refl _) hd⟩⟩
  · exact ⟨_, rfl, _, _, _, _, false, rfl, .ty _, .base (.int i), kit_ty (by decide +kernel : kitB "int" "str" = some false), _, rfl, iteT ⟨_, _, rfl, fun d hd => qe _ d (Same.refl _) hd⟩⟩
  refine ⟨_, rfl, _, _, _, _, true, rfl, .ty _, .base (.str z), kit_ty (by decide +kernel : kitB "str" "str" = some true), _, rfl, iteF ?_⟩
  refine ⟨by show 0 ≤ sizeLine; decide, fun S hS => ?_⟩
  have s1 := same_upd (o := .lst []) hS
  have eS1 : upd H S (.lst []) S = some (.lst []) := upd_same
  generalize upd H S (.lst []) = H1 at s1 eS1 ⊢
  refine ⟨_, rfl, ⟨_, rfl⟩, _, _, rfl, rfl, (by decide +kernel), Nat.le_trans (show z.length + 2 ≤ 100001 by omega) (by decide), fun R hR => ?_⟩
  rw [split_lines]
  have s2 := s1.trans (same_upd (o := .lst ((linesOf z).map V.str)) hR)
  have eR2 : upd H1 R (.lst ((linesOf z).map V.str)) R = some (.lst ((linesOf z).map V.str)) := upd_same
  have nRS : R ≠ S := fun zz => by rw [zz, eS1] at hR; cases hR
  have eS2 : upd H1 R (.lst ((linesOf z).map V.str)) S = some (.lst []) := by rw [upd_ne nRS.symm]; exact eS1
  generalize upd H1 R (.lst ((linesOf z).map V.str)) = H2 at s2 eS2 eR2 ⊢
  have hsum := lines_sum z
  have eJ : rdTable z = match rdTRows (linesOf z) (none, []) 1 with
    | .error e => .error e
    | .ok (none, _) => .error (1, 1)
    | .ok (some h, rows) => .ok (h, rows) := rfl
  generalize rdTable z = rj at eJ q qe
  generalize linesOf z = ls at *
  refine ⟨R, _, rfl, SqL.of eR2, ?_⟩
  refine for_it walk_enum (fun i σ G => ∃ (y3 y4 y5 : Option V) (hv : V) (st : TSt) (vs : List V), σ = [some (.str z), some hv, some (.ref S), y3, y4, y5] ∧ Same H G ∧ G R = some (.lst (ls.map V.str)) ∧ G S = some (.lst vs) ∧ Paired (RowAt G) vs st.2 ∧ st.2.length ≤ i ∧ HvAt G hv st.1 ∧ rdTRows ls (none, []) 1 = rdTRows (ls.drop i) st (i + 1))
    ⟨none, none, none, _, (none, []), [], rfl, s2, eR2, eS2, .nil, Nat.le_refl _, rfl, rfl⟩ (fun i σ G _ h => by
      obtain ⟨_, _, _, _, _, _, _, _, e, _⟩ := h
      exact SqL.of e) ?_ ?_
  · rintro i v σ G G1 hi ⟨y3, y4, y5, hv, st, vs, rfl, sm, eR, eS, hp, hlen, hhv, htot⟩ ⟨T', x', y, rfl, nT, rfl, ex, ey⟩
    cases ex
    replace ey : (ls.map V.str)[i]? = some y := ey
    rw [List.getElem?_map] at ey
    obtain ⟨u, eu, rfl⟩ := Option.map_eq_some_iff.mp ey
    have hu := List.mem_of_getElem? eu
    have hil : i < ls.length := (List.getElem?_eq_some_iff.mp eu).1
    have edrop : ls.drop i = u :: ls.drop (i + 1) := by
      rw [List.drop_eq_getElem_cons hil]
      rw [List.getElem?_eq_getElem hil] at eu
      rw [Option.some.inj eu]
    rw [edrop, rdTRows] at htot
    have herr : ∀ c, rdTRow st u = .error c → BadAt C ((i : Int) + 1) (c : Nat) H E := fun c hc => by
      rw [hc] at htot
      dsimp only at htot
      rw [htot] at eJ
      exact qe (i + 1) c eJ
    have hnext : ∀ st', rdTRow st u = .ok st' → rdTRows ls (none, []) 1 = rdTRows (ls.drop (i + 1)) st' (i + 1 + 1) := fun st' hc => by
      rw [hc] at htot
      exact htot
    have s3 := same_upd (o := .tup [.int (i : Nat), .str u]) nT
    have eT : upd G T' (.tup [.int (i : Nat), .str u]) T' = some (.tup [.int (i : Nat), .str u]) := upd_same
    generalize upd G T' (.tup [.int (i : Nat), .str u]) = G1 at s3 eT ⊢
    refine ⟨T', _, rfl, SqT.of eT, rfl, _, _, rfl, _, _, rfl, rfl, _, rfl, _, rfl, _, _, rfl, rfl, fun p dx hpn hdn ne => ?_⟩
    have s4 := same_upd (o := .own p) hdn
    have hpn2 : upd G1 dx (.own p) p = none := by rw [upd_ne ne.symm]; exact hpn
    have s5 := s4.trans (same_upd (o := .ins CL dx []) hpn2)
    have gp : G p = none := same_none s3 hpn
    refine ⟨p, dx, u, (i : Int) + 1, rfl, upd_same, Nat.le_trans (hy u hu) (by decide), fun ps hps G2 b2 hl2 hnew => ⟨rfl, ?_⟩, fun c hc G2 d b2 nd' => ?_⟩
    · have S12 : Same G G2 := fun a o e => b2 a o (fun zz => by rw [zz, gp] at e; cases e) (s5 _ _ (s3 _ _ e))
      obtain ⟨dxn, Ln, jn, hpn3, hLn⟩ := hnew
      have nLS : Ln ≠ S := fun zz => by
        rw [zz, s5 _ _ (s3 _ _ eS)] at hLn
        cases hLn
      have he := pieces_end hps
      have hps0 := he.pos
      have hpl : ps.length ≤ 10000 := Nat.le_trans (pieces_len hps) (by have := hy u hu; omega)
      have up : ∀ {G' : Hp}, ButL p G2 G' → Same G G' := fun b a o e => b.b a o (fun zz => by rw [zz, gp] at e; cases e) (S12 a o e)
      have eRow : rdTRow st u = toEndT ps (rdTTold st ps) := by
        unfold rdTRow
        rw [hps]
      have keepP : ∀ {G' : Hp}, Same G G' → Paired (RowAt G') vs st.2 := fun s => Paired.mapP hp fun a b h => RowAt.keep _ _ _ _ (fun t xs e => s t _ e) h
      clear eT
      obtain ⟨dx2, L2', as2, h2, _⟩ := id hl2
      obtain ⟨hd, rows⟩ := st
      dsimp only at hp hlen keepP eRow hhv
      refine ⟨_, rfl, p, dx2, _, rfl, h2, rfl, p, _, ps, 0, _, rfl, hl2, hps0, _, rfl, ?_⟩
      by_cases hk : (curP ps 0).kind = "end"
      · have eTold : rdTTold (hd, rows) ps = .ok ((hd, rows), 0) := if_pos hk
        rw [eTold] at eRow
        rw [decide_eq_true hk]
        exact iteF ⟨_, _, _, hv, (hd, rows), vs, rfl, sm.trans S12, S12 _ _ eR, S12 _ _ eS, keepP S12, Nat.le_succ_of_le hlen, hhv.keep S12, hnext _ (eRow.trans (if_pos hk))⟩
      · rw [decide_eq_false hk]
        refine iteT ⟨fun σ G3 => ∃ (hv' : V) (st' : TSt) (vs' : List V) (j : Nat), σ = [some (.str z), some hv', some (.ref S), some (.int ((i : Nat) : Int)), some (.str u), some (.ref p)] ∧ Same H G3 ∧ G3 R = some (.lst (ls.map V.str)) ∧ G3 S = some (.lst vs') ∧ Paired (RowAt G3) vs' st'.2 ∧ st'.2.length ≤ i + 1 ∧ HvAt G3 hv' st'.1 ∧ LineAt G3 CL p ((i : Int) + 1) ps j ∧ j < ps.length ∧ rdTTold (hd, rows) ps = .ok (st', j), ?_, ?_⟩
        · cases hd with
          | none =>
            have hvn : hv = .non := hhv
            subst hvn
            have eTold : rdTTold (none, rows) ps = thenA (rdHead ps 0) fun h j => .ok ((some h, rows), j) := if_neg hk
            refine ⟨_, rfl, rfl, _, rfl, Kx.ifT_ (decide_eq_true rfl) ⟨_, rfl, p, _, ps, 0, rfl, hl2, hps0, he, hpl, fun h j hrh v3 G3 b3 hl3 hh => ?_, fun j hrh => ?_⟩⟩
            · rw [hrh] at eTold
              have S13 := up b3
              obtain ⟨_, hj⟩ := head_fine ps he 0 hps0 h j hrh
              exact ⟨v3, (some h, rows), vs, j, rfl, sm.trans S13, S13 _ _ eR, S13 _ _ eS, keepP S13, Nat.le_succ_of_le hlen, ⟨hh, by have := head_len hrh; omega⟩, hl3, hj, eTold⟩
            · rw [hrh] at eTold
              rw [eTold] at eRow
              exact fun G' d b nd' => herr _ eRow G' d (sm.trans (up b)) nd'
          | some h =>
            have hhv2 := hhv.keep S12
            obtain ⟨⟨ht, ha, hb, rfl, q1, q2, q3⟩, q4⟩ := hhv2
            have eTold : rdTTold (some h, rows) ps = thenA (rdVals (h.2.map (·.2)) [] ps 0) fun vs j => .ok ((some h, rows ++ [vs]), j) := if_neg hk
            refine ⟨_, rfl, rfl, _, rfl, ifF_ (decide_eq_false fun zz => by cases zz) ⟨_, rfl, .inl ⟨rfl, _, SqL.of (S12 _ _ eS)⟩, _, rfl, _, rfl, ht, _, 1, _, rfl, rfl, SqT.of q1, rfl, p, hb, h.2, _, ps, 0, rfl, q3, q4, hl2, hps0, he, hpl, fun a j hra t G3 b3 hl3 ht3 => ?_, fun j hra => ?_⟩⟩
            · rw [hra] at eTold
              have S13 := up b3
              have hj := vals_lt he hps0 hra
              have eS3 := S13 _ _ eS
              have lv : vs.length = rows.length := Paired.length hp
              refine ⟨S, _, _, rfl, rfl, eS3, Nat.lt_of_le_of_lt (show _ ≤ 100001 by have := hlen; omega) (by decide), ?_⟩
              have kt : ∀ (a : Addr) (ys : List V), G3 a = some (.tup ys) → upd G3 S (.lst (vs ++ [.ref t])) a = some (.tup ys) := fun a ys h => by
                rw [upd_ne (fun zz => by rw [zz, eS3] at h; cases h)]
                exact h
              have hl4 : LineAt (upd G3 S (.lst (vs ++ [.ref t]))) CL p ((i : Int) + 1) ps j := by
                obtain ⟨dq, Lq, aq, w1, w2, w3, w4⟩ := hl3
                obtain ⟨i2, w5⟩ := b3.f _ _ _ _ _ hpn3
                have eL : Lq = Ln := by
                  rw [w1] at w5
                  injection w5 with w5
                  injection w5 with _ _ w6
                  have h0 := congrArg (List.lookup ("pieces" : Str)) w6
                  rw [lk2, lk2] at h0
                  injection h0 with h0
                  injection h0
                refine ⟨dq, Lq, aq, ?_, ?_, fun x hx => ?_, w4⟩
                · rw [upd_ne (fun zz => by rw [zz, eS3] at w1; cases w1)]
                  exact w1
                · rw [upd_ne (by rw [eL]; exact nLS)]
                  exact w2
                · exact kt _ _ (w3 x hx)
              have sm4 : Same H (upd G3 S (.lst (vs ++ [.ref t]))) := fun a o e => by
                rw [upd_ne (fun zz => by rw [zz, hS] at e; cases e)]
                exact (sm.trans S13) _ _ e
              have eR4 : upd G3 S (.lst (vs ++ [.ref t])) R = some (.lst (ls.map V.str)) := by
                rw [upd_ne nRS]
                exact S13 _ _ eR
              have hv4 : HvAt (upd G3 S (.lst (vs ++ [.ref t]))) (.ref ht) (some h) := by
                have e1 : HeadAt G2 (.ref ht) h := ⟨ht, ha, hb, rfl, q1, q2, q3⟩
                have kp : ∀ (a : Addr) (ys : List V), G2 a = some (.tup ys) → G3 a = some (.tup ys) := fun a ys h => b3.b a _ (fun zz => by rw [zz, hpn3] at h; cases h) h
                exact ⟨HeadAt.keep _ _ _ _ (fun a ys h => kt a ys (kp a ys h)) e1, q4⟩
              exact ⟨.ref ht, (some h, rows ++ [a]), vs ++ [.ref t], j, rfl, sm4, eR4, upd_same, Paired.snoc (Paired.mapP (keepP S13) fun a b h => RowAt.keep _ _ _ _ kt h) ⟨t, rfl, kt _ _ ht3⟩, by rw [List.length_append]; exact Nat.succ_le_succ hlen, hv4, hl4, hj, eTold⟩
            · rw [hra] at eTold
              rw [eTold] at eRow
              exact fun G' d b nd' => herr _ eRow G' d (sm.trans (up b)) nd'
        · rintro σ G3 ⟨hv', st', vs', j, rfl, sm3, eR3, eS3, hp3, hlen3, hhv3, hl3, hj3, eTold⟩
          rw [eTold] at eRow
          obtain ⟨dx3, L3, as3, h3, _⟩ := id hl3
          refine ⟨_, rfl, p, dx3, _, rfl, h3, rfl, p, _, ps, j, rfl, hl3, hj3, fun hk2 => ?_, fun hk2 => ?_⟩
          · exact ⟨_, _, _, hv', st', vs', rfl, sm3, eR3, eS3, hp3, hlen3, hhv3, hnext _ (eRow.trans (if_pos hk2))⟩
          · exact (herr _ (eRow.trans (if_neg hk2))).same sm3
    · have eRow : rdTRow st u = .error c := by
        unfold rdTRow
        rw [hc]
      exact herr _ eRow G2 d (fun a o e => b2 a o (fun zz => by rw [zz, same_none sm gp] at e; cases e) (s5 _ _ (s3 _ _ (sm _ _ e)))) nd'
  · rintro σ G ⟨y3, y4, y5, hv, ⟨hd, rows⟩, vs, rfl, sm, eR, eS, hp, hlen, hhv, htot⟩
    rw [List.length_map, List.drop_length, rdTRows] at htot
    rw [htot] at eJ
    refine ⟨_, rfl, rfl, _, rfl, ?_⟩
    cases hd with
    | none =>
      have hvn : hv = .non := hhv
      subst hvn
      exact ifT_ (decide_eq_true rfl) ⟨_, _, rfl, fun d nd' => (qe 1 1 eJ).same sm G d (Same.refl _) nd'⟩
    | some h =>
      obtain ⟨⟨ht, ha, hb, rfl, q1, q2, q3⟩, q4⟩ := hhv
      refine ifF_ (decide_eq_false fun zz => by cases zz) ⟨_, rfl, ht, _, 0, _, rfl, rfl, SqT.of q1, rfl, _, rfl, ht, _, 1, _, rfl, rfl, SqT.of q1, rfl, _, rfl, by show 3 ≤ sizeLine; decide, fun t nt => ?_⟩
      have u := same_upd (o := .tup [ha, hb, .ref S]) nt
      have e2 : ha = .str h.1 := q2
      refine q (h, rows) eJ _ _ (sm.trans u) ⟨t, S, hb, vs, rfl, by rw [← e2]; exact upd_same, ListAt.keep TwoAt.keep _ _ _ _ (fun a ys e => u a _ e) q3, u _ _ eS, Paired.mapP hp fun a b h => RowAt.keep _ _ _ _ (fun t xs e => u t _ e) h⟩
end
end Kx

namespace Kx
open PySem PySem.Spec PyProof.Rows L2 TL
abbrev s_value_text : Stmt := topS 37
abbrev s_row_text : Stmt := topS 38
/-! ### rows as texts -/
def numZ (i : Int) : Str := Str.ofString (toString i)
def vlT : Vl → Str
  | .num i => numZ i
  | .quo z => "\"" ++ z ++ "\""
def VlW : Vl → Prop
  | .num i => i.natAbs < 2 ^ 64
  | .quo z => z.length ≤ 100
def rowT (vs : List Vl) : Str := Txt.join ", " (vs.map vlT)
theorem log_small {i : Int} (h : i.natAbs < 2 ^ 64) : i.natAbs.log2 < 1920 := by
  by_cases h0 : i.natAbs = 0
  · rw [h0]
    decide
  · refine Nat.lt_trans ((Nat.log2_lt h0).mpr h) (by decide)
section
variable {P : Program} {w : World} {K : PySem.W.Frag} {mg : Str → Option Value} {base : Heap}
def spVlT : Sp := fun vs H Q _ => ∃ x : Vl, vs = [vlV x] ∧ VlW x ∧ Q (.str (vlT x)) H
theorem sc_vlt : FnScope ["value"] ["value"] (defScope s_value_text) := ⟨rfl, rfl, rfl, by decide +kernel, rfl, by decide +kernel, by decide +kernel⟩
theorem ok_vlt {f : Addr} {fd : FuncData} (F : Fun K "value_text" "value_text" s_value_text f fd) (m_isinstance : mg "isinstance" = none) (m_str : mg "str" = none) : FnOk P w K mg base CX0 1 f fd ["value"] spVlT := by
  refine F.ok sc_vlt (fun vs H Q E h => ?_) (fun cdv A outer s H vs Q E hr h => ?_)
  · obtain ⟨x, rfl, _⟩ := h
    rfl
  obtain ⟨x, rfl, hx, q⟩ := h
  have call_both : ∀ {X : Cx}, CallR X (.type "str") (fun xs H Q => (∃ i, xs = [.int i] ∧ i.natAbs.log2 < 1920 ∧ Q (.str (toString i)) H) ∨ (∃ a, xs = [.str a] ∧ Q (.str a) H)) := fun {X} pins s σ H xs us Q I r h => by
    rcases h with h | h
    · exact call_str_int (X := X) pins s σ H xs us Q I r h
    · exact SkE.call_str_str (X := X) pins s σ H xs us Q I r h
  refine ⟨_, pss_cons (ps_if (pt_val (pe_callB call_isi (by rfl) m_isinstance PyProof.Rows.boot_isinstance (pa_cons (pv 0) (pa_cons (pe_bltn (v := .ty "str") (by rfl) m_str PyProof.Rows.boot_str rfl) pa_nil)))) (pss_one (ps_ret (pe_op op_add_str (pe_op op_add_str pe_str (pv 0)) pe_str))) (pss_nil))
      (pss_one (ps_ret (pe_callTy call_both (by rfl) m_str PyProof.Rows.boot_str (pa_cons (pv 0) pa_nil)))), ?_⟩
  cases x with
  | num i =>
    exact ⟨_, rfl, _, _, _, _, false, rfl, .ty _, .base (.int i), kit_ty (by decide +kernel : kitB "int" "str" = some false), _, rfl, ifF_ rfl ⟨_, rfl, .inl ⟨i, rfl, log_small hx, q⟩⟩⟩
  | quo z =>
    have hz : z.length ≤ 100 := hx
    have c1 : ("\"" : Str).length = 1 := by decide +kernel
    have zb : 1000 ≤ sizeLine := by decide
    have l2 : ("\"" ++ z : Str).length = 1 + z.length := by
      rw [len_tl, tl_append, List.length_append, ← len_tl, ← len_tl, c1]
    exact ⟨_, rfl, _, _, _, _, true, rfl, .ty _, .base (.str z), kit_ty (by decide +kernel : kitB "str" "str" = some true), _, rfl, ifT_ rfl ⟨_, rfl, _, _, rfl, rfl, by rw [c1]; omega, _, _, rfl, rfl, by rw [l2, c1]; omega, q⟩⟩
end
end Kx

namespace Kx
open PySem PySem.Spec PyProof.Rows L2 TL
section
variable {P : Program} {w : World} {K : PySem.W.Frag} {mg : Str → Option Value} {base : Heap}
def spRowT (K : PySem.W.Frag) : Sp := fun vs H Q _ => ∃ (a : Addr) (xs : List Vl), vs = [.ref a] ∧ SqT K H a (xs.map vlV) ∧ xs.length ≤ 1000 ∧ (∀ x ∈ xs, VlW x ∧ (vlT x).length ≤ 200) ∧ ∀ H', Same H H' → Q (.str (rowT xs)) H'
abbrev N_row_text : List Str := ["row", "value"]
theorem sc_rowt : FnScope N_row_text ["row"] (defScope s_row_text) := ⟨rfl, rfl, rfl, by decide +kernel, rfl, by decide +kernel, by decide +kernel⟩
theorem ok_rowt {f : Addr} {fd : FuncData} (F : Fun K "row_text" "row_text" s_row_text f fd) (G_vl : Ready P w K mg base 1 "value_text" ["value"] spVlT) : FnOk P w K mg base CX0 2 f fd ["row"] (spRowT K) := by
  refine F.ok sc_rowt (fun vs H Q E h => ?_) (fun cdv A outer s H vs Q E hr h => ?_)
  · obtain ⟨a, xs, rfl, _⟩ := h
    rfl
  obtain ⟨a, xs, rfl, h1, hl, hw, q⟩ := h
  have nd := sc_rowt.nd
  have hr1 : Room 1 _ := hr
  refine ⟨_, pss_one (ps_ret (pe_join pe_str (pe_lc (own := [("value", 1)]) (g := gName 1) (tt := tYes) rfl nd (pi_tup (pv 0)) (blkOk_by (N := N_row_text) (sc := defScope s_row_text) (by decide +kernel)) (fun _ _ _ _ _ => pg_name (i := 1) nd rfl (Or.inl rfl)) (fun _ _ _ _ _ => pts_nil) (fun _ _ _ _ _ => (pe_fn G_vl hr1 (pa_cons (pv 1) pa_nil)))))), ?_⟩
  refine ⟨⟨_, rfl⟩, _, rfl, a, rfl, ⟨_, h1⟩, fun D1 hD1 => ?_⟩
  refine lc_it (walk_tup (xs := xs.map vlV)) (fun j H' => Same H H' ∧ H' D1 = some (.lst (((xs.take j).map vlT).map V.str))) ⟨same_upd hD1, upd_same⟩ (fun j H' _ ⟨b, _⟩ => Same.sqT b h1) ?_ ?_
  · rintro j v H3 H4 hj ⟨b3, e3⟩ ⟨rfl, hv⟩
    rw [List.getElem?_map] at hv
    obtain ⟨x, hx, rfl⟩ := Option.map_eq_some_iff.mp hv
    refine ⟨rfl, _, rfl, x, rfl, (hw x (List.mem_of_getElem? hx)).1, _, e3, ?_, fun b o e => ?_, ?_⟩
    · refine Nat.lt_of_le_of_lt (show _ ≤ 1000 from ?_) (by decide)
      rw [List.length_map, List.length_map, List.length_take]
      omega
    · rw [upd_ne (ne_of_none e hD1)]
      exact b3 b o e
    · rw [List.take_add_one, hx, List.map_append, List.map_append]
      exact upd_same
  · rintro H3 ⟨b3, e3⟩
    rw [List.length_map, List.take_length] at e3
    have h3 := sum_le (g := fun z : Str => z.length) (c := 200) (l := xs.map vlT) (fun z hz => by
      obtain ⟨x, hx, rfl⟩ := List.mem_map.mp hz
      exact (hw x hx).2)
    have h4 : (xs.map vlT).length ≤ 1000 := by rw [List.length_map]; exact hl
    have h5 := Nat.le_trans h3 (Nat.mul_le_mul_right _ h4)
    exact ⟨_, D1, _, rfl, rfl, .inl (SqL.of e3), by rw [show (", " : Str).length = 2 by decide +kernel]; omega, q H3 b3⟩
end
end Kx

namespace Kx
open PySem PySem.Spec PyProof.Rows L2 TL
abbrev s_is_name : Stmt := topS 20
theorem tl_inj2 {a b : Str} (h : tl a = tl b) : a = b := by
  rw [← mk_tl a, ← mk_tl b, h]
def isNm (z : Str) : Bool := match tl z with
  | [] => false
  | c :: _ => isLet c && (decide (runLen (tl z) = z.length) && decide (z ∉ owns))
section
variable {P : Program} {w : World} {K : PySem.W.Frag} {mg : Str → Option Value} {base : Heap}
def spIsNm : Sp := fun vs H Q _ => ∃ z : Str, vs = [.str z] ∧ z.length ≤ 100000 ∧ Q (.bl (isNm z)) H
theorem sc_isnm : FnScope ["thing"] ["thing"] (defScope s_is_name) := ⟨rfl, rfl, rfl, by decide +kernel, rfl, by decide +kernel, by decide +kernel⟩
theorem ok_isnm {f : Addr} {fd : FuncData} (F : Fun K "is_name" "is_name" s_is_name f fd) (T : Tbl K mg) (m_isinstance : mg "isinstance" = none) (m_str : mg "str" = none) (m_len : mg "len" = none) (G_let : Ready P w K mg base 1 "is_letter" ["sign"] spLet) (G_run : Ready P w K mg base 2 "run_end" ["text", "at"] spRunEnd) : FnOk P w K mg base CX0 3 f fd ["thing"] spIsNm := by
  refine F.ok sc_isnm (fun vs H Q E h => ?_) (fun cdv A outer s H vs Q E hr h => ?_)
  · obtain ⟨z, rfl, _⟩ := h
    rfl
  obtain ⟨z, rfl, hz, q⟩ := h
  obtain ⟨aO, m_O, tO⟩ := T.own
  have nd := sc_isnm.nd
  have hr2 : Room 2 _ := hr
  have hr1 : Room 1 _ := hr.mono (by decide)
  refine ⟨_, pss_cons (ps_if (PW.pt (pw_or (pt_not (pt_val (pe_callB call_isi (by rfl) m_isinstance PyProof.Rows.boot_isinstance (pa_cons (pv 0) (pa_cons (pe_bltn (v := .ty "str") (by rfl) m_str PyProof.Rows.boot_str rfl) pa_nil))))) (pw_or (pt_cmpR op_eq (pv 0) pe_str (nomark _)) (pw_or1 (pt_not (pt_val (pe_fn G_let hr1 (pa_cons (pe_ix ix_str (pv 0) pe_int (fun _ _ => rfl)) pa_nil)))))))) (pss_one (ps_ret pe_bl)) (pss_nil))
      (pss_one (ps_ret (pe_and (pe_cmpR op_eq (pe_fn G_run hr2 (pa_cons (pv 0) (pa_cons pe_int pa_nil))) (pe_callB call_len_str (by rfl) m_len PySem.boot_len (pa_cons (pv 0) pa_nil)) (nomark _)) (pe_one (pe_cmpR op_notIn_seq (pv 0) (pe_glob (v := .ref aO) rfl m_O rfl) rfl))))), ?_⟩
  refine ⟨_, rfl, _, _, _, _, true, rfl, .ty _, .base (.str z), kit_ty (by decide +kernel : kitB "str" "str" = some true), _, rfl, ifF_ rfl ?_⟩
  refine ⟨_, rfl, rfl, _, rfl, ?_⟩
  have e0 : tl ("" : Str) = [] := by decide +kernel
  cases e : tl z with
  | nil =>
    have ez : z = "" := tl_inj2 (by rw [e, e0])
    unfold isNm at q
    rw [e] at q
    exact ifT_ (decide_eq_true (congrArg V.str ez)) q
  | cons c r =>
    unfold isNm at q
    rw [e] at q
    dsimp only at q
    refine ifF_ (decide_eq_false fun zz => by rw [V.str.inj zz, e0] at e; cases e) ⟨_, rfl, z, 0, c, rfl, rfl, Nat.le_trans hz (by decide), atI_nat (j := 0) (by show (tl z)[0]? = some c; rw [e]; rfl), c, rfl, _, rfl, ?_⟩
    by_cases hc : isLet c = true
    · rw [hc] at q ⊢
      refine ifF_ rfl ?_
      have er : (0 + runLen ((tl z).drop 0) : Nat) = runLen (tl z) := Nat.zero_add _
      refine ⟨_, rfl, z, 0, rfl, hz, Nat.zero_le _, ?_⟩
      rw [er]
      refine ⟨_, rfl, z, rfl, Nat.le_trans hz (by decide), rfl, _, rfl, ?_⟩
      rw [e]
      have ed : decide (V.int ((runLen (c :: r) : Nat) : Int) = V.int (z.length : Nat)) = decide (runLen (c :: r) = z.length) := decide_eq_decide.mpr ⟨fun h => by have := V.int.inj h; omega, fun h => by rw [h]⟩
      rw [ed]
      by_cases hl : runLen (c :: r) = z.length
      · rw [decide_eq_true hl] at q ⊢
        refine ifT_ rfl ⟨_, rfl, aO, _, rfl, .inr (tO _), rfl, flat_strs _, ?_⟩
        rw [if_pos rfl, inV_str]
        have ew : (!decide (z ∈ owns)) = decide (z ∉ owns) := by
          by_cases ho : z ∈ owns
          · rw [decide_eq_true ho, decide_eq_false (fun h => h ho)]
            rfl
          · rw [decide_eq_false ho, decide_eq_true ho]
            rfl
        rw [ew]
        exact q
      · rw [decide_eq_false hl] at q ⊢
        exact ifF_ rfl q
    · rw [Bool.eq_false_iff.mpr hc] at q ⊢
      exact ifT_ rfl q
end
end Kx

namespace Kx
open PySem PySem.Spec PyProof.Rows L2 TL
abbrev s_table_head : Stmt := topS 31
def pairT (p : Str × Str) : Str := p.1 ++ " " ++ p.2
def hdT (nm : Str) (cs : List (Str × Str)) : Str := nm ++ "(" ++ Txt.join ", " (cs.map pairT) ++ ")"
def ColK (K : PySem.W.Frag) (H : Hp) (v : V) (p : Str × Str) : Prop := ∃ a, v = .ref a ∧ SqT K H a [.str p.1, .str p.2]
theorem len2' (a b : Str) : (a ++ b).length = a.length + b.length := by
  rw [len_tl, tl_append, List.length_append, ← len_tl, ← len_tl]
theorem ch1 : (" " : Str).length = 1 ∧ ("(" : Str).length = 1 ∧ (")" : Str).length = 1 ∧ (", " : Str).length = 2 := by decide +kernel
section
variable {P : Program} {w : World} {K : PySem.W.Frag} {mg : Str → Option Value} {base : Heap}
def spHdT (K : PySem.W.Frag) : Sp := fun vs H Q _ => ∃ (nm : Str) (c : Addr) (cxs : List V) (cs : List (Str × Str)), vs = [.str nm, .ref c] ∧ SqT K H c cxs ∧ Paired (ColK K H) cxs cs ∧ nm.length ≤ 100 ∧ cs.length ≤ 100 ∧ (∀ p ∈ cs, p.1.length ≤ 100 ∧ p.2.length ≤ 10) ∧ (Txt.join ", " (cs.map pairT)).length ≤ 20000 ∧ ∀ H', Same H H' → Q (.str (hdT nm cs)) H'
abbrev N_table_head : List Str := ["name", "columns", "column", "kind"]
theorem sc_thead : FnScope N_table_head ["name", "columns"] (defScope s_table_head) := ⟨rfl, rfl, rfl, by decide +kernel, rfl, by decide +kernel, by decide +kernel⟩
theorem ok_thead {f : Addr} {fd : FuncData} (F : Fun K "table_head" "table_head" s_table_head f fd) : FnOk P w K mg base CX0 1 f fd ["name", "columns"] (spHdT K) := by
  refine F.ok sc_thead (fun vs H Q E h => ?_) (fun cdv A outer s H vs Q E hr h => ?_)
  · obtain ⟨nm, c, cxs, cs, rfl, _⟩ := h
    rfl
  obtain ⟨nm, a, cxs, cs, rfl, h1, h2, ln, lc, hw, lj, q⟩ := h
  have nd := sc_thead.nd
  refine ⟨_, pss_one (ps_ret (pe_op op_add_str (pe_op op_add_str (pe_op op_add_str (pv 0) pe_str) (pe_join pe_str (pe_lc (own := [("column", 2), ("kind", 3)]) (g := (gTup K 2 (gCons (gName 2) (gCons (gName 3) gNil)))) (tt := tYes) rfl nd (pi_tup (pv 1)) (blkOk_by (N := N_table_head) (sc := defScope s_table_head) (by decide +kernel)) (fun _ _ _ _ _ => pg_tup rfl (pgs_cons (pg_name (i := 2) nd rfl (.inl rfl)) (pgs_cons (pg_name (i := 3) nd rfl (.inl rfl)) pgs_nil))) (fun _ _ _ _ _ => pts_nil) (fun _ _ _ _ _ => (pe_op op_add_str (pe_op op_add_str (pv 2) pe_str) (pv 3)))))) pe_str)), ?_⟩
  have zb : 200000 ≤ sizeLine := by decide
  refine ⟨_, rfl, _, _, rfl, rfl, by simp only [ch1]; omega, ⟨_, rfl⟩, _, rfl, a, rfl, ⟨_, h1⟩, fun D1 hD1 => ?_⟩
  refine lc_it (walk_tup (xs := cxs)) (fun j H' => Same H H' ∧ H' D1 = some (.lst (((cs.take j).map pairT).map V.str))) ⟨same_upd hD1, upd_same⟩ (fun j H' _ ⟨b, _⟩ => Same.sqT b h1) ?_ ?_
  · rintro j v H3 H4 hj ⟨b3, e3⟩ ⟨rfl, hv⟩
    obtain ⟨p, hp, pa, rfl, hpa⟩ := paired_at h2 hv
    obtain ⟨l1, l2⟩ := hw p (List.mem_of_getElem? hp)
    refine ⟨pa, _, rfl, Same.sqT b3 hpa, rfl, _, _, rfl, _, _, rfl, rfl, rfl, _, rfl, _, _, rfl, rfl, by simp only [ch1]; omega, _, rfl, _, _, rfl, rfl, by simp only [len2', ch1]; omega, _, e3, ?_, fun b o e => ?_, ?_⟩
    · refine Nat.lt_of_le_of_lt (show _ ≤ 100 from ?_) (by decide)
      rw [List.length_map, List.length_map, List.length_take]
      omega
    · rw [upd_ne (ne_of_none e hD1)]
      exact b3 b o e
    · rw [List.take_add_one, hp, List.map_append, List.map_append]
      exact upd_same
  · rintro H3 ⟨b3, e3⟩
    rw [Paired.length h2, List.take_length] at e3
    have h3 := sum_le (g := fun z : Str => z.length) (c := 111) (l := cs.map pairT) (fun z hz => by
      obtain ⟨p, hp, rfl⟩ := List.mem_map.mp hz
      obtain ⟨l1, l2⟩ := hw p hp
      show (p.1 ++ " " ++ p.2 : Str).length ≤ 111
      simp only [len2', ch1]
      omega)
    have h4 : (cs.map pairT).length ≤ 100 := by rw [List.length_map]; exact lc
    have h5 := Nat.le_trans h3 (Nat.mul_le_mul_right _ h4)
    exact ⟨_, D1, _, rfl, rfl, .inl (SqL.of e3), by simp only [ch1]; omega, _, _, rfl, rfl, by simp only [len2', ch1]; omega, _, _, rfl, rfl, by simp only [len2', ch1]; omega, q H3 b3⟩
end
end Kx

namespace PySem
namespace BadX
open PySem.W PySem.Calls PyProof.Rows PySem.HandSPX
/-! ### self.thing = v on an exception that has no dict yet -/
abbrev exT : List Value := [.type "Exception", .type "BaseException", .type "object"]
section
open Builtin Builtin.ObjectAttr
variable {prog : Program} {w : World} {A : Around} {R : Result → Shared → Prop} {hp : Heap} {g : Array GenState} {d : Drawn} {t : Nat} {os : OsState}
theorem osa_first {K : Frag} {name : Str} {tk : Tok} {v : Value} {x C : Addr} {fv : Array Value} {cd : ClassData} {bm : List Value}
    (X : K.In hp) (ho : hp.get? x = some { cls := .ref C, data := .fields fv }) (hc : clsIn K C = some cd) (ht : excTail exT bm = true) (hm : cd.mro = .ref C :: bm) (hh : cd.hasDict = true) (hn : findIn K (.ref C) name = some none)
    (q : ∀ h' tk' dx, (∀ b o, b ≠ x → hp.get? b = some o → h'.get? b = some o) → hp.objs.size ≤ dx → dx ≠ x → h'.get? x = some { cls := .ref C, dict := some dx, data := .fields fv } → h'.Ns1 dx (fun y => if y = name then some v else none) → R (.ok (.ret .none)) ⟨h', g, d, tk', os⟩) :
    codeAny (model prog w) A (.call (.builtin "object.__setattr__") ⟨[.ref x, .str name tk, v], []⟩) R ⟨hp, g, d, t, os⟩ := by
  have over : excOver K C exT = true := by
    unfold excOver
    rw [hc]
    show (match cd.mro with | .ref C' :: bm => C' == C && excTail exT bm | _ => false) = true
    rw [hm]
    show (C == C && excTail exT bm) = true
    rw [ht, beq_self_eq_true] <;> rfl
  have free : takerIn K C name = some none := by
    unfold takerIn
    rw [hn] <;> rfl
  have apart : hp.objs.size ≠ x := fun z => absurd (Heap.lt_size ho) (by rw [z]; exact Nat.lt_irrefl _)
  refine osa_openX (s := ⟨hp, g, d, t, os⟩) F.store_Exception X (ox := { cls := .ref C, data := .fields fv }) (od := none) ⟨ho, rfl, rfl, trivial⟩ over free fun b => ?_
  have look : Looks (model prog w) hp (classData C) cd := looks_clsIn X hc
  obtain ⟨c1, c2, c3, c4, c5, c6, c7, c8, c9, c10, c11⟩ := cd
  dsimp only at hh
  subst hh
  show wpAny _ _ (storeInOwnDict (.ref x) (.ref C) (.str name tk) name v b) _ _ _
  unfold storeInOwnDict ownDictForStores
  repeat (first | with_reducible refine look.at ?_ | with_reducible refine wpAny_loadPart_at ho ?_ | with_reducible refine store_in_new ?_ ?_ | wp_step)
  · exact ⟨_, #[], _, (Heap.get?_update_ne _ _ _ _ apart).trans (Heap.get?_push_at rfl rfl), rfl, (by intro e he; simp at he), (fun _ => rfl)⟩
  intro h2 tk2 n2 sb
  have mid : (hp.push { cls := .type "dict", data := .dict #[] }).get? x = some { cls := .ref C, data := .fields fv } := Heap.get?_push_of_some _ ho
  refine q h2 tk2 _ (fun c o hc e => ?_) (Nat.le_refl _) apart ((sb.2 x apart.symm).trans (Heap.get?_update_self _ mid rfl)) n2
  have far : c ≠ hp.objs.size := fun z => absurd (Heap.lt_size e) (by rw [z]; exact Nat.lt_irrefl _)
  rw [sb.2 c far, Heap.get?_update_ne _ _ _ _ hc]
  exact Heap.get?_push_of_some _ e
end
/-! ### the text of __init__ -/
def iA (p1 p2 : Pos) : Arguments := { posonlyargs := [], args := [{ arg := "self", annotation := none, pos := p1 }, { arg := "thing", annotation := none, pos := p2 }], vararg := none, kwonlyargs := [], kw_defaults := [], kwarg := none, defaults := [] }
def iB (q1 q2 q3 q4 : Pos) : List Stmt := [.Assign [.Attribute (.Name "self" q1) "thing" q2] (.Name "thing" q3) q4]
def iS : Scope := { kind := .function, names := [(PySem.Str.ofString "self", .local), (PySem.Str.ofString "thing", .local)], isGenerator := false, isCoroutine := false, more := [] }
/-- what the written part says of BadThing, at C, and of its __init__, at fI -/
structure BadTxt (K : Frag) (mg : Str → Option Value) (C fI : Addr) : Prop where
  gC : mg "BadThing" = some (.ref C)
  cls : ∃ nm q N bs bm sn sub ab col dd k0 k1 k2 k3 k5, K.lookup C = some (excClassObj nm q C N bs bm true sn sub ab col dd k0 k1 k2 k3 k5 "Exception.__new__") ∧ excTail exT bm = true
  sa : findIn K (.ref C) "__setattr__" = some (some (.builtin "object.__setattr__"))
  ga : findIn K (.ref C) "__getattribute__" = some (some (.builtin "BaseException.__getattribute__"))
  gg : findIn K (.ref C) "__getattr__" = some none
  noN : findIn K (.ref C) "thing" = some none
  iC : findIn K (.ref C) "__init__" = some (some (.ref fI))
  tC : typeIn K (.ref fI) = some (.type "function")
  kC : keepIn K (.ref C) = true
  exC : subIn K (.ref C) (.type "BaseException") = some true
  tyC : typeIn K (.ref C) = some (.type "type")
  hdC : hasDictIn K C = true
  te : exmOne K (.ref C) (.ref C) = some true
  fn : ∃ (oc : Value) (od : Option Addr) (doc pm : Value) (an : Option Addr) (cdv ct : Value) (osl : Array (Option Value)) (p1 p2 q1 q2 q3 q4 : Pos),
    K.lookup fI = some ⟨oc, od, .func (fnOf "__init__" "BadThing.__init__" (iA p1 p2) (iB q1 q2 q3 q4) iS .none .none doc pm an cdv ct), osl⟩ ∧ codeIn K cdv "BadThing.__init__" = true
theorem one_size (v : Value) : [v].length ≤ sizeLine := by
  rw [sizeLine_eq]
  exact (by decide : 1 ≤ 16777216)
theorem kept_but {K : Frag} {h h' : Heap} {x : Addr} (X : K.In h) (hx : K.lookup x = none) (k : ∀ b o, b ≠ x → h.get? b = some o → h'.get? b = some o) : K.In h' := fun a o e =>
  k a o (fun z => by rw [z, hx] at e; cases e) (X a o e)
theorem ldC {M : Model} {s : Shared} {name : Str} {scope : Scope} {L a : Addr} {cd : Value} {m : Str → Option Value} {x : Str} {pos : Pos} {v : Value} {Q : Value → Shared → Prop} {A : Around} {E : Value → Shared → Prop} (hn : s.heap.Ns L m) (hv : m x = some v) (h : Q v s)
    (hk : scope.kind = .function := by rfl) (hl : (envOfC name scope L a cd).kindOf x = some .local := by rfl) (hd : (x == ("__debug__" : Str)) = false := by decide) :
    wpAny M A (eval (.Name x pos) (envOfC name scope L a cd)) Q E s := wpAny_Name (wpAny_loadName_local hk hl hn hv h) hd
/-- what __init__ leaves of a fresh exception at x -/
structure InitEnd (h h' : Heap) (x C dx t1 : Addr) (v : Value) : Prop where
  keep : ∀ b o, b ≠ x → h.get? b = some o → h'.get? b = some o
  obj : h'.get? x = some { cls := .ref C, dict := some dx, data := .fields #[.ref t1, .none, .none, .none, .bool false, .none] }
  dbig : h.objs.size ≤ dx
  dne : dx ≠ x
  ns : h'.Ns1 dx (fun y => if y = "thing" then some v else none)
/-- a made BadThing -/
structure OwnMade (h h' : Heap) (e C d : Addr) (v : Value) : Prop where
  keep : ∀ b o, h.get? b = some o → h'.get? b = some o
  new : h.objs.size ≤ e
  obj : ∃ oe vs, h'.get? e = some oe ∧ oe.cls = .ref C ∧ oe.dict = some d ∧ oe.data = .fields vs ∧ vs[1]? = some .none
  dbig : h.objs.size ≤ d
  dne : d ≠ e
  ns : h'.Ns1 d (fun y => if y = "thing" then some v else none)
section
variable {prog : Program} {w : World} {A : Around} {E : Value → Shared → Prop} {R : Result → Shared → Prop} {s : Shared} {K : Frag} {mg : Str → Option Value} {C fI : Addr}
theorem bad_init (T : BadTxt K mg C fI) {x t0 : Addr} {v : Value} (X : K.In s.heap) (hlim : s.heap.NoLimit) (hx : s.heap.get? x = some (excO C t0)) (hnx : K.lookup x = none) (hroom : A.depth < recursionLimit)
    (hq : ∀ h' tk dx, InitEnd s.heap h' x C dx t0 v → R (.ok (.ret .none)) { s with heap := h', toks := tk }) :
    codeAny (model prog w) A (.call (.ref fI) ⟨[.ref x, v], []⟩) R s := by
  obtain ⟨oc, od, doc, pm, an, cdv, ct, osl, p1, p2, q1, q2, q3, q4, ho, hcd⟩ := T.fn
  obtain ⟨nm, q, N, bs, bm, sn, sub, ab, col, dd, k0, k1, k2, k3, k5, hC, hbm⟩ := T.cls
  have hcl : clsIn K C = some { name := nm, bases := bs, mro := .ref C :: bm, ns := N, qualname := q, hasDict := true, slotNames := sn, subclasses := sub, abstract := ab, collection := col, hasDel := false } := by unfold clsIn; rw [hC] <;> rfl
  refine Att.call_fn (binds := [("self", .ref x), ("thing", v)]) X hlim ho hcd hroom (BindsTo.of_eq (by first | rfl | with_unfolding_all rfl)) (by first | rfl | decide | with_unfolding_all rfl) (fun s₁ IC => ?_) rfl rfl rfl
  obtain ⟨h₁, tk₁, rfl⟩ := IC.toInCall.same
  have k : ∀ b o, s.heap.get? b = some o → h₁.get? b = some o := IC.toInCall.keep
  have hn := IC.toInCall.ns
  have hxL : s.heap.objs.size ≠ x := Nat.ne_of_gt (Heap.lt_size hx)
  have X₁ : K.In h₁ := X.keeps k
  have hx₁ := k _ _ hx
  -- self.by = by
  show wpAny _ _ (execs _ _) _ _ _
  refine wpAny_execs_cons (plainObj_wpAny_Assign_Attribute ?_)
  refine ldC (v := v) hn (by first | rfl | with_unfolding_all rfl | kernel_rfl) (ldC (v := .ref x) hn (by first | rfl | with_unfolding_all rfl | kernel_rfl) ?_)
  refine set_plain X₁ (ox := excO C t0) (od := none) ⟨hx₁, rfl, rfl, trivial⟩ T.sa ?_
  refine osa_first X₁ hx₁ hcl (show excTail exT bm = true from hbm) rfl rfl T.noN (fun h₃ tk₃ dx k₃ dn dne hx₃ hn₃ => ?_)
  show wpAny _ _ (execs _ _) _ _ _
  have z : s.heap.objs.size < h₁.objs.size := hn.lt
  exact wpAny_execs_nil (hq h₃ tk₃ dx ⟨fun b o hb e => k₃ b o hb (k b o e), hx₃, Nat.le_of_lt (Nat.lt_of_lt_of_le z dn), dne, hn₃⟩)
theorem bad_made (T : BadTxt K mg C fI) {v : Value} (X : K.In s.heap) (hlim : s.heap.NoLimit) (hroom : A.depth + 1 < recursionLimit)
    (hq : ∀ h' tk e d, OwnMade s.heap h' e C d v → R (.ok (.ret (.ref e))) { s with heap := h', toks := tk }) :
    codeAny (model prog w) A (.call (.ref C) ⟨[v], []⟩) R s := by
  obtain ⟨nm, q, N, bs, bm, sn, sub, ab, col, dd, k0, k1, k2, k3, k5, hC, hbm⟩ := T.cls
  obtain ⟨hp, g, dr, tk, os⟩ := s
  have k : ∀ b o, hp.get? b = some o → ((hp.push (kdv_tup [v])).push (excO C hp.objs.size)).get? b = some o := fun b o e => Heap.get?_push_of_some _ (Heap.get?_push_of_some _ e)
  have hget : ((hp.push (kdv_tup [v])).push (excO C hp.objs.size)).get? (hp.objs.size + 1) = some (excO C hp.objs.size) := by heap_get
  have hnx : K.lookup (hp.objs.size + 1) = none := by
    cases e : K.lookup (hp.objs.size + 1) with
    | none => rfl
    | some o =>
      have z : hp.get? (hp.objs.size + 1) = some o := X _ _ e
      exact absurd (Nat.lt_of_succ_lt (Heap.lt_size z)) (Nat.lt_irrefl _)
  refine call_own F.excBase_Exception (fun X => excTail_contains X bm hbm) (X _ _ hC) (looks_findIn X T.iC) (fun self => bind_fn X self T.tC) (one_size v) ?_
  refine bad_init (s := ⟨(hp.push (kdv_tup [v])).push (excO C hp.objs.size), g, dr, tk, os⟩) T (X.keeps k) (hlim.keeps k) hget hnx ?_ fun h' tk' dx ⟨k', hx, dn, dne, hns⟩ => ?_
  · show A.depth + 1 < recursionLimit
    exact hroom
  · have old : ∀ b o, hp.get? b = some o → h'.get? b = some o := fun b o e => k' b o (Nat.ne_of_lt (Nat.lt_succ_of_lt (Heap.lt_size e))) (k b o e)
    have z : hp.objs.size + 1 + 1 ≤ dx := by
      first
        | (simpa only [Heap.size_push] using dn)
        | exact dn
        | (have q := dn; rw [Heap.size_push, Heap.size_push] at q; exact q)
    exact ⟨rfl, hq h' tk' (hp.objs.size + 1) dx ⟨old, Nat.le_succ _, ⟨_, _, hx, rfl, rfl, rfl, rfl⟩, Nat.le_trans (Nat.le_trans (Nat.le_succ _) (Nat.le_succ _)) z, dne, hns⟩⟩
end
end BadX
end PySem
namespace Kx
open PySem PySem.Spec PyProof.Rows L2
theorem relO_bad1 {v : V} {v' : Value} (r : RelV v v') (f : Str) : RelO (List.lookup f [(("thing" : Str), v)]) (if f = "thing" then some v' else none) := by
  by_cases hw : f = "thing"
  · subst hw
    rw [if_pos rfl]
    have q : List.lookup ("thing" : Str) [(("thing" : Str), v)] = some v := by simp [List.lookup]
    rw [q]
    exact r
  · rw [if_neg hw]
    have qw : (f == ("thing" : Str)) = false := by simpa using hw
    have q2 : List.lookup f [(("thing" : Str), v)] = none := by simp [List.lookup, qw]
    rw [q2]
    trivial
section
variable {X : Cx} {C fI : Addr}
/-- BadThing(e) -/
def tMkBad (C : Addr) (ta : TA) : L2.St → Hp → XK → Prop := fun σ H Q => ta σ H fun vs H1 => ∃ v, vs = [v] ∧ ∀ d, H1 d = none → Q (.ref C) (some d) (upd H1 d (.xd [(("thing" : Str), v)]))
theorem pmk_bad {a : Expr} {ta : TA} {p pos : Pos} {k : Nat} (T : PySem.BadX.BadTxt X.K X.mg C fI) (hr : Room k X.A) (ha : PA X [a] ta) (hg : Gl X "BadThing" := by rfl)
    (he : starEach (a :: []) X.env = (false, eval a X.env) :: starEach [] X.env := by rfl) (hpl : (backTo pos (starEach [] X.env)).any (·.1) = false := by rfl) :
    PMk X (.Call (.Name "BadThing" p) [a] [] pos) (tMkBad C ta) := by
  intro pins s σ H Q I h
  refine wpAny_Call_Name_kw (ld_glob I hg T.gC ?_)
  refine PySem.W.callWith_K (h₀ := X.base) I.ok.mod.kin T.kC (thn (ha.run pos pins s σ H _ I h) fun us s1 hh => ?_) he hpl
  obtain ⟨vs, H1, I1, r1, v, ev, q1⟩ := hh
  subst ev
  refine ⟨I1.kIn, ?_⟩
  cases r1 with
  | cons rv rn =>
    rename_i v' us'
    cases rn
    show wpAny _ _ (call (.ref C) [v']) _ _ _
    have hlim := I1.nolimit
    obtain ⟨hp, g, dr, tk, os⟩ := s1
    refine wpAny_call (PySem.BadX.bad_made T I1.kIn hlim (by have := hr.dp; omega) fun h' tk' e d M => ?_)
    show MkP X pins σ Q (.ref e) ⟨h', g, dr, tk', os⟩
    obtain ⟨oe, fv, hoe, hc, hd, hdat, h1⟩ := M.obj
    have hns := M.ns
    obtain ⟨G', g1, g2⟩ := restrict h' fun b => decide (b ≠ e)
    have gk : ∀ b, b ≠ e → G'.get? b = h'.get? b := fun b hb => g1 b (decide_eq_true hb)
    have ge : G'.get? e = none := g2 e (by simp)
    have old : ∀ b o, hp.get? b = some o → G'.get? b = some o := fun b o q => (gk b (Nat.ne_of_lt (Nat.lt_of_lt_of_le (Heap.lt_size q) M.new))).trans (M.keep b o q)
    have ob : ObjOk X.prog X.w (upd H1 d (.xd [(("thing" : Str), v)])) G' d (.xd [(("thing" : Str), v)]) :=
      ⟨_, hns.at (fun o q => (gk d M.dne).trans q), fun f => relO_bad1 rv f⟩
    have J : Inv X pins σ (upd H1 d (.xd [(("thing" : Str), v)])) ⟨G', g, dr, tk', os⟩ := I1.laid (t' := tk') old M.dbig ob
    refine ⟨e, oe, fv, ⟨G', g, dr, tk', os⟩, _, .ref C, some d, rfl, J, fun b o q => ?_, ge, hoe, ⟨hc, hd⟩, hdat, h1, ?_, rfl, I1.bare, raises_own T.exC T.tyC, q1 d (I1.hok.fresh M.dbig)⟩
    · by_cases hb : b = e
      · have q' : G'.get? b = some o := q
        rw [hb, ge] at q'; cases q'
      · exact (gk b hb).symm.trans q
    · rw [upd_ne (Ne.symm M.dne)]
      exact I1.hok.fresh M.new
/-- raise BadThing(e) -/
def tRaiseBad (C : Addr) (W : WX) (ta : TA) : TS := fun _ σ H => tMkBad C ta σ H fun cls d H' => W cls d σ H'
theorem ps_raiseBad {a : Expr} {ta : TA} {W : WX} {p pos pos2 : Pos} {k : Nat} (hc : X.calm = true) (T : PySem.BadX.BadTxt X.K X.mg C fI) (hr : Room k X.A) (tk : Takes X W) (ha : PA X [a] ta) (hg : Gl X "BadThing" := by rfl)
    (he : starEach (a :: []) X.env = (false, eval a X.env) :: starEach [] X.env := by rfl) (hpl : (backTo pos (starEach [] X.env)).any (·.1) = false := by rfl) :
    PS X (.Raise (some (.Call (.Name "BadThing" p) [a] [] pos)) none pos2) (tRaiseBad C W ta) := ps_raise hc tk (pmk_bad T hr ha hg he hpl)
/-- error.thing, low the exception that the suite holds (at a; its class cls, its dict d) -/
def tByBad (C : Addr) (a : Addr) (cls : Value) (d : Option Addr) (te : TE) : TE := fun σ H Q => te σ H fun x H1 => x = .ref a ∧ cls = .ref C ∧ ∃ (dd : Addr) (v : V), d = some dd ∧ H1 dd = some (.xd [(("thing" : Str), v)]) ∧ Q v H1
theorem pe_byBad {a : Addr} {oe : Obj} {cls : Value} {d : Option Addr} {pn : List (Addr × Obj)} {e : Expr} {te : TE} {pos : Pos} (T : PySem.BadX.BadTxt X.K X.mg C fI) (hz : Zc cls d oe) (hf : ∃ vs, oe.data = .fields vs) (he : PE (X.suite a ((a, oe) :: pn)) e te)
    (hb : attributeBase e "thing" X.env (eval e X.env) = eval e X.env := by rfl) :
    PE (X.suite a ((a, oe) :: pn)) (.Attribute e "thing" pos) (tByBad C a cls d te) := by
  refine ⟨fun pins s σ H Q I h => ?_⟩
  refine attr_of hb (thn (he.run pins s σ H _ I h) fun u s1 hh => ?_)
  obtain ⟨x, H1, I1, rx, ex, ec, dd, v, ed, ea, q⟩ := hh
  subst ex
  obtain rfl : u = Value.ref a := rx
  subst ec
  subst ed
  obtain ⟨ha, _⟩ := I1.pin (a, oe) (List.mem_append_left _ List.mem_cons_self)
  obtain ⟨vs, hd⟩ := hf
  have hx : ObjOk X.prog X.w H1 s1.heap dd (.xd [(("thing" : Str), v)]) := I1.hok dd _ ea
  obtain ⟨mA, hns, hr⟩ := hx
  obtain ⟨od, ho, hl⟩ := lookIn_ns hns
  have l : List.lookup ("thing" : Str) [(("thing" : Str), v)] = some v := by simp [List.lookup]
  obtain ⟨u, hu, ru⟩ := RelO.some_of (v := v) (o := mA "thing") (by rw [← l]; exact hr "thing")
  have J : PySem.W.InstAt s1.heap a oe C (some od) := ⟨ha, hz.1, by unfold PySem.W.notCls; rw [hd] <;> rfl, by rw [hz.2]; exact ho⟩
  exact HandSPX.exc_get I1.kIn J T.ga T.gg T.exC (PySem.W.findObj_own T.hdC T.noN rfl (by rw [hl, hu])) (handed_of ru) ⟨v, H1, I1.tok _, ru, q⟩
end
end Kx


namespace Kx
open PySem PySem.Spec PyProof.Rows L2 TL
abbrev sOfKind : Stmt := topS 7
abbrev sIsRow : Stmt := topS 9
abbrev sAreRows : Stmt := topS 10
/-! ### values of a row, and whether they are of a kind -/
inductive Flat : V → Prop where
  | non : Flat .non
  | bl (b : Bool) : Flat (.bl b)
  | int (i : Int) : Flat (.int i)
  | str (x : Str) : Flat (.str x)
def In64 (i : Int) : Prop := -9223372036854775808 ≤ i ∧ i ≤ 9223372036854775807
instance (i : Int) : Decidable (In64 i) := inferInstanceAs (Decidable (_ ∧ _))
def okV (kind : Str) : V → Bool
  | .str _ => decide (V.str kind = .str "text")
  | .int i => !decide (V.str kind = .str "text") && decide (In64 i)
  | _ => false
def tyName : V → String
  | .non => "NoneType"
  | .bl _ => "bool"
  | .int _ => "int"
  | .str _ => "str"
  | _ => "x"
section
variable {P : Program} {w : World} {K : PySem.W.Frag} {mg : Str → Option Value} {base : Heap}
theorem flat_ty {H : Hp} {v : V} (h : Flat v) : TyX K H v (.type (tyName v)) := by
  cases h with
  | non => exact .base .non
  | bl b => exact .base (.bl b)
  | int i => exact .base (.int i)
  | str x => exact .base (.str x)
theorem ty_lst {H : Hp} {a : Addr} {xs : List V} (h : SqL K H a xs) : TyX K H (.ref a) (.type "list") := by
  rcases h with (h | ⟨o, h⟩) | ⟨o, its, n, h, hc, _⟩
  · exact .base (.lst h)
  · exact .base (.frz h)
  · exact .kList h hc
theorem ty_tup {H : Hp} {a : Addr} {xs : List V} (h : SqT K H a xs) : TyX K H (.ref a) (.type "tuple") := by
  rcases h with (h | ⟨o, h⟩) | ⟨o, its, n, h, hc, _⟩
  · exact .base (.tup h)
  · exact .fTuple h
  · exact .kTuple h hc
/-- isinstance(x, T), T a built-in class -/
theorem isi {H : Hp} {x : V} {a b : String} {r : Bool} {Q : VK} (t : TyX K H x (.type a)) (k : kitB a b = some r) (q : Q (.bl r) H) : rIsi K [x, .ty b] H Q := ⟨x, .ty b, .type a, .type b, r, rfl, .ty b, t, kit_ty k, q⟩
/-! ### is_of_kind -/
def spOfKind : Sp := fun vs H Q _ => ∃ (v : V) (kind : Str), vs = [v, .str kind] ∧ Flat v ∧ Q (.bl (okV kind v)) H
theorem sc_ofkind : FnScope ["thing", "kind"] ["thing", "kind"] (defScope sOfKind) := ⟨rfl, rfl, rfl, by decide +kernel, rfl, by decide +kernel, by decide +kernel⟩
theorem ok_ofkind {f : Addr} {fd : FuncData} (F : Fun K "is_of_kind" "is_of_kind" sOfKind f fd) (m_isinstance : mg "isinstance" = none) (m_str : mg "str" = none) (m_int : mg "int" = none) (m_bool : mg "bool" = none)
    (m_least : ∃ t, mg "LEAST_INT" = some (.int (-9223372036854775808) t)) (m_great : ∃ t, mg "GREATEST_INT" = some (.int 9223372036854775807 t)) : FnOk P w K mg base CX0 1 f fd ["thing", "kind"] spOfKind := by
  refine F.ok sc_ofkind (fun vs H Q E h => ?_) (fun cdv A outer s H vs Q E hr h => ?_)
  · obtain ⟨v, kind, rfl, _⟩ := h
    rfl
  obtain ⟨v, kind, rfl, hv, q⟩ := h
  obtain ⟨t1, mL⟩ := m_least
  obtain ⟨t2, mG⟩ := m_great
  refine ⟨_, pss_cons (ps_if (pt_cmpR op_eq (pv 1) pe_str (nomark _)) (pss_one (ps_ret (pe_callB call_isi (by rfl) m_isinstance PyProof.Rows.boot_isinstance (pa_cons (pv 0) (pa_cons (pe_bltn (v := .ty "str") (by rfl) m_str PyProof.Rows.boot_str rfl) pa_nil))))) (pss_nil))
      (pss_one (ps_ret (pe_and (pe_callB call_isi (by rfl) m_isinstance PyProof.Rows.boot_isinstance (pa_cons (pv 0) (pa_cons (pe_bltn (v := .ty "int") (by rfl) m_int PyProof.Rows.boot_int rfl) pa_nil))) (pe_and (pe_not (pe_callB call_isi (by rfl) m_isinstance PyProof.Rows.boot_isinstance (pa_cons (pv 0) (pa_cons (pe_bltn (v := .ty "bool") (by rfl) m_bool PyProof.Rows.boot_bool rfl) pa_nil)))) (pe_one (pe_chain op_le op_le (pe_glob (v := .int (-9223372036854775808)) rfl mL ⟨_, rfl⟩) (pv 0) (pe_glob (v := .int 9223372036854775807) rfl mG ⟨_, rfl⟩))))))), ?_⟩
  refine ⟨_, rfl, rfl, _, rfl, ite2 (fun c => ?_) (fun c => ?_)⟩
  · have c' := of_decide_eq_true c
    refine ⟨_, rfl, _, _, _, _, okV kind v, rfl, .ty _, flat_ty hv, kit_ty ?_, q⟩
    cases hv with
    | non => exact (by decide +kernel : kitB "NoneType" "str" = some false)
    | bl b => exact (by decide +kernel : kitB "bool" "str" = some false)
    | int i =>
      have e : okV kind (.int i) = false := by
        unfold okV
        rw [decide_eq_true c']
        rfl
      rw [e]
      exact (by decide +kernel : kitB "int" "str" = some false)
    | str x =>
      have e : okV kind (.str x) = true := decide_eq_true c'
      rw [e]
      exact (by decide +kernel : kitB "str" "str" = some true)
  have c' : decide (V.str kind = V.str "text") = false := Bool.eq_false_iff.mpr c
  cases hv with
  | non => exact ⟨_, rfl, _, _, _, _, false, rfl, .ty _, flat_ty .non, kit_ty (by decide +kernel : kitB "NoneType" "int" = some false), _, rfl, q⟩
  | bl b => exact ⟨_, rfl, _, _, _, _, true, rfl, .ty _, flat_ty (.bl b), kit_ty (by decide +kernel : kitB "bool" "int" = some true), _, rfl, _, rfl, _, _, _, _, true, rfl, .ty _, flat_ty (.bl b), kit_ty (by decide +kernel : kitB "bool" "bool" = some true), _, rfl, _, rfl, q⟩
  | str x =>
    have e : okV kind (.str x) = false := c'
    rw [e] at q
    exact ⟨_, rfl, _, _, _, _, false, rfl, .ty _, flat_ty (.str x), kit_ty (by decide +kernel : kitB "str" "int" = some false), _, rfl, q⟩
  | int i =>
    have e : okV kind (.int i) = decide (In64 i) := by
      unfold okV
      rw [c']
      rfl
    rw [e] at q
    refine ⟨_, rfl, _, _, _, _, true, rfl, .ty _, flat_ty (.int i), kit_ty (by decide +kernel : kitB "int" "int" = some true), _, rfl, _, rfl, _, _, _, _, false, rfl, .ty _, flat_ty (.int i), kit_ty (by decide +kernel : kitB "int" "bool" = some false), _, rfl, _, rfl, ?_⟩
    refine ⟨_, rfl, _, _, rfl, rfl, _, rfl, ite2 (fun k => ?_) (fun k => ?_)⟩
    · have k1 := of_decide_eq_true k
      refine ⟨_, _, rfl, rfl, ?_⟩
      have e2 : decide (i ≤ 9223372036854775807) = decide (In64 i) := decide_eq_decide.mpr ⟨fun z => ⟨k1, z⟩, fun z => z.2⟩
      rw [← e2] at q
      exact q
    · have e2 : decide (In64 i) = false := decide_eq_false fun z => k (decide_eq_true z.1)
      rw [e2] at q
      exact q
end
/-! ### things that may be rows -/
inductive Th where
  | none
  | text (x : Str)
  | lst
  | tup (xs : List V)
def ThAt (K : PySem.W.Frag) (H : Hp) : V → Th → Prop
  | v, .none => v = .non
  | v, .text x => v = .str x
  | v, .lst => ∃ a xs, v = .ref a ∧ SqL K H a xs
  | v, .tup xs => ∃ a, v = .ref a ∧ SqT K H a xs ∧ ∀ x ∈ xs, Flat x
/-- whether it is a row of columns of these kinds -/
def rowB (cs : List Str) : Th → Bool
  | .tup xs => decide (xs.length = cs.length) && (xs.zip cs).all fun p => okV p.2 p.1
  | _ => false
section
variable {P : Program} {w : World} {K : PySem.W.Frag} {mg : Str → Option Value} {base : Heap}
/-! ### _law_is_row -/
end
theorem walk_zipT {K : PySem.W.Frag} {a b : Addr} {xs ys : List V} {n : Nat} (hn : n = min xs.length ys.length) : Walk (RZ.ItzT K a b) n (fun H => SqT K H a xs ∧ SqT K H b ys) (YPair (fun i => xs[i]?) (fun i => ys[i]?)) := by
  refine ⟨fun i _ hi q => ⟨xs, ys, xs[i]'(by omega), ys[i]'(by omega), q.1, q.2, List.getElem?_eq_getElem _, List.getElem?_eq_getElem _⟩, fun _ q => ⟨xs, ys, q.1, q.2, by omega⟩, ?_⟩
  rintro i H v H' _ q ⟨T, x, z, h1, h2, h3, h4, h5⟩
  exact ⟨T, x, z, h1, h2, h3, h4 xs q.1, h5 ys q.2⟩
theorem pi_or {X : Cx} {tg e : Expr} {t1 t2 : TI} (h1 : PI X tg e t1) (h2 : PI X tg e t2) : PI X tg e (fun σ H R => t1 σ H R ∨ t2 σ H R) :=
  ⟨fun pins s σ H R I h => h.elim (h1.run pins s σ H R I) (h2.run pins s σ H R I)⟩
/-- columns, a tuple of pairs of a name and a kind -/
def ColsT (K : PySem.W.Frag) (H : Hp) (cols : Addr) (cs : List (Str × Str)) : Prop :=
  ∃ as : List Addr, SqT K H cols (as.map V.ref) ∧ as.length = cs.length ∧ ∀ (i : Nat) (a : Addr) (c : Str × Str), as[i]? = some a → cs[i]? = some c → SqT K H a [.str c.1, .str c.2]
section
variable {P : Program} {w : World} {K : PySem.W.Frag} {mg : Str → Option Value} {base : Heap}
theorem ColsT.same {H H' : Hp} {cols : Addr} {cs : List (Str × Str)} (C : ColsT K H cols cs) (h : Same H H') : ColsT K H' cols cs := by
  obtain ⟨as, h1, h2, h3⟩ := C
  exact ⟨as, Same.sqT h h1, h2, fun i a c e1 e2 => Same.sqT h (h3 i a c e1 e2)⟩
theorem ThAt.same {H H' : Hp} (h : Same H H') : ∀ {v : V} {t : Th}, ThAt K H v t → ThAt K H' v t
  | _, .none, q => q
  | _, .text _, q => q
  | _, .lst, ⟨a, xs, e, q⟩ => ⟨a, xs, e, Same.sqL h q⟩
  | _, .tup _, ⟨a, e, q, f⟩ => ⟨a, e, Same.sqT h q, f⟩
/-! ### is_row -/
def spIsRow (K : PySem.W.Frag) : Sp := fun vs H Q _ => ∃ (v : V) (t : Th) (cols : Addr) (cs : List (Str × Str)), vs = [v, .ref cols] ∧ ThAt K H v t ∧ ColsT K H cols cs ∧ cs.length < 64 ∧ ∀ H', Same H H' → Q (.bl (rowB (cs.map (·.2)) t)) H'
abbrev N_isrow : List Str := ["thing", "columns", "value", "column"]
theorem sc_isrow : FnScope N_isrow ["thing", "columns"] (defScope sIsRow) := ⟨rfl, rfl, rfl, by decide +kernel, rfl, by decide +kernel, by decide +kernel⟩
theorem rowB_len {cs : List Str} {xs : List V} (h : xs.length ≠ cs.length) : rowB cs (.tup xs) = false := by
  show (decide (xs.length = cs.length) && _) = false
  rw [decide_eq_false h]
  rfl
theorem rowB_all {cs : List Str} {xs : List V} (h : xs.length = cs.length) : rowB cs (.tup xs) = (((xs.zip cs).map fun p => okV p.2 p.1).all id) := by
  show (decide (xs.length = cs.length) && _) = _
  rw [decide_eq_true h, Bool.true_and, List.all_map]
  rfl
theorem ok_isrow {f : Addr} {fd : FuncData} (F : Fun K "is_row" "is_row" sIsRow f fd) (m_isinstance : mg "isinstance" = none) (m_tuple : mg "tuple" = none) (m_len : mg "len" = none) (m_all : mg "all" = none) (m_zip : mg "zip" = none)
    (G_is_of_kind : Ready P w K mg base 1 "is_of_kind" ["thing", "kind"] spOfKind) : FnOk P w K mg base CX0 2 f fd ["thing", "columns"] (spIsRow K) := by
  refine F.ok sc_isrow (fun vs H Q E h => ?_) (fun cdv A outer s H vs Q E hr h => ?_)
  · obtain ⟨v, t, cols, cs, rfl, _⟩ := h
    rfl
  obtain ⟨v, t, cols, cs, rfl, hv, C, h64, q⟩ := h
  have nd := sc_isrow.nd
  refine ⟨_, pss_cons (ps_if (PW.pt (pw_or (pt_not (pt_val (pe_callB call_isi (by rfl) m_isinstance PyProof.Rows.boot_isinstance (pa_cons (pv 0) (pa_cons (pe_bltn (v := .ty "tuple") (by rfl) m_tuple PyProof.Rows.boot_tuple rfl) pa_nil))))) (pw_or1 (pt_cmpR op_ne (pe_callB call_len_seq (by rfl) m_len PySem.boot_len (pa_cons (pv 0) pa_nil)) (pe_callB call_len_seq (by rfl) m_len PySem.boot_len (pa_cons (pv 1) pa_nil)) (nomark _))))) (pss_one (ps_ret pe_bl)) (pss_nil))
      (pss_one (ps_ret (pe_callB (cr_all rfl) (by rfl) m_all PyProof.Rows.boot_all (pa_cons (pe_lc (own := [("value", 2), ("column", 3)]) (g := (gTup K 2 (gCons (gName 2) (gCons (gName 3) gNil)))) (tt := tYes) (te := tCall spOfKind [] E0 (tCons (tVar 2) (tCons (tOp (rIxT K) (tVar 3) (tC (.int 1))) tNil))) rfl nd (RZ.pi_zipA rfl m_zip (pa_cons (pv 0) (pa_cons (pv 1) pa_nil))) (blkOk_by (N := N_isrow) (sc := defScope sIsRow) (by decide +kernel)) (fun _ _ _ _ _ => pg_tup rfl (pgs_cons (pg_name (i := 2) nd rfl (.inl rfl)) (pgs_cons (pg_name (i := 3) nd rfl (.inl rfl)) pgs_nil))) (fun _ _ _ _ _ => pts_nil) (fun _ _ _ _ _ => (pe_fn (G_is_of_kind) (hr.mono (by decide)) (pa_cons (pv 2) (pa_cons (pe_ix ix_tup (pv 3) pe_int (fun _ _ => rfl)) pa_nil))))) pa_nil)))), ?_⟩
  cases t with
  | none =>
    cases hv
    exact ⟨_, rfl, _, _, _, _, false, rfl, .ty _, .base .non, kit_ty (by decide +kernel : kitB "NoneType" "tuple" = some false), _, rfl, q _ (Same.refl _)⟩
  | text x =>
    cases hv
    exact ⟨_, rfl, _, _, _, _, false, rfl, .ty _, .base (.str x), kit_ty (by decide +kernel : kitB "str" "tuple" = some false), _, rfl, q _ (Same.refl _)⟩
  | lst =>
    obtain ⟨a, xs, rfl, h⟩ := hv
    exact ⟨_, rfl, _, _, _, _, false, rfl, .ty _, ty_lst h, kit_ty (by decide +kernel : kitB "list" "tuple" = some false), _, rfl, q _ (Same.refl _)⟩
  | tup xs =>
    obtain ⟨a, rfl, h, fl⟩ := hv
    obtain ⟨as, c1, c2, c3⟩ := C
    refine ⟨_, rfl, _, _, _, _, true, rfl, .ty _, ty_tup h, kit_ty (by decide +kernel : kitB "tuple" "tuple" = some true), _, rfl, _, rfl, a, xs, rfl, .inr h, _, rfl, cols, _, rfl, .inr c1, rfl, _, rfl, ite2 (fun c => ?_) (fun c => ?_)⟩
    · have ne : xs.length ≠ cs.length := fun z => by
        rw [List.length_map, c2, z] at c
        exact absurd c (by simp)
      have q' := q H (Same.refl _)
      rw [rowB_len (by rw [List.length_map]; exact ne)] at q'
      exact q'
    have len : xs.length = cs.length := by
      by_cases z : xs.length = cs.length
      · exact z
      · refine absurd ?_ c
        show (!decide (V.int (xs.length : Nat) = V.int ((as.map V.ref).length : Nat))) = true
        rw [List.length_map, c2, decide_eq_false fun e => z (by injection e with e; omega)]
        rfl
    have eb := rowB_all (cs := cs.map (·.2)) (xs := xs) (by rw [List.length_map]; exact len)
    rw [eb] at q
    have lz : (xs.zip (cs.map (·.2))).length = xs.length := by
      rw [List.length_zip, List.length_map, len, Nat.min_self]
    generalize hbs : ((xs.zip (cs.map (·.2))).map fun p => okV p.2 p.1) = bs at q
    have lb : bs.length = xs.length := by
      rw [← hbs, List.length_map, lz]
    refine ⟨_, rfl, _, rfl, a, cols, xs, _, rfl, .inr ⟨h, c1, fun D hD => ?_⟩⟩
    refine lc_it (walk_zipT (n := xs.length) (by rw [List.length_map, c2, len, Nat.min_self])) (fun i H' => Same H H' ∧ H' D = some (.lst ((bs.take i).map V.bl))) ⟨same_upd hD, upd_same⟩ (fun i H' _ z => ⟨Same.sqT z.1 h, Same.sqT z.1 c1⟩) ?_ ?_
    · rintro i v H2 H3 hi ⟨sm, eD⟩ ⟨T, x, y, rfl, nT, rfl, ex, ey⟩
      replace ex : xs[i]? = some x := ex
      replace ey : (as.map V.ref)[i]? = some y := ey
      rw [List.getElem?_map] at ey
      obtain ⟨ac, eac, rfl⟩ := Option.map_eq_some_iff.mp ey
      have s3 := same_upd (o := .tup [x, .ref ac]) nT
      have hc : i < cs.length := by omega
      have ecs : cs[i]? = some cs[i] := List.getElem?_eq_getElem hc
      have col := Same.sqT s3 (Same.sqT sm (c3 i ac _ eac ecs))
      have hb : i < bs.length := by omega
      have eb2 : bs[i] = okV (cs[i]).2 x := by
        have e1 : bs[i]? = some (okV (cs[i]).2 x) := by
          rw [← hbs, List.getElem?_map, show (xs.zip (cs.map (·.2)))[i]? = some (x, (cs[i]).2) from List.getElem?_zip_eq_some.mpr ⟨ex, by rw [List.getElem?_map, ecs] <;> rfl⟩] <;> rfl
        rw [List.getElem?_eq_getElem hb] at e1
        exact Option.some.inj e1
      refine ⟨T, _, rfl, SqT.of upd_same, rfl, _, _, rfl, _, _, rfl, rfl, rfl, _, rfl, _, rfl, ac, _, 1, _, rfl, rfl, col, rfl, x, (cs[i]).2, rfl, fl x (List.mem_of_getElem? ex), ?_⟩
      refine ⟨_, s3 _ _ eD, Nat.lt_of_lt_of_le (show ((bs.take i).map V.bl).length < 64 by rw [List.length_map, List.length_take]; omega) (by decide), fun b o e => ?_, ?_⟩
      · rw [upd_ne (ne_of_none e hD)]
        exact s3 _ _ (sm _ _ e)
      · rw [upd_same, List.take_succ_eq_append_getElem hb, eb2, List.map_append]
        rfl
    · rintro H2 ⟨sm, eD⟩
      rw [List.take_of_length_le (by omega)] at eD
      exact ⟨D, bs, rfl, SqL.of eD, q _ sm⟩
end
section
variable {P : Program} {w : World} {K : PySem.W.Frag} {mg : Str → Option Value} {base : Heap}
/-- a list or a tuple of things -/
def ThsAt (K : PySem.W.Frag) (H : Hp) (a : Addr) (ts : List Th) : Prop := ∃ xs : List V, (SqL K H a xs ∨ SqT K H a xs) ∧ xs.length = ts.length ∧ ∀ (i : Nat) (x : V) (t : Th), xs[i]? = some x → ts[i]? = some t → ThAt K H x t
theorem ThsAt.same {H H' : Hp} {a : Addr} {ts : List Th} (T : ThsAt K H a ts) (h : Same H H') : ThsAt K H' a ts := by
  obtain ⟨xs, h1, h2, h3⟩ := T
  exact ⟨xs, h1.elim (fun z => .inl (Same.sqL h z)) (fun z => .inr (Same.sqT h z)), h2, fun i x t e1 e2 => ThAt.same h (h3 i x t e1 e2)⟩
theorem kit_two {K : PySem.W.Frag} {t : Value} (h : PySem.W.kitOne K t (.type "list") = some true ∨ (PySem.W.kitOne K t (.type "list") = some false ∧ PySem.W.kitOne K t (.type "tuple") = some true)) : PySem.W.kitAny K t [.type "list", .type "tuple"] = some true := by
  unfold PySem.W.kitAny
  rcases h with h | ⟨h, h2⟩
  · rw [h]
  · rw [h]
    show PySem.W.kitAny K t [.type "tuple"] = some true
    unfold PySem.W.kitAny
    rw [h2]
def spAreRows (K : PySem.W.Frag) : Sp := fun vs H Q _ => ∃ (a : Addr) (ts : List Th) (cols : Addr) (cs : List (Str × Str)), vs = [.ref a, .ref cols] ∧ ThsAt K H a ts ∧ ts.length < 64 ∧ ColsT K H cols cs ∧ cs.length < 64 ∧ ∀ H', Same H H' → Q (.bl (ts.all (rowB (cs.map (·.2))))) H'
abbrev N_arerows : List Str := ["thing", "columns", "row"]
theorem sc_arerows : FnScope N_arerows ["thing", "columns"] (defScope sAreRows) := ⟨rfl, rfl, rfl, by decide +kernel, rfl, by decide +kernel, by decide +kernel⟩
theorem ok_arerows {f : Addr} {fd : FuncData} (F : Fun K "are_rows" "are_rows" sAreRows f fd) (m_isinstance : mg "isinstance" = none) (m_tuple : mg "tuple" = none) (m_list : mg "list" = none) (m_all : mg "all" = none)
    (G_is_row : Ready P w K mg base 2 "is_row" ["thing", "columns"] (spIsRow K)) : FnOk P w K mg base CX0 3 f fd ["thing", "columns"] (spAreRows K) := by
  refine F.ok sc_arerows (fun vs H Q E h => ?_) (fun cdv A outer s H vs Q E hr h => ?_)
  · obtain ⟨a, ts, cols, cs, rfl, _⟩ := h
    rfl
  obtain ⟨a, ts, cols, cs, rfl, ⟨xs, hS, hl, ht⟩, h64, C, c64, q⟩ := h
  have nd := sc_arerows.nd
  refine ⟨_, pss_one (ps_ret (pe_and (pe_callB call_isiT (by rfl) m_isinstance PyProof.Rows.boot_isinstance (pa_cons (pv 0) (pa_cons (pe_tup (pa_cons (pe_bltn (v := .ty "list") (by rfl) m_list PyProof.Rows.boot_list rfl) (pa_cons (pe_bltn (v := .ty "tuple") (by rfl) m_tuple PyProof.Rows.boot_tuple rfl) pa_nil))) pa_nil))) (pe_one (pe_callB (cr_all rfl) (by rfl) m_all PyProof.Rows.boot_all (pa_cons (pe_lc (own := [("row", 2)]) (g := gName 2) (tt := tYes) rfl nd (pi_or (pi_list (pv 0)) (pi_tup (pv 0))) (blkOk_by (N := N_arerows) (sc := defScope sAreRows) (by decide +kernel)) (fun _ _ _ _ _ => pg_name (i := 2) nd rfl (Or.inl rfl)) (fun _ _ _ _ _ => pts_nil) (fun _ _ _ _ _ => (pe_fn (G_is_row) (hr.mono (by decide)) (pa_cons (pv 2) (pa_cons (pv 1) pa_nil))))) pa_nil))))), ?_⟩
  have z2 : 2 ≤ sizeLine := by decide
  refine ⟨_, rfl, z2, fun p hp => ?_⟩
  have s1 := same_upd (o := .tup [.ty "list", .ty "tuple"]) hp
  generalize hbs : ts.map (rowB (cs.map (·.2))) = bs
  have qb : ts.all (rowB (cs.map (·.2))) = bs.all id := by
    rw [← hbs, List.all_map]
    rfl
  rw [qb] at q
  have lb : bs.length = ts.length := by rw [← hbs, List.length_map]
  have ty : ∃ T, TyX K (upd H p (.tup [.ty "list", .ty "tuple"])) (.ref a) (.type T) ∧ PySem.W.kitAny K (.type T) [.type "list", .type "tuple"] = some true := by
    rcases hS with h | h
    · exact ⟨"list", ty_lst (Same.sqL s1 h), kit_two (.inl (kit_ty (by decide +kernel)))⟩
    · exact ⟨"tuple", ty_tup (Same.sqT s1 h), kit_two (.inr ⟨kit_ty (by decide +kernel), kit_ty (by decide +kernel)⟩)⟩
  obtain ⟨T, tT, kT⟩ := ty
  refine ⟨.ref a, p, [.ty "list", .ty "tuple"], .type T, [.type "list", .type "tuple"], true, rfl, upd_same, .cons (.ty _) (.cons (.ty _) .nil), tT, kT, _, rfl, ?_⟩
  -- one turn of the walk
  have step : ∀ (D : Addr), (upd H p (.tup [.ty "list", .ty "tuple"])) D = none → ∀ (i : Nat) (x : V) (H2 : Hp), i < xs.length → xs[i]? = some x → Same H H2 → H2 D = some (.lst ((bs.take i).map V.bl)) →
      spIsRow K [x, .ref cols] H2 (fun y H4 => ∃ acc, H4 D = some (.lst acc) ∧ acc.length < sizeLine ∧ (Same H (upd H4 D (.lst (acc ++ [y]))) ∧ (upd H4 D (.lst (acc ++ [y]))) D = some (.lst ((bs.take (i + 1)).map V.bl)))) E0 := by
    intro D hD i x H2 hi ex sm eD
    have hit : i < ts.length := by omega
    have et : ts[i]? = some ts[i] := List.getElem?_eq_getElem hit
    have hb : i < bs.length := by omega
    have eb : bs[i] = rowB (cs.map (·.2)) ts[i] := by
      have e1 : bs[i]? = some (rowB (cs.map (·.2)) ts[i]) := by
        rw [← hbs, List.getElem?_map, et] <;> rfl
      rw [List.getElem?_eq_getElem hb] at e1
      exact Option.some.inj e1
    refine ⟨x, ts[i], cols, cs, rfl, ThAt.same sm (ht i x _ ex et), C.same sm, c64, fun H4 s4 => ⟨_, s4 _ _ eD, Nat.lt_of_lt_of_le (show ((bs.take i).map V.bl).length < 64 by rw [List.length_map, List.length_take]; omega) (by decide), fun b o e => ?_, ?_⟩⟩
    · rw [upd_ne (ne_of_none (s1 _ _ e) hD)]
      exact s4 _ _ (sm _ _ e)
    · rw [upd_same, List.take_succ_eq_append_getElem hb, eb, List.map_append]
      rfl
  have fin : ∀ (D : Addr) (H2 : Hp), Same H H2 ∧ H2 D = some (.lst ((bs.take xs.length).map V.bl)) → rAll K [.ref D] H2 Q := by
    rintro D H2 ⟨sm, eD⟩
    rw [List.take_of_length_le (by omega)] at eD
    exact ⟨D, bs, rfl, SqL.of eD, q _ sm⟩
  rcases hS with h | h
  · refine .inl ⟨_, rfl, a, rfl, ⟨_, Same.sqL s1 h⟩, fun D hD => lc_list (K := K) (xs := xs) (fun i H' => Same H H' ∧ H' D = some (.lst ((bs.take i).map V.bl))) ⟨s1.trans (same_upd hD), upd_same⟩ (fun i H' _ z => Same.sqL z.1 h) ?_ (fin D)⟩
    rintro i x H2 ex ⟨sm, eD⟩
    exact ⟨rfl, _, rfl, _, rfl, step D hD i x H2 (List.getElem?_eq_some_iff.mp ex).1 ex sm eD⟩
  · refine .inr ⟨_, rfl, a, rfl, ⟨_, Same.sqT s1 h⟩, fun D hD => lc_tup (K := K) (xs := xs) (fun i H' => Same H H' ∧ H' D = some (.lst ((bs.take i).map V.bl))) ⟨s1.trans (same_upd hD), upd_same⟩ (fun i H' _ z => Same.sqT z.1 h) ?_ (fin D)⟩
    rintro i x H2 ex ⟨sm, eD⟩
    exact ⟨rfl, _, rfl, _, rfl, step D hD i x H2 (List.getElem?_eq_some_iff.mp ex).1 ex sm eD⟩
end
end Kx

namespace Kx
open PySem PySem.Spec PyProof.Rows L2 TL
abbrev s_is_column : Stmt := topS 34
abbrev s_are_columns : Stmt := topS 35
abbrev s_has_text : Stmt := topS 36
/-! ### has_text -/
def absI (i : Int) : Int := if i < 0 then -i else i
def hasT : Vl → Bool
  | .num i => decide (((Str.ofString (toString (absI i))).length : Int) ≤ 18)
  | .quo z => decide (34 ∉ tl z) && decide (10 ∉ tl z)
def SmlV : Vl → Prop
  | .num i => i.natAbs < 2 ^ 64
  | .quo z => z.length ≤ 100
theorem log_sml {i : Int} (h : i.natAbs < 2 ^ 64) : i.natAbs.log2 < 1920 := by
  by_cases h0 : i.natAbs = 0
  · rw [h0]
    decide
  · exact Nat.lt_trans ((Nat.log2_lt h0).mpr h) (by decide)
theorem abs_nat (i : Int) : (absI i).natAbs = i.natAbs := by
  unfold absI
  split <;> omega
theorem abs_cast (i : Int) : absI i = (i.natAbs : Int) := by
  unfold absI
  split <;> omega
theorem num_len {n : Nat} (h : n < 2 ^ 64) : (numZ (n : Int)).length ≤ 20 := by
  rw [len_tl, show tl (numZ (n : Int)) = numL n from tl_num n]
  exact numL_len (by decide) (Nat.lt_trans h (by decide))
section
variable {P : Program} {w : World} {K : PySem.W.Frag} {mg : Str → Option Value} {base : Heap}
def spHasT : Sp := fun vs H Q _ => ∃ x : Vl, vs = [vlV x] ∧ SmlV x ∧ Q (.bl (hasT x)) H
theorem sc_hast : FnScope ["value"] ["value"] (defScope s_has_text) := ⟨rfl, rfl, rfl, by decide +kernel, rfl, by decide +kernel, by decide +kernel⟩
theorem ok_hast {f : Addr} {fd : FuncData} (F : Fun K "has_text" "has_text" s_has_text f fd) (m_isinstance : mg "isinstance" = none) (m_str : mg "str" = none) (m_len : mg "len" = none) (m_abs : mg "abs" = none) (m_M : ∃ t, mg "MOST_FIGURES" = some (.int 18 t)) : FnOk P w K mg base CX0 1 f fd ["value"] spHasT := by
  refine F.ok sc_hast (fun vs H Q E h => ?_) (fun cdv A outer s H vs Q E hr h => ?_)
  · obtain ⟨x, rfl, _⟩ := h
    rfl
  obtain ⟨x, rfl, hx, q⟩ := h
  obtain ⟨tM, m_M⟩ := m_M
  refine ⟨_, pss_cons (ps_if (pt_val (pe_callB call_isi (by rfl) m_isinstance PyProof.Rows.boot_isinstance (pa_cons (pv 0) (pa_cons (pe_bltn (v := .ty "str") (by rfl) m_str PyProof.Rows.boot_str rfl) pa_nil)))) (pss_one (ps_ret (pe_and (pe_cmpR op_notIn_sign pe_str (pv 0) rfl) (pe_one (pe_cmpR op_notIn_sign pe_str (pv 0) rfl))))) (pss_nil))
      (pss_one (ps_ret (pe_cmpR op_le (pe_callB call_len_str (by rfl) m_len PySem.boot_len (pa_cons (pe_callTy call_str_int (by rfl) m_str PyProof.Rows.boot_str (pa_cons (pe_callB call_abs (by rfl) m_abs (by decide +kernel) (pa_cons (pv 0) pa_nil)) pa_nil)) pa_nil)) (pe_glob (v := .int 18) rfl m_M ⟨_, rfl⟩) (nomark _)))), ?_⟩
  cases x with
  | num i =>
    have hx : i.natAbs < 2 ^ 64 := hx
    have hlen : (numZ (absI i)).length ≤ 20 := by
      rw [abs_cast]
      exact num_len hx
    exact ⟨_, rfl, _, _, _, _, false, rfl, .ty _, .base (.int i), kit_ty (by decide +kernel : kitB "int" "str" = some false), _, rfl, ifF_ rfl ⟨_, rfl, i, rfl, absI i, rfl, by rw [abs_nat]; exact log_sml hx, _, rfl, Nat.le_trans hlen (by decide), _, _, rfl, rfl, q⟩⟩
  | quo z =>
    have e34 : V.str ("\"" : Str) = V.str ⟨#[34]⟩ := congrArg V.str (by decide +kernel)
    have e10 : V.str ("\n" : Str) = V.str ⟨#[10]⟩ := congrArg V.str (by decide +kernel)
    have q : Q (.bl (decide (34 ∉ tl z) && decide (10 ∉ tl z))) H := q
    refine ⟨_, rfl, _, _, _, _, true, rfl, .ty _, .base (.str z), kit_ty (by decide +kernel : kitB "str" "str" = some true), _, rfl, ifT_ rfl ?_⟩
    have dn : ∀ c : Nat, (!decide (c ∈ z.cps.toList)) = decide (c ∉ tl z) := fun c => by
      by_cases h : c ∈ tl z
      · rw [decide_eq_true (show c ∈ z.cps.toList from h), decide_eq_false (fun k => k h)]
        rfl
      · rw [decide_eq_false (show ¬ c ∈ z.cps.toList from h), decide_eq_true h]
        rfl
    refine ⟨_, rfl, 34, z, e34, rfl, _, rfl, ?_⟩
    rw [dn]
    by_cases h : 34 ∉ tl z
    · rw [decide_eq_true h] at q ⊢
      rw [Bool.true_and] at q
      refine ifT_ rfl ⟨_, rfl, 10, z, e10, rfl, ?_⟩
      rw [dn]
      exact q
    · rw [decide_eq_false h] at q ⊢
      exact ifF_ rfl q
/-! ### is_column -/
def colB (p : Str × Str) : Bool := isNm p.1 && decide (p.2 ∈ (["int", "text"] : List Str))
def spIsCol (K : PySem.W.Frag) : Sp := fun vs H Q _ => ∃ (a : Addr) (p : Str × Str), vs = [.ref a] ∧ SqT K H a [.str p.1, .str p.2] ∧ p.1.length ≤ 1000 ∧ ∀ H', Same H H' → Q (.bl (colB p)) H'
theorem sc_iscol : FnScope ["thing"] ["thing"] (defScope s_is_column) := ⟨rfl, rfl, rfl, by decide +kernel, rfl, by decide +kernel, by decide +kernel⟩
theorem ok_iscol {f : Addr} {fd : FuncData} (F : Fun K "is_column" "is_column" s_is_column f fd) (m_isinstance : mg "isinstance" = none) (m_tuple : mg "tuple" = none) (m_len : mg "len" = none) (G_nm : Ready P w K mg base 3 "is_name" ["thing"] spIsNm) : FnOk P w K mg base CX0 4 f fd ["thing"] (spIsCol K) := by
  refine F.ok sc_iscol (fun vs H Q E h => ?_) (fun cdv A outer s H vs Q E hr h => ?_)
  · obtain ⟨a, p, rfl, _⟩ := h
    rfl
  obtain ⟨a, p, rfl, h1, hl, q⟩ := h
  have hr3 : Room 3 _ := hr
  refine ⟨_, pss_one (ps_ret (pe_and (pe_callB call_isi (by rfl) m_isinstance PyProof.Rows.boot_isinstance (pa_cons (pv 0) (pa_cons (pe_bltn (v := .ty "tuple") (by rfl) m_tuple PyProof.Rows.boot_tuple rfl) pa_nil))) (pe_and (pe_cmpR op_eq (pe_callB call_len_seq (by rfl) m_len PySem.boot_len (pa_cons (pv 0) pa_nil)) pe_int (nomark _)) (pe_and (pe_fn G_nm hr3 (pa_cons (pe_ix ix_tup (pv 0) pe_int (fun _ _ => rfl)) pa_nil)) (pe_one (pe_cmpR op_in_seq (pe_ix ix_tup (pv 0) pe_int (fun _ _ => rfl)) (pe_tup (pa_cons pe_str (pa_cons pe_str pa_nil))) (by with_unfolding_all rfl))))))), ?_⟩
  refine ⟨_, rfl, _, _, _, _, true, rfl, .ty _, ty_tup h1, kit_ty (by decide +kernel : kitB "tuple" "tuple" = some true), _, rfl, ifT_ rfl ⟨_, rfl, a, _, rfl, .inr h1, rfl, _, rfl, ifT_ (decide_eq_true rfl) ⟨_, rfl, a, _, 0, _, rfl, rfl, h1, rfl, p.1, rfl, Nat.le_trans hl (by decide), _, rfl, ?_⟩⟩⟩
  unfold colB at q
  by_cases h : isNm p.1 = true
  · rw [h] at q ⊢
    refine ifT_ rfl ⟨_, rfl, a, _, 1, _, rfl, rfl, h1, rfl, by show 2 ≤ sizeLine; decide, fun t ht => ⟨t, _, rfl, .inr (SqT.of upd_same), rfl, flat_strs ["int", "text"], ?_⟩⟩
    rw [if_neg Bool.false_ne_true]
    rw [show ([V.str "int", V.str "text"] : List V) = (["int", "text"] : List Str).map V.str from rfl, inV_str]
    exact q _ (same_upd ht)
  · rw [Bool.eq_false_iff.mpr h] at q ⊢
    exact ifF_ rfl (q _ (Same.refl _))
/-! ### are_columns -/
def colsB (cs : List (Str × Str)) : Bool := (decide (1 ≤ cs.length) && decide (cs.length ≤ 60)) && cs.all colB
def spAreCols (K : PySem.W.Frag) : Sp := fun vs H Q _ => ∃ (c : Addr) (cxs : List V) (cs : List (Str × Str)), vs = [.ref c] ∧ SqT K H c cxs ∧ Paired (ColK K H) cxs cs ∧ cs.length ≤ 100 ∧ (∀ p ∈ cs, p.1.length ≤ 1000) ∧ ∀ H', Same H H' → Q (.bl (colsB cs)) H'
abbrev N_are_columns : List Str := ["thing", "column"]
theorem sc_arecols : FnScope N_are_columns ["thing"] (defScope s_are_columns) := ⟨rfl, rfl, rfl, by decide +kernel, rfl, by decide +kernel, by decide +kernel⟩
theorem ok_arecols {f : Addr} {fd : FuncData} (F : Fun K "are_columns" "are_columns" s_are_columns f fd) (m_isinstance : mg "isinstance" = none) (m_tuple : mg "tuple" = none) (m_list : mg "list" = none) (m_len : mg "len" = none) (m_all : mg "all" = none) (m_M : ∃ t, mg "MOST_COLUMNS" = some (.int 60 t)) (G_col : Ready P w K mg base 4 "is_column" ["thing"] (spIsCol K)) : FnOk P w K mg base CX0 5 f fd ["thing"] (spAreCols K) := by
  refine F.ok sc_arecols (fun vs H Q E h => ?_) (fun cdv A outer s H vs Q E hr h => ?_)
  · obtain ⟨c, cxs, cs, rfl, _⟩ := h
    rfl
  obtain ⟨c, cxs, cs, rfl, h1, h2, hl, hw, q⟩ := h
  obtain ⟨tM, m_M⟩ := m_M
  have nd := sc_arecols.nd
  have hr4 : Room 4 _ := hr
  refine ⟨_, pss_cons (ps_if (PW.pt (pw_or (pt_not (pt_val (pe_callB call_isiT (by rfl) m_isinstance PyProof.Rows.boot_isinstance (pa_cons (pv 0) (pa_cons (pe_tup (pa_cons (pe_bltn (v := .ty "list") (by rfl) m_list PyProof.Rows.boot_list rfl) (pa_cons (pe_bltn (v := .ty "tuple") (by rfl) m_tuple PyProof.Rows.boot_tuple rfl) pa_nil))) pa_nil))))) (pw_or1 (pt_not (pt_chain op_le op_le pe_int (pe_callB call_len_seq (by rfl) m_len PySem.boot_len (pa_cons (pv 0) pa_nil)) (pe_glob (v := .int 60) rfl m_M ⟨_, rfl⟩)))))) (pss_one (ps_ret pe_bl)) (pss_nil))
      (pss_one (ps_ret (pe_callB (cr_all rfl) (by rfl) m_all PyProof.Rows.boot_all (pa_cons (pe_lc (own := [("column", 1)]) (g := gName 1) (tt := tYes) rfl nd (pi_tup (pv 0)) (blkOk_by (N := N_are_columns) (sc := defScope s_are_columns) (by decide +kernel)) (fun _ _ _ _ _ => pg_name (i := 1) nd rfl (Or.inl rfl)) (fun _ _ _ _ _ => pts_nil) (fun _ _ _ _ _ => (pe_fn G_col hr4 (pa_cons (pv 1) pa_nil)))) pa_nil)))), ?_⟩
  have z2 : 2 ≤ sizeLine := by decide
  have hc := Paired.length h2
  refine ⟨_, rfl, z2, fun p hp => ?_⟩
  have s1 := same_upd (o := .tup [.ty "list", .ty "tuple"]) hp
  have u1 : upd H p (.tup [.ty "list", .ty "tuple"]) p = some (.tup [.ty "list", .ty "tuple"]) := upd_same
  generalize upd H p (.tup [.ty "list", .ty "tuple"]) = H1 at s1 u1 ⊢
  have h1' := Same.sqT s1 h1
  refine ⟨.ref c, p, [.ty "list", .ty "tuple"], .type "tuple", [.type "list", .type "tuple"], true, rfl, u1, .cons (.ty _) (.cons (.ty _) .nil), ty_tup h1', kit_two (.inr ⟨kit_ty (by decide +kernel), kit_ty (by decide +kernel)⟩), _, rfl, ifF_ rfl ?_⟩
  refine ⟨_, rfl, c, cxs, rfl, .inr h1', _, _, rfl, rfl, _, rfl, ?_⟩
  have d1 : decide ((1 : Int) ≤ (cxs.length : Nat)) = decide (1 ≤ cs.length) := decide_eq_decide.mpr (by omega)
  have d2 : decide (((cxs.length : Nat) : Int) ≤ 60) = decide (cs.length ≤ 60) := decide_eq_decide.mpr (by omega)
  unfold colsB at q
  by_cases g1 : 1 ≤ cs.length
  · rw [decide_eq_true g1] at q
    refine ifT_ (d1.trans (decide_eq_true g1)) ⟨_, _, rfl, rfl, _, rfl, ?_⟩
    rw [d2]
    by_cases g2 : cs.length ≤ 60
    · rw [decide_eq_true g2] at q ⊢
      rw [Bool.true_and, Bool.true_and] at q
      refine ifF_ rfl ⟨_, rfl, c, rfl, ⟨_, h1'⟩, fun D hD => ?_⟩
      refine lc_it (walk_tup (xs := cxs)) (fun j H' => Same H1 H' ∧ H' D = some (.lst ((((cs.map colB).take j)).map V.bl))) ⟨same_upd hD, upd_same⟩ (fun j H' _ ⟨b, _⟩ => Same.sqT b h1') ?_ ?_
      · rintro j v H3 H4 hj ⟨b3, e3⟩ ⟨rfl, hv⟩
        obtain ⟨x, hx, a, rfl, ha⟩ := paired_at h2 hv
        refine ⟨rfl, _, rfl, a, x, rfl, Same.sqT (s1.trans b3) ha, hw x (List.mem_of_getElem? hx), fun H5 s5 => ⟨_, s5 _ _ e3, ?_, fun b o e => ?_, ?_⟩⟩
        · refine Nat.lt_of_le_of_lt (show _ ≤ 100 from ?_) (by decide)
          rw [List.length_map, List.length_take, List.length_map]
          omega
        · rw [upd_ne (ne_of_none e hD)]
          exact s5 _ _ (b3 b o e)
        · rw [List.take_add_one, List.getElem?_map, hx, List.map_append]
          exact upd_same
      · rintro H3 ⟨b3, e3⟩
        rw [hc, List.take_of_length_le (by rw [List.length_map]; exact Nat.le_refl _)] at e3
        have ea : (cs.map colB).all id = cs.all colB := by
          rw [List.all_map]
          rfl
        rw [← ea] at q
        exact ⟨D, _, rfl, SqL.of e3, q H3 (s1.trans b3)⟩
    · rw [decide_eq_false g2] at q ⊢
      exact ifT_ rfl (q _ s1)
  · rw [decide_eq_false g1] at q
    exact ifF_ (d1.trans (decide_eq_false g1)) ⟨_, rfl, ifT_ rfl (q _ s1)⟩
end
end Kx

namespace Kx
open PySem PySem.Spec PyProof.Rows L2 TL
abbrev s_table_text : Stmt := topS 39
/-! ### table_text -/
def RowK (K : PySem.W.Frag) (H : Hp) (v : V) (r : List Vl) : Prop := ∃ t, v = .ref t ∧ SqT K H t (r.map vlV)
def rowsB (cs : List (Str × Str)) (rows : List (List Vl)) : Bool := (rows.map fun r => Th.tup (r.map vlV)).all (rowB (cs.map (·.2)))
def ttB (nm : Str) (cs : List (Str × Str)) (rows : List (List Vl)) : Bool := isNm nm && (colsB cs && (rowsB cs rows && rows.all fun r => r.all hasT))
def tabT (nm : Str) (cs : List (Str × Str)) (rows : List (List Vl)) : Str := Txt.join "\n" (hdT nm cs :: rows.map rowT)
theorem joinL_len (s : List Nat) : ∀ ps : List (List Nat), (joinL s ps).length ≤ (ps.map List.length).sum + ps.length * s.length
  | [] => Nat.zero_le _
  | [p] => by simp [joinL]
  | p :: q :: r => by
    have := joinL_len s (q :: r)
    show (p ++ (s ++ joinL s (q :: r))).length ≤ _
    simp only [List.length_append, List.length_cons, List.map_cons, List.sum_cons, Nat.succ_mul] at this ⊢
    omega
theorem txt_len (s : Str) (ws : List Str) {c : Nat} (h : ∀ z ∈ ws, z.length ≤ c) : (Txt.join s ws).length ≤ ws.length * c + ws.length * s.length := by
  rw [join_eq, len_tl, tl_join]
  refine Nat.le_trans (joinL_len _ _) ?_
  rw [List.map_map, List.length_map, ← len_tl]
  have := sum_le (g := fun z : Str => (tl z).length) (c := c) (l := ws) (fun z hz => by rw [← len_tl]; exact h z hz)
  exact Nat.add_le_add_right this _
theorem vlT_len {x : Vl} (h : SmlV x) : (vlT x).length ≤ 200 := by
  cases x with
  | num i =>
    have h : i.natAbs < 2 ^ 64 := h
    show (numZ i).length ≤ 200
    by_cases c : i < 0
    · have e : i = -((i.natAbs : Nat) : Int) := by omega
      have h20 := numL_len (k := 20) (by decide) (Nat.lt_trans h (by decide))
      have et : tl (numZ i) = 45 :: numL i.natAbs := by
        rw [e, show (-((i.natAbs : Nat) : Int)).natAbs = i.natAbs by omega]
        obtain ⟨m, hm⟩ : ∃ m, i.natAbs = m + 1 := ⟨i.natAbs - 1, by omega⟩
        rw [hm]
        have e1 : (toString (-((m + 1 : Nat) : Int)) : String) = "-" ++ Nat.repr (m + 1) := rfl
        have e2 : (toString (((m + 1 : Nat)) : Int) : String) = Nat.repr (m + 1) := rfl
        have h2 := tl_num (m + 1)
        unfold numZ
        rw [e1, tl_ofString, String.toList_append, List.map_append]
        rw [e2, tl_ofString] at h2
        rw [h2]
        rfl
      rw [len_tl, et, List.length_cons]
      omega
    · have e : i = ((i.natAbs : Nat) : Int) := by omega
      rw [e]
      exact Nat.le_trans (num_len h) (by decide)
  | quo z =>
    have h : z.length ≤ 100 := h
    show ("\"" ++ z ++ "\"" : Str).length ≤ 200
    rw [len2', len2', show ("\"" : Str).length = 1 by decide +kernel]
    omega
section
variable {P : Program} {w : World} {K : PySem.W.Frag} {mg : Str → Option Value} {base : Heap}
def spTT (K : PySem.W.Frag) (C : Addr) : Sp := fun vs H Q E => ∃ (nm : Str) (c : Addr) (cxs : List V) (cs : List (Str × Str)) (a : Addr) (rxs : List V) (rows : List (List Vl)), vs = [.str nm, .ref c, .ref a] ∧ nm.length ≤ 100 ∧ SqT K H c cxs ∧ Paired (ColK K H) cxs cs ∧ cs.length ≤ 61 ∧ (∀ p ∈ cs, p.1.length ≤ 100 ∧ p.2.length ≤ 10) ∧ (SqL K H a rxs ∨ SqT K H a rxs) ∧ Paired (RowK K H) rxs rows ∧ rows.length ≤ 60 ∧ (∀ r ∈ rows, r.length ≤ 100 ∧ ∀ x ∈ r, SmlV x) ∧
  (ttB nm cs rows = true → ∀ H', Same H H' → Q (.str (tabT nm cs rows)) H') ∧ (ttB nm cs rows = false → ∀ v d H', Same H H' → H' d = none → E (.ref C) (some d) (upd H' d (.xd [("thing", v)])))
abbrev N_table_text : List Str := ["name", "columns", "rows", "row", "value"]
theorem sc_tt : FnScope N_table_text ["name", "columns", "rows"] (defScope s_table_text) := ⟨rfl, rfl, rfl, by decide +kernel, rfl, by decide +kernel, by decide +kernel⟩
theorem RowK.same {H H' : Hp} (s : Same H H') {v : V} {r : List Vl} (h : RowK K H v r) : RowK K H' v r := by
  obtain ⟨t, e, h⟩ := h
  exact ⟨t, e, Same.sqT s h⟩
theorem ColK.same {H H' : Hp} (s : Same H H') {v : V} {p : Str × Str} (h : ColK K H v p) : ColK K H' v p := by
  obtain ⟨t, e, h⟩ := h
  exact ⟨t, e, Same.sqT s h⟩
theorem vl_flat (x : Vl) : Flat (vlV x) := by
  cases x with
  | num i => exact .int i
  | quo z => exact .str z
theorem paired_map {A : Type} {Q : V → A → Prop} {xs : List V} {as : List A} (h : Paired Q xs as) {i : Nat} {x : V} {a : A} (hx : xs[i]? = some x) (ha : as[i]? = some a) : Q x a := by
  obtain ⟨b, hb, q⟩ := paired_at h hx
  rw [ha] at hb
  cases hb
  exact q
theorem cols_of {H : Hp} {c : Addr} {cxs : List V} {cs : List (Str × Str)} (h1 : SqT K H c cxs) (h2 : Paired (ColK K H) cxs cs) : ColsT K H c cs := by
  have : ∃ as : List Addr, cxs = as.map V.ref ∧ ∀ (i : Nat) (a : Addr) (c : Str × Str), as[i]? = some a → cs[i]? = some c → SqT K H a [.str c.1, .str c.2] := by
    clear h1
    induction h2 with
    | nil => exact ⟨[], rfl, fun i a c h => by cases h⟩
    | cons h _ ih =>
      obtain ⟨as, e, q⟩ := ih
      obtain ⟨a, rfl, ha⟩ := h
      refine ⟨a :: as, by rw [e]; rfl, fun i a' c' h1 h2 => ?_⟩
      cases i with
      | zero =>
        cases h1
        cases h2
        exact ha
      | succ i => exact q i a' c' h1 h2
  obtain ⟨as, e, q⟩ := this
  refine ⟨as, by rw [← e]; exact h1, ?_, q⟩
  have := Paired.length h2
  rw [e, List.length_map] at this
  exact this
theorem ths_of {H : Hp} {a : Addr} {rxs : List V} {rows : List (List Vl)} (h1 : SqL K H a rxs ∨ SqT K H a rxs) (h2 : Paired (RowK K H) rxs rows) : ThsAt K H a (rows.map fun r => Th.tup (r.map vlV)) := by
  refine ⟨rxs, h1, by rw [List.length_map]; exact Paired.length h2, fun i x t e1 e2 => ?_⟩
  rw [List.getElem?_map] at e2
  obtain ⟨r, hr, rfl⟩ := Option.map_eq_some_iff.mp e2
  obtain ⟨b, rfl, hb⟩ := paired_map h2 e1 hr
  exact ⟨b, rfl, hb, fun y hy => by
    obtain ⟨z, _, rfl⟩ := List.mem_map.mp hy
    exact vl_flat z⟩
theorem ok_tt {g C fI : Addr} {fd : FuncData} (F : Fun K "table_text" "table_text" s_table_text g fd) (T : PySem.BadX.BadTxt K mg C fI) (m_all : mg "all" = none) (G_nm : Ready P w K mg base 3 "is_name" ["thing"] spIsNm) (G_cols : Ready P w K mg base 5 "are_columns" ["thing"] (spAreCols K)) (G_rows : Ready P w K mg base 3 "are_rows" ["thing", "columns"] (spAreRows K)) (G_hast : Ready P w K mg base 1 "has_text" ["value"] spHasT) (G_head : Ready P w K mg base 1 "table_head" ["name", "columns"] (spHdT K)) (G_rowt : Ready P w K mg base 2 "row_text" ["row"] (spRowT K)) : FnOk P w K mg base (L2.CX P w) 6 g fd ["name", "columns", "rows"] (spTT K C) := by
  refine F.okX sc_tt (fun vs H Q E h => ?_) (fun cdv A outer s H vs Q E hr h => ?_)
  · obtain ⟨nm, c, cxs, cs, a, rxs, rows, rfl, _⟩ := h
    rfl
  obtain ⟨nm, c, cxs, cs, a, rxs, rows, rfl, hnm, hc1, hc2, hcl, hcw, hr1, hr2, hrl, hrw, q, qe⟩ := h
  have nd := sc_tt.nd
  have r5 : Room 5 _ := hr
  have r3 : Room 3 _ := hr.mono (by decide)
  have r2 : Room 2 _ := hr.mono (by decide)
  have r1 : Room 1 _ := hr.mono (by decide)
  refine ⟨_, pss_cons (ps_if (pt_not (pt_val (pe_fn G_nm r3 (pa_cons (pv 0) pa_nil)))) (pss_one (ps_raiseBad rfl T r5 (takes_of rfl rfl rfl rfl) (pa_cons (pv 0) pa_nil))) pss_nil)
      (pss_cons (ps_if (pt_not (pt_val (pe_fn G_cols r5 (pa_cons (pv 1) pa_nil)))) (pss_one (ps_raiseBad rfl T r5 (takes_of rfl rfl rfl rfl) (pa_cons (pv 1) pa_nil))) pss_nil)
      (pss_cons (ps_if (pt_not (pt_val (pe_fn G_rows r3 (pa_cons (pv 2) (pa_cons (pv 1) pa_nil))))) (pss_one (ps_raiseBad rfl T r5 (takes_of rfl rfl rfl rfl) (pa_cons (pv 2) pa_nil))) pss_nil)
      (pss_cons (ps_for (passes_of rfl) rfl (pi_or (pi_list (pv 2)) (pi_tup (pv 2))) (pg_name (i := 3) nd rfl (.inl rfl)) (pss_one (ps_if (pt_not (pt_val (pe_callB (cr_all rfl) (by rfl) m_all PyProof.Rows.boot_all (pa_cons (pe_lc (own := [("value", 4)]) (g := gName 4) (tt := tYes) rfl nd (pi_tup (pv 3)) (blkOk_by (N := N_table_text) (sc := defScope s_table_text) (by decide +kernel)) (fun _ _ _ _ _ => pg_name (i := 4) nd rfl (Or.inl rfl)) (fun _ _ _ _ _ => pts_nil) (fun _ _ _ _ _ => (pe_fn G_hast r1 (pa_cons (pv 4) pa_nil)))) pa_nil)))) (pss_one (ps_raiseBad rfl T r5 (takes_of rfl rfl rfl rfl) (pa_cons (pv 3) pa_nil))) pss_nil)))
      (pss_one (ps_ret (pe_join pe_str (pe_op op_cat (pe_lst (pa_cons (pe_fn G_head r1 (pa_cons (pv 0) (pa_cons (pv 1) pa_nil))) pa_nil)) (pe_lc (own := [("row", 3)]) (g := gName 3) (tt := tYes) rfl nd (pi_or (pi_list (pv 2)) (pi_tup (pv 2))) (blkOk_by (N := N_table_text) (sc := defScope s_table_text) (by decide +kernel)) (fun _ _ _ _ _ => pg_name (i := 3) nd rfl (Or.inl rfl)) (fun _ _ _ _ _ => pts_nil) (fun _ _ _ _ _ => (pe_fn G_rowt r2 (pa_cons (pv 3) pa_nil))))))))))), ?_⟩
  unfold ttB at q qe
  refine ⟨_, rfl, nm, rfl, Nat.le_trans hnm (by decide), _, rfl, ?_⟩
  cases e1 : isNm nm with
  | false =>
    rw [e1] at qe
    exact ifT_ rfl ⟨_, rfl, _, rfl, fun d nd' => qe rfl _ d H (Same.refl _) nd'⟩
  | true =>
  rw [e1, Bool.true_and] at q qe
  refine ifF_ rfl ⟨_, rfl, c, cxs, cs, rfl, hc1, hc2, by omega, fun p hp => Nat.le_trans (hcw p hp).1 (by decide), fun H1 s1 => ⟨_, rfl, ?_⟩⟩
  cases e2 : colsB cs with
  | false =>
    rw [e2] at qe
    exact ifT_ rfl ⟨_, rfl, _, rfl, fun d nd' => qe rfl _ d H1 s1 nd'⟩
  | true =>
  rw [e2, Bool.true_and] at q qe
  have hc1' := Same.sqT s1 hc1
  have hc2' := Paired.mapP hc2 fun _ _ h => ColK.same s1 h
  have hr1' := hr1.imp (Same.sqL s1) (Same.sqT s1)
  have hr2' := Paired.mapP hr2 fun _ _ h => RowK.same s1 h
  refine ifF_ rfl ⟨_, rfl, _, rfl, a, _, c, cs, rfl, ths_of hr1' hr2', by rw [List.length_map]; omega, cols_of hc1' hc2', by omega, fun H2 s2 => ⟨_, rfl, ?_⟩⟩
  have S2 := s1.trans s2
  change ite ((!rowsB cs rows) = true) _ _
  cases e3 : rowsB cs rows with
  | false =>
    rw [e3] at qe
    exact ifT_ rfl ⟨_, rfl, _, rfl, fun d nd' => qe rfl _ d H2 S2 nd'⟩
  | true =>
  rw [e3, Bool.true_and] at q qe
  refine ifF_ rfl ?_
  have hc1'' := Same.sqT s2 hc1'
  have hc2'' := Paired.mapP hc2' fun _ _ h => ColK.same s2 h
  have hr1'' := hr1'.imp (Same.sqL s2) (Same.sqT s2)
  have hr2'' := Paired.mapP hr2' fun _ _ h => RowK.same s2 h
  have lr := Paired.length hr2''
  have hlen : (hdT nm cs :: rows.map rowT).length ≤ 61 := by rw [List.length_cons, List.length_map]; omega
  have hcol : ∀ z ∈ cs.map pairT, z.length ≤ 111 := fun z hz => by
    obtain ⟨p, hp, rfl⟩ := List.mem_map.mp hz
    obtain ⟨l1, l2⟩ := hcw p hp
    show (p.1 ++ " " ++ p.2 : Str).length ≤ 111
    simp only [len2', ch1]
    omega
  have hjoin : (Txt.join ", " (cs.map pairT)).length ≤ 7000 := by
    refine Nat.le_trans (txt_len ", " _ hcol) ?_
    rw [List.length_map, ch1.2.2.2]
    omega
  have hhd : (hdT nm cs).length ≤ 8000 := by
    unfold hdT
    simp only [len2', ch1]
    omega
  have hrow : ∀ z ∈ rows.map rowT, z.length ≤ 30000 := fun z hz => by
    obtain ⟨r, hr, rfl⟩ := List.mem_map.mp hz
    obtain ⟨h1, h2⟩ := hrw r hr
    unfold rowT
    refine Nat.le_trans (txt_len ", " (c := 200) _ (fun y hy => ?_)) ?_
    · obtain ⟨x, hx, rfl⟩ := List.mem_map.mp hy
      exact vlT_len (h2 x hx)
    · rw [List.length_map, ch1.2.2.2]
      omega
  have hsum : ((hdT nm cs :: rows.map rowT).map (·.length)).sum + (hdT nm cs :: rows.map rowT).length * ("\n" : Str).length ≤ 16777216 := by
    have h3 := sum_le (g := fun z : Str => z.length) (c := 30000) (l := hdT nm cs :: rows.map rowT) (fun z hz => by
      rcases List.mem_cons.mp hz with rfl | hz
      · omega
      · exact hrow z hz)
    have h5 := Nat.le_trans h3 (Nat.mul_le_mul_right _ hlen)
    rw [show ("\n" : Str).length = 1 by decide +kernel]
    omega
  rcases hr1'' with h | h
  case' inr => refine .inr ⟨_, rfl, a, rfl, ⟨_, h⟩, for_it (walk_tup (xs := rxs)) (fun i σ G => ∃ (y3 y4 : Option V), σ = [some (.str nm), some (.ref c), some (.ref a), y3, y4] ∧ Same H2 G ∧ (rows.take i).all (fun r => r.all hasT) = true) ⟨none, none, rfl, Same.refl _, by rw [List.take_zero]; rfl⟩ (fun i σ G _ ⟨_, _, _, sm, _⟩ => Same.sqT sm h) ?_ ?_⟩
  case' inl => refine .inl ⟨_, rfl, a, rfl, ⟨_, h⟩, for_it (walk_list (xs := rxs)) (fun i σ G => ∃ (y3 y4 : Option V), σ = [some (.str nm), some (.ref c), some (.ref a), y3, y4] ∧ Same H2 G ∧ (rows.take i).all (fun r => r.all hasT) = true) ⟨none, none, rfl, Same.refl _, by rw [List.take_zero]; rfl⟩ (fun i σ G _ ⟨_, _, _, sm, _⟩ => Same.sqL sm h) ?_ ?_⟩
  · rintro i v σ G G' hi ⟨y3, y4, rfl, sm, hok⟩ ⟨rfl, hv⟩
    obtain ⟨r, hr, t, rfl, ht⟩ := paired_at hr2'' hv
    have ht1 := Same.sqT sm ht
    obtain ⟨hrl1, hrs⟩ := hrw r (List.mem_of_getElem? hr)
    refine ⟨_, rfl, t, rfl, ⟨_, ht1⟩, fun D hD => ?_⟩
    refine lc_it (walk_tup (xs := r.map vlV)) (fun j H' => Same G' H' ∧ H' D = some (.lst (((r.map hasT).take j).map V.bl))) ⟨same_upd hD, upd_same⟩ (fun j H' _ ⟨b, _⟩ => Same.sqT b ht1) ?_ ?_
    · rintro j v H3 H4 hj ⟨b3, e3⟩ ⟨rfl, hv⟩
      rw [List.getElem?_map] at hv
      obtain ⟨x, hx, rfl⟩ := Option.map_eq_some_iff.mp hv
      refine ⟨rfl, _, rfl, x, rfl, hrs x (List.mem_of_getElem? hx), _, e3, ?_, fun b o e => ?_, ?_⟩
      · refine Nat.lt_of_le_of_lt (show _ ≤ 100 from ?_) (by decide)
        rw [List.length_map, List.length_take, List.length_map]
        omega
      · rw [upd_ne (ne_of_none e hD)]
        exact b3 b o e
      · rw [List.take_add_one, List.getElem?_map, hx, List.map_append]
        exact upd_same
    · rintro H3 ⟨b3, e3⟩
      rw [List.take_of_length_le (by rw [List.length_map, List.length_map]; exact Nat.le_refl _)] at e3
      have ea : (r.map hasT).all id = r.all hasT := by
        rw [List.all_map]
        rfl
      refine ⟨D, _, rfl, SqL.of e3, _, rfl, ?_⟩
      rw [ea]
      cases ha : r.all hasT with
      | true =>
        refine ifF_ rfl ⟨_, _, rfl, sm.trans b3, ?_⟩
        rw [List.take_add_one, hr, List.all_append, hok]
        show ((true && (([r] : List (List Vl)).all fun r => r.all hasT)) : Bool) = true
        rw [List.all_cons, ha]
        rfl
      | false =>
        refine ifT_ rfl ⟨_, rfl, _, rfl, fun d nd' => qe ?_ _ d H3 (S2.trans (sm.trans b3)) nd'⟩
        cases hq : rows.all fun r => r.all hasT with
        | false => rfl
        | true =>
          rw [List.all_eq_true.mp hq r (List.mem_of_getElem? hr)] at ha
          cases ha
  · rintro σ G ⟨y3, y4, rfl, sm, hok⟩
    rw [lr, List.take_length] at hok
    have q' := q hok
    have sG := s2.trans sm
    refine ⟨⟨_, rfl⟩, _, rfl, _, rfl, nm, c, cxs, cs, rfl, Same.sqT sm hc1'', Paired.mapP hc2'' (fun _ _ h => ColK.same sm h), hnm, by omega, hcw, Nat.le_trans hjoin (by decide), fun H3 s3 => ⟨by show 1 ≤ sizeLine; decide, fun L hL => ?_⟩⟩
    have s4 := same_upd (o := .lst [.str (hdT nm cs)]) hL
    have eL : upd H3 L (.lst [.str (hdT nm cs)]) L = some (.lst [.str (hdT nm cs)]) := upd_same
    generalize upd H3 L (.lst [.str (hdT nm cs)]) = H4 at s4 eL ⊢
    have S4 := sm.trans (s3.trans s4)
    refine .inl ⟨_, rfl, a, rfl, ⟨_, Same.sqL S4 h⟩, fun D hD => ?_⟩
    refine lc_it (walk_list (xs := rxs)) (fun j H' => Same H4 H' ∧ H' D = some (.lst ((((rows.map rowT).take j)).map V.str))) ⟨same_upd hD, upd_same⟩ (fun j H' _ ⟨b, _⟩ => Same.sqL (S4.trans b) h) ?_ ?_
    · rintro j v H5 H6 hj ⟨b5, e5⟩ ⟨rfl, hv⟩
      obtain ⟨r, hr, t, rfl, ht⟩ := paired_at hr2'' hv
      obtain ⟨hrl1, hrs⟩ := hrw r (List.mem_of_getElem? hr)
      refine ⟨rfl, _, rfl, t, r, rfl, Same.sqT (S4.trans b5) ht, by omega, fun x hx => ⟨by have := hrs x hx; cases x <;> exact this, vlT_len (hrs x hx)⟩, fun H7 s7 => ⟨_, s7 _ _ e5, ?_, fun b o e => ?_, ?_⟩⟩
      · refine Nat.lt_of_le_of_lt (show _ ≤ 60 from ?_) (by decide)
        rw [List.length_map, List.length_take, List.length_map]
        omega
      · rw [upd_ne (ne_of_none e hD)]
        exact s7 _ _ (b5 b o e)
      · rw [List.take_add_one, List.getElem?_map, hr, List.map_append]
        exact upd_same
    · rintro H5 ⟨b5, e5⟩
      rw [lr, List.take_of_length_le (by rw [List.length_map]; exact Nat.le_refl _)] at e5
      refine ⟨L, D, _, _, rfl, rfl, b5 _ _ eL, e5, Nat.le_trans (show _ ≤ 61 from ?_) (by decide), fun p hp => ?_⟩
      · rw [List.length_map, List.length_map]
        show 1 + rows.length ≤ 61
        omega
      · exact ⟨_, p, hdT nm cs :: rows.map rowT, rfl, rfl, .inl (SqL.of upd_same), hsum, q' _ (S2.trans (S4.trans (b5.trans (same_upd hp))))⟩
  · rintro i v σ G G' hi ⟨y3, y4, rfl, sm, hok⟩ ⟨rfl, hv⟩
    obtain ⟨r, hr, t, rfl, ht⟩ := paired_at hr2'' hv
    have ht1 := Same.sqT sm ht
    obtain ⟨hrl1, hrs⟩ := hrw r (List.mem_of_getElem? hr)
    refine ⟨_, rfl, t, rfl, ⟨_, ht1⟩, fun D hD => ?_⟩
    refine lc_it (walk_tup (xs := r.map vlV)) (fun j H' => Same G' H' ∧ H' D = some (.lst (((r.map hasT).take j).map V.bl))) ⟨same_upd hD, upd_same⟩ (fun j H' _ ⟨b, _⟩ => Same.sqT b ht1) ?_ ?_
    · rintro j v H3 H4 hj ⟨b3, e3⟩ ⟨rfl, hv⟩
      rw [List.getElem?_map] at hv
      obtain ⟨x, hx, rfl⟩ := Option.map_eq_some_iff.mp hv
      refine ⟨rfl, _, rfl, x, rfl, hrs x (List.mem_of_getElem? hx), _, e3, ?_, fun b o e => ?_, ?_⟩
      · refine Nat.lt_of_le_of_lt (show _ ≤ 100 from ?_) (by decide)
        rw [List.length_map, List.length_take, List.length_map]
        omega
      · rw [upd_ne (ne_of_none e hD)]
        exact b3 b o e
      · rw [List.take_add_one, List.getElem?_map, hx, List.map_append]
        exact upd_same
    · rintro H3 ⟨b3, e3⟩
      rw [List.take_of_length_le (by rw [List.length_map, List.length_map]; exact Nat.le_refl _)] at e3
      have ea : (r.map hasT).all id = r.all hasT := by
        rw [List.all_map]
        rfl
      refine ⟨D, _, rfl, SqL.of e3, _, rfl, ?_⟩
      rw [ea]
      cases ha : r.all hasT with
      | true =>
        refine ifF_ rfl ⟨_, _, rfl, sm.trans b3, ?_⟩
        rw [List.take_add_one, hr, List.all_append, hok]
        show ((true && (([r] : List (List Vl)).all fun r => r.all hasT)) : Bool) = true
        rw [List.all_cons, ha]
        rfl
      | false =>
        refine ifT_ rfl ⟨_, rfl, _, rfl, fun d nd' => qe ?_ _ d H3 (S2.trans (sm.trans b3)) nd'⟩
        cases hq : rows.all fun r => r.all hasT with
        | false => rfl
        | true =>
          rw [List.all_eq_true.mp hq r (List.mem_of_getElem? hr)] at ha
          cases ha
  · rintro σ G ⟨y3, y4, rfl, sm, hok⟩
    rw [lr, List.take_length] at hok
    have q' := q hok
    have sG := s2.trans sm
    refine ⟨⟨_, rfl⟩, _, rfl, _, rfl, nm, c, cxs, cs, rfl, Same.sqT sm hc1'', Paired.mapP hc2'' (fun _ _ h => ColK.same sm h), hnm, by omega, hcw, Nat.le_trans hjoin (by decide), fun H3 s3 => ⟨by show 1 ≤ sizeLine; decide, fun L hL => ?_⟩⟩
    have s4 := same_upd (o := .lst [.str (hdT nm cs)]) hL
    have eL : upd H3 L (.lst [.str (hdT nm cs)]) L = some (.lst [.str (hdT nm cs)]) := upd_same
    generalize upd H3 L (.lst [.str (hdT nm cs)]) = H4 at s4 eL ⊢
    have S4 := sm.trans (s3.trans s4)
    refine .inr ⟨_, rfl, a, rfl, ⟨_, Same.sqT S4 h⟩, fun D hD => ?_⟩
    refine lc_it (walk_tup (xs := rxs)) (fun j H' => Same H4 H' ∧ H' D = some (.lst ((((rows.map rowT).take j)).map V.str))) ⟨same_upd hD, upd_same⟩ (fun j H' _ ⟨b, _⟩ => Same.sqT (S4.trans b) h) ?_ ?_
    · rintro j v H5 H6 hj ⟨b5, e5⟩ ⟨rfl, hv⟩
      obtain ⟨r, hr, t, rfl, ht⟩ := paired_at hr2'' hv
      obtain ⟨hrl1, hrs⟩ := hrw r (List.mem_of_getElem? hr)
      refine ⟨rfl, _, rfl, t, r, rfl, Same.sqT (S4.trans b5) ht, by omega, fun x hx => ⟨by have := hrs x hx; cases x <;> exact this, vlT_len (hrs x hx)⟩, fun H7 s7 => ⟨_, s7 _ _ e5, ?_, fun b o e => ?_, ?_⟩⟩
      · refine Nat.lt_of_le_of_lt (show _ ≤ 60 from ?_) (by decide)
        rw [List.length_map, List.length_take, List.length_map]
        omega
      · rw [upd_ne (ne_of_none e hD)]
        exact s7 _ _ (b5 b o e)
      · rw [List.take_add_one, List.getElem?_map, hr, List.map_append]
        exact upd_same
    · rintro H5 ⟨b5, e5⟩
      rw [lr, List.take_of_length_le (by rw [List.length_map]; exact Nat.le_refl _)] at e5
      refine ⟨L, D, _, _, rfl, rfl, b5 _ _ eL, e5, Nat.le_trans (show _ ≤ 61 from ?_) (by decide), fun p hp => ?_⟩
      · rw [List.length_map, List.length_map]
        show 1 + rows.length ≤ 61
        omega
      · exact ⟨_, p, hdT nm cs :: rows.map rowT, rfl, rfl, .inl (SqL.of upd_same), hsum, q' _ (S2.trans (S4.trans (b5.trans (same_upd hp))))⟩
end
end Kx

namespace Kx
open PySem PySem.Spec PyProof.Rows L2 TL
/-! ### texts as they are laid, and their pieces -/
structure Tok where
  sp : Nat
  w : List Nat
  k : Str
  v : PV
def layT : List Tok → List Nat → List Nat
  | [], tail => tail
  | t :: r, tail => List.replicate t.sp 32 ++ (t.w ++ layT r tail)
def pcsT (all : Nat) : Nat → List Tok → List Pc
  | _, [] => [⟨"end", .tx "", all + 1⟩]
  | at_, t :: r => ⟨t.k, t.v, at_ + t.sp + 1⟩ :: pcsT all (at_ + t.sp + t.w.length) r
/-- what stands behind the last piece: blanks, and a remark -/
inductive TailOk : List Nat → Prop
  | nil : TailOk []
  | hash (r : List Nat) : TailOk (35 :: r)
  | blank {r : List Nat} : TailOk r → TailOk (32 :: r)
structure Fits (t : Tok) (l : List Nat) : Prop where
  at_ : pcAt (t.w ++ l) = some (t.k, t.v, t.w.length)
  hd : ∃ c r, t.w = c :: r ∧ c ≠ 35 ∧ c ≠ 32
def LaysOk : List Tok → List Nat → Prop
  | [], tail => TailOk tail
  | t :: r, tail => Fits t (layT r tail) ∧ LaysOk r tail
def nbr : List Tok → Nat
  | [] => 0
  | t :: r => (if isBr t.k t.v = true then 0 else 1) + nbr r
theorem layT_append (a b : List Tok) (tail : List Nat) : layT (a ++ b) tail = layT a (layT b tail) := by
  induction a with
  | nil => rfl
  | cons t r ih =>
    show List.replicate t.sp 32 ++ (t.w ++ layT (r ++ b) tail) = List.replicate t.sp 32 ++ (t.w ++ layT r (layT b tail))
    rw [ih]
theorem nbr_append (a b : List Tok) : nbr (a ++ b) = nbr a + nbr b := by
  induction a with
  | nil => exact (Nat.zero_add _).symm
  | cons t r ih =>
    show _ + nbr (r ++ b) = _ + nbr r + nbr b
    rw [ih, Nat.add_assoc]
theorem pcs_tail {all : Nat} : ∀ {l : List Nat}, TailOk l → ∀ (f at_ many : Nat), l.length < f → pcs all f at_ many l = .ok [⟨"end", .tx "", all + 1⟩]
  | _, .nil, f + 1, at_, many, _ => by rw [pcs]
  | _, .hash r, f + 1, at_, many, _ => by rw [pcs, if_pos rfl]
  | _, .blank (r := r) h, f + 1, at_, many, hl => by
    rw [pcs, if_neg (by decide), if_pos rfl]
    exact pcs_tail h f _ _ (Nat.lt_of_succ_lt_succ hl)
theorem pcs_blanks {all f at_ many : Nat} {l : List Nat} : ∀ n : Nat, pcs all (f + n) at_ many (List.replicate n 32 ++ l) = pcs all f (at_ + n) many l
  | 0 => rfl
  | n + 1 => by
    rw [← Nat.add_assoc, List.replicate_succ, List.cons_append, pcs, if_neg (by decide), if_pos rfl]
    have e : pcs all (f + n) (at_ + 1) many (List.replicate n 32 ++ l) = pcs all f (at_ + 1 + n) many l := pcs_blanks n
    rw [e, show at_ + 1 + n = at_ + (n + 1) by omega]
/-- the pieces of what is laid -/
theorem pcs_lay {all : Nat} {tail : List Nat} : ∀ (ts : List Tok) (f at_ many : Nat), LaysOk ts tail → (layT ts tail).length < f → many ≤ 300 → (many + nbr ts ≤ 300 → pcs all f at_ many (layT ts tail) = .ok (pcsT all at_ ts)) ∧ (300 < many + nbr ts → ∃ c, pcs all f at_ many (layT ts tail) = .error c)
  | [], f, at_, many, h, hl, hm => ⟨fun _ => pcs_tail h f at_ many hl, fun z => absurd (show 300 < many + 0 from z) (by omega)⟩
  | t :: r, f, at_, many, h, hl, hm => by
    obtain ⟨⟨hp, c, w', hw, h35, h32⟩, hr⟩ := h
    have el : (layT (t :: r) tail).length = t.sp + (t.w.length + (layT r tail).length) := by
      show (List.replicate t.sp 32 ++ (t.w ++ layT r tail)).length = _
      rw [List.length_append, List.length_replicate, List.length_append]
    rw [el] at hl
    have hw1 : 0 < t.w.length := by rw [hw]; exact Nat.succ_pos _
    obtain ⟨f', rfl⟩ : ∃ f', f = f' + 1 + t.sp := ⟨f - 1 - t.sp, by omega⟩
    have e1 : pcs all (f' + 1 + t.sp) at_ many (layT (t :: r) tail) = pcs all (f' + 1) (at_ + t.sp) many (t.w ++ layT r tail) := pcs_blanks t.sp
    have e2 : (t.w ++ layT r tail).drop t.w.length = layT r tail := by rw [List.drop_left]
    rw [e1, pcs_take (c := c) (by rw [hw]; rfl) h35 h32, hp]
    dsimp only
    rw [e2]
    have hn : nbr (t :: r) = (if isBr t.k t.v = true then 0 else 1) + nbr r := rfl
    have ec : (if isBr t.k t.v = true then many else many + 1) = many + (if isBr t.k t.v = true then 0 else 1) := by
      split
      · rfl
      · rfl
    rw [hn, ec]
    generalize (if isBr t.k t.v = true then 0 else 1) = b
    have hl' : (layT r tail).length < f' := by omega
    by_cases h300 : 300 < many + b
    · rw [if_pos h300]
      exact ⟨fun z => absurd z (by omega), fun _ => ⟨_, rfl⟩⟩
    · rw [if_neg h300]
      obtain ⟨i1, i2⟩ := pcs_lay r f' (at_ + t.sp + t.w.length) (many + b) hr hl' (by omega)
      refine ⟨fun z => ?_, fun z => ?_⟩
      · rw [i1 (by omega)]
        rfl
      · obtain ⟨c', e⟩ := i2 (by omega)
        rw [e]
        exact ⟨_, rfl⟩
theorem pieces_lay {z : Str} {ts : List Tok} {tail : List Nat} (h : tl z = layT ts tail) (ok : LaysOk ts tail) (hn : nbr ts ≤ 300) : piecesOf z = .ok (pcsT z.length 0 ts) := by
  unfold piecesOf
  rw [h]
  exact (pcs_lay ts _ 0 0 ok (by rw [← h, ← len_tl]; exact Nat.lt_succ_self _) (by decide)).1 (by rw [Nat.zero_add]; exact hn)
theorem pieces_many {z : Str} {ts : List Tok} {tail : List Nat} (h : tl z = layT ts tail) (ok : LaysOk ts tail) (hn : 300 < nbr ts) : ∃ c, piecesOf z = .error c := by
  unfold piecesOf
  rw [h]
  exact (pcs_lay ts _ 0 0 ok (by rw [← h, ← len_tl]; exact Nat.lt_succ_self _) (by decide)).2 (by rw [Nat.zero_add]; exact hn)
/-! ### what a piece is -/
def noRun (l : List Nat) : Prop := ∀ c r, l = c :: r → isRun c = false
theorem takeW_run {w l : List Nat} (hw : w.all isRun = true) (hl : noRun l) : (w ++ l).takeWhile isRun = w := by
  induction w with
  | nil =>
    cases l with
    | nil => rfl
    | cons c r => rw [List.nil_append, List.takeWhile_cons, hl c r rfl]; rfl
  | cons c r ih =>
    rw [List.all_cons, Bool.and_eq_true] at hw
    rw [List.cons_append, List.takeWhile_cons, hw.1]
    show c :: (r ++ l).takeWhile isRun = c :: r
    rw [ih hw.2]
/-- a word, own or a name -/
def tokW (sp : Nat) (z : Str) : Tok := ⟨sp, tl z, if z ∈ owns then "own" else "name", .tx z⟩
def wordB (z : Str) : Bool := match tl z with
  | [] => false
  | c :: r => isLet c && (c :: r).all isRun
theorem fits_word {sp : Nat} {z : Str} {l : List Nat} (hz : wordB z = true) (hl : noRun l) : Fits (tokW sp z) l := by
  unfold wordB at hz
  cases e : tl z with
  | nil => rw [e] at hz; cases hz
  | cons c r =>
    rw [e] at hz
    dsimp only at hz
    rw [Bool.and_eq_true] at hz
    obtain ⟨h1, h2⟩ := hz
    have et : ((c :: r) ++ l).takeWhile isRun = c :: r := takeW_run h2 hl
    have em : mkS (c :: r) = z := by rw [← e]; exact mk_tl z
    refine ⟨?_, c, r, e, fun x => ?_, fun x => ?_⟩
    · show pcAt (tl z ++ l) = (some ((if z ∈ owns then "own" else "name" : Str), PV.tx z, (tl z).length) : Option (Str × PV × Nat))
      rw [e]
      unfold pcAt
      rw [List.cons_append]
      dsimp only
      rw [← List.cons_append, if_pos h1]
      unfold runLen
      rw [et, em]
      split <;> rfl
    · rw [x] at h1; revert h1; decide
    · rw [x] at h1; revert h1; decide
/-- a sign of one letter -/
def tokS (sp : Nat) (c : Nat) : Tok := ⟨sp, [c], "own", .tx (mkS [c])⟩
def longN : List (List Nat) := [[33, 61], [60, 61], [62, 61]]
theorem longs_eq : longs = longN.map mkS := by decide +kernel
theorem mkS_inj {a b : List Nat} (h : mkS a = mkS b) : a = b := by
  exact congrArg tl h
theorem long_iff {l : List Nat} : mkS l ∈ longs ↔ l ∈ longN := by
  rw [longs_eq]
  refine ⟨fun h => ?_, fun h => List.mem_map.mpr ⟨l, h, rfl⟩⟩
  obtain ⟨a, ha, e⟩ := List.mem_map.mp h
  rw [← mkS_inj e]
  exact ha
theorem fits_sign {sp c : Nat} {l : List Nat} (hc : c ∈ shorts) (hl : (c = 60 ∨ c = 62) → ∀ r, l ≠ 61 :: r) : Fits (tokS sp c) l := by
  have hs : ∀ c ∈ shorts, isLet c = false ∧ isFig c = false ∧ c ≠ 34 ∧ c ≠ 35 ∧ c ≠ 32 ∧ c ≠ 33 := by decide +kernel
  obtain ⟨h1, h2, h3, h4, h5, h6⟩ := hs c hc
  refine ⟨?_, c, [], rfl, h4, h5⟩
  show pcAt (c :: l) = (some (("own" : Str), PV.tx (mkS [c]), 1) : Option (Str × PV × Nat))
  unfold pcAt
  dsimp only
  rw [h1, if_neg Bool.false_ne_true, h2, if_neg Bool.false_ne_true, if_neg h3]
  rw [if_neg (fun z => ?_), if_pos hc]
  rw [long_iff] at z
  cases l with
  | nil =>
    simp [longN] at z
  | cons d r =>
    have e : (c :: d :: r).take 2 = [c, d] := rfl
    rw [e] at z
    have z : [c, d] = [33, 61] ∨ [c, d] = [60, 61] ∨ [c, d] = [62, 61] := by simpa [longN] using z
    rcases z with z | z | z
    · injection z with z1 z2
      exact h6 z1
    · injection z with z1 z2
      injection z2 with z2 z3
      exact hl (.inl z1) r (by rw [z2])
    · injection z with z1 z2
      injection z2 with z2 z3
      exact hl (.inr z1) r (by rw [z2])
/-- a sign of two letters -/
def tokL (sp : Nat) (c : Nat) : Tok := ⟨sp, [c, 61], "own", .tx (mkS [c, 61])⟩
theorem fits_long {sp c : Nat} {l : List Nat} (hc : c ∈ [33, 60, 62]) : Fits (tokL sp c) l := by
  have hs : ∀ c ∈ [33, 60, 62], isLet c = false ∧ isFig c = false ∧ c ≠ 34 ∧ c ≠ 35 ∧ c ≠ 32 ∧ [c, 61] ∈ longN := by decide +kernel
  obtain ⟨h1, h2, h3, h4, h5, h6⟩ := hs c hc
  refine ⟨?_, c, [61], rfl, h4, h5⟩
  show pcAt (c :: 61 :: l) = (some (("own" : Str), PV.tx (mkS [c, 61]), 2) : Option (Str × PV × Nat))
  unfold pcAt
  dsimp only
  rw [h1, if_neg Bool.false_ne_true, h2, if_neg Bool.false_ne_true, if_neg h3]
  exact if_pos (long_iff.mpr h6)
/-- a number -/
def tokN (sp n : Nat) (w : List Nat) : Tok := ⟨sp, w, "number", .nm n⟩
theorem fits_num {sp n : Nat} {w l : List Nat} (hn : NumText.digitsVal w = n) (hw : isNumB w = true) (hf : w.all isFig = true) (h0 : w ≠ []) (hl : noRun l) : Fits (tokN sp n w) l := by
  have hr : w.all isRun = true := by
    rw [List.all_eq_true] at hf ⊢
    intro x hx
    unfold isRun
    rw [hf x hx, Bool.or_true]
  have et := takeW_run hr hl
  cases w with
  | nil => exact absurd rfl h0
  | cons c r =>
    rw [List.all_cons, Bool.and_eq_true] at hf
    have hc := hf.1
    have h1 : isLet c = false := by
      unfold isFig at hc
      unfold isLet
      have : 48 ≤ c ∧ c ≤ 57 := by simpa using hc
      have a : decide (97 ≤ c) = false := decide_eq_false (by omega)
      have b : decide (c = 95) = false := decide_eq_false (by omega)
      rw [a, b]
      rfl
    refine ⟨?_, c, r, rfl, fun x => ?_, fun x => ?_⟩
    · show pcAt ((c :: r) ++ l) = (some (("number" : Str), PV.nm n, (c :: r).length) : Option (Str × PV × Nat))
      unfold pcAt
      rw [List.cons_append]
      dsimp only
      rw [← List.cons_append, h1, if_neg Bool.false_ne_true, if_pos hc]
      unfold runLen
      rw [et, if_pos hw, hn]
    · rw [x] at hc; revert hc; decide
    · rw [x] at hc; revert hc; decide
/-- a text in quotes -/
def tokQ (sp : Nat) (z : Str) : Tok := ⟨sp, 34 :: (tl z ++ [34]), "quoted", .tx z⟩
theorem takeW_quo {q l : List Nat} (h : 34 ∉ q) : (q ++ 34 :: l).takeWhile (fun x => decide (x ≠ 34)) = q := by
  induction q with
  | nil => rfl
  | cons c r ih =>
    have hc : c ≠ 34 := fun z => h (by rw [← z]; exact List.mem_cons_self)
    rw [List.cons_append, List.takeWhile_cons, if_pos (decide_eq_true hc), ih fun z => h (List.mem_cons_of_mem _ z)]
theorem fits_quo {sp : Nat} {z : Str} {l : List Nat} (h : 34 ∉ tl z) : Fits (tokQ sp z) l := by
  refine ⟨?_, 34, tl z ++ [34], rfl, by decide, by decide⟩
  show pcAt ((34 :: (tl z ++ [34])) ++ l) = (some (("quoted" : Str), PV.tx z, (34 :: (tl z ++ [34])).length) : Option (Str × PV × Nat))
  have e : (34 :: (tl z ++ [34])) ++ l = 34 :: (tl z ++ 34 :: l) := by
    rw [List.cons_append, List.append_assoc]
    rfl
  rw [e]
  unfold pcAt
  dsimp only
  rw [show isLet 34 = false by decide, if_neg Bool.false_ne_true, show isFig 34 = false by decide, if_neg Bool.false_ne_true, if_pos rfl, if_pos (by simp), takeW_quo h, show mkS (tl z) = z from mk_tl z]
  simp
/-! ### from a place on -/
/-- behind place i stand the pieces of ts; at_ signs stand ahead of them -/
def Rst' (ps : List Pc) (i all at_ : Nat) (ts : List Tok) : Prop := ps.drop i = pcsT all at_ ts
theorem pcsT_pos {all at_ : Nat} {ts : List Tok} : 0 < (pcsT all at_ ts).length := by
  cases ts with
  | nil => exact Nat.succ_pos _
  | cons t r => exact Nat.succ_pos _
theorem pcsT_len {all : Nat} : ∀ {at_ : Nat} {ts : List Tok}, (pcsT all at_ ts).length = ts.length + 1
  | _, [] => rfl
  | at_, t :: r => by
    show (pcsT all _ r).length + 1 = _
    rw [pcsT_len]
    rfl
section
variable {ps : List Pc} {i all at_ : Nat} {t : Tok} {r ts : List Tok}
theorem Rst'.lt (h : Rst' ps i all at_ ts) : i < ps.length := by
  have h1 : (ps.drop i).length = (pcsT all at_ ts).length := by rw [h]
  have h2 := pcsT_pos (all := all) (at_ := at_) (ts := ts)
  rw [List.length_drop] at h1
  omega
theorem Rst'.len (h : Rst' ps i all at_ ts) : ps.length = i + ts.length + 1 := by
  have h1 : (ps.drop i).length = (pcsT all at_ ts).length := by rw [h]
  have h2 := h.lt
  rw [List.length_drop, pcsT_len] at h1
  omega
theorem curP_drop (ps : List Pc) (i : Nat) : curP ps i = curP (ps.drop i) 0 := by
  unfold curP
  rw [List.getD_eq_getElem?_getD, List.getD_eq_getElem?_getD, List.getElem?_drop, Nat.add_zero]
theorem Rst'.cur (h : Rst' ps i all at_ (t :: r)) : curP ps i = ⟨t.k, t.v, at_ + t.sp + 1⟩ := by
  rw [curP_drop, show ps.drop i = _ from h]
  rfl
theorem Rst'.fin (h : Rst' ps i all at_ []) : curP ps i = ⟨"end", .tx "", all + 1⟩ := by
  rw [curP_drop, show ps.drop i = _ from h]
  rfl
theorem Rst'.next (h : Rst' ps i all at_ (t :: r)) : Rst' ps (i + 1) all (at_ + t.sp + t.w.length) r := by
  have e : ps.drop (i + 1) = (ps.drop i).drop 1 := by rw [List.drop_drop]
  unfold Rst'
  rw [e, show ps.drop i = _ from h]
  rfl
end
def lenT : List Tok → Nat
  | [] => 0
  | t :: r => t.sp + t.w.length + lenT r
theorem lenT_append (a b : List Tok) : lenT (a ++ b) = lenT a + lenT b := by
  induction a with
  | nil => exact (Nat.zero_add _).symm
  | cons t r ih =>
    show t.sp + t.w.length + lenT (r ++ b) = t.sp + t.w.length + lenT r + lenT b
    rw [ih, Nat.add_assoc (t.sp + t.w.length)]
theorem Rst'.skip {ps : List Pc} {all : Nat} : ∀ {i at_ : Nat} {a b : List Tok}, Rst' ps i all at_ (a ++ b) → Rst' ps (i + a.length) all (at_ + lenT a) b
  | _, _, [], _, h => h
  | i, at_, t :: a, b, h => by
    have h2 := Rst'.skip (a := a) (h : Rst' ps i all at_ (t :: (a ++ b))).next
    rw [show i + (t :: a).length = i + 1 + a.length by rw [List.length_cons]; omega, show at_ + lenT (t :: a) = at_ + t.sp + t.w.length + lenT a by show at_ + (t.sp + t.w.length + lenT a) = _; omega]
    exact h2
/-- the own word of a piece -/
def Tok.own (t : Tok) : Str := if t.k = "own" then txt t.v else ""
theorem own_rst {ps : List Pc} {i all at_ : Nat} {t : Tok} {r : List Tok} (h : Rst' ps i all at_ (t :: r)) : ownW ps i = t.own := by
  unfold ownW
  rw [h.cur]
  unfold Tok.own txt
  rfl
theorem own_fin {ps : List Pc} {i all at_ : Nat} (h : Rst' ps i all at_ []) : ownW ps i = "" := by
  unfold ownW
  rw [h.fin]
  exact if_neg (show ¬ ("end" : Str) = "own" by decide +kernel)
def ownH : List Tok → Str
  | [] => ""
  | t :: _ => t.own
theorem own_hd {ps : List Pc} {i all at_ : Nat} : ∀ {ts : List Tok}, Rst' ps i all at_ ts → ownW ps i = ownH ts
  | [], h => own_fin h
  | _ :: _, h => own_rst h
def RdSays {A : Type} (rd : Rdg A) (a : A) (ts : List Tok) (ok : List Tok → Prop) : Prop := ∀ (ps : List Pc) (i all at_ : Nat) (rest : List Tok), Rst' ps i all at_ (ts ++ rest) → ok rest → rd ps i = .ok (a, i + ts.length)
theorem word_says {ws : List Str} {t : Tok} (h : t.own ∈ ws) : RdSays (rdWord ws) t.own [t] fun _ => True := fun ps i all at_ rest hr _ => by
  have h0 : ownW ps i = t.own := own_rst hr
  unfold rdWord
  rw [h0, if_pos h]
  rfl
theorem name_says {t : Tok} {z : Str} (hk : t.k = "name") (hv : t.v = .tx z) : RdSays rdName z [t] fun _ => True := fun ps i all at_ rest hr _ => by
  unfold rdName
  rw [Rst'.cur hr]
  dsimp only
  rw [if_pos hk, hv]
  rfl
theorem thenA_says {A B : Type} {rd : Rdg A} {k : A → Rdg B} {a : A} {b : B} {ts us : List Tok} {ok1 ok2 : List Tok → Prop} (h1 : RdSays rd a ts ok1) (h2 : RdSays (k a) b us ok2) (hok : ∀ rest, ok2 rest → ok1 (us ++ rest)) : RdSays (fun ps i => thenA (rd ps i) fun a j => k a ps j) b (ts ++ us) ok2 := fun ps i all at_ rest hr hok2 => by
  rw [List.append_assoc] at hr
  have e1 := h1 ps i all at_ (us ++ rest) hr (hok rest hok2)
  have e2 := h2 ps (i + ts.length) all _ rest hr.skip hok2
  dsimp only
  rw [e1]
  show k a ps (i + ts.length) = _
  rw [e2, List.length_append, Nat.add_assoc]
theorem pure_says {A : Type} {a : A} : RdSays (fun _ i => (.ok (a, i) : Except Nat (A × Nat))) a [] fun _ => True := fun ps i all at_ rest hr _ => rfl
theorem RdSays.mono {A : Type} {rd : Rdg A} {a : A} {ts : List Tok} {ok ok2 : List Tok → Prop} (h : RdSays rd a ts ok) (hk : ∀ r, ok2 r → ok r) : RdSays rd a ts ok2 := fun ps i all at_ rest hr h2 => h ps i all at_ rest hr (hk rest h2)
def commaT {A : Type} (c : Tok) : List (A × List Tok) → List Tok
  | [] => []
  | x :: r => c :: (x.2 ++ commaT c r)
theorem items_says {A : Type} {rd : Rdg A} {c : Tok} {ok okEnd : List Tok → Prop} (hc : c.own = ",") (hok : ∀ r, ok (c :: r)) (hend : ∀ r, okEnd r → ok r ∧ ownH r ≠ ",") : ∀ (xs : List (A × List Tok)), (∀ x ∈ xs, RdSays rd x.1 x.2 ok) → ∀ (as : List A) (g : Nat), xs.length ≤ g → RdSays (fun ps i => rdItems rd ps g as i) (as ++ xs.map (·.1)) (commaT c xs) okEnd
  | [], _, as, g, _ => fun ps i all at_ rest hr h => by
    have hn : ¬ ownW ps i = "," := by
      rw [own_hd hr]
      exact (hend rest h).2
    show rdItems rd ps g as i = _
    rw [List.map_nil, List.append_nil]
    cases g with
    | zero => rfl
    | succ g =>
      rw [rdItems, if_neg hn]
      rfl
  | x :: xs, hx, as, g, hg => fun ps i all at_ rest hr h => by
    obtain ⟨g', rfl⟩ : ∃ g', g = g' + 1 := ⟨g - 1, by rw [List.length_cons] at hg; omega⟩
    have hw : ownW ps i = "," := (own_rst hr).trans hc
    have hr2 : Rst' ps (i + 1) all (at_ + c.sp + c.w.length) (x.2 ++ (commaT c xs ++ rest)) := by
      have this : Rst' ps (i + 1) all (at_ + c.sp + c.w.length) ((x.2 ++ commaT c xs) ++ rest) := Rst'.next hr
      rw [List.append_assoc] at this
      exact this
    have okx : ok (commaT c xs ++ rest) := by
      cases xs with
      | nil => exact (hend rest h).1
      | cons y ys => exact hok _
    have e1 := hx x List.mem_cons_self ps (i + 1) all _ _ hr2 okx
    have e2 := items_says hc hok hend xs (fun y hy => hx y (List.mem_cons_of_mem _ hy)) (as ++ [x.1]) g' (by rw [List.length_cons] at hg; omega) ps (i + 1 + x.2.length) all _ rest hr2.skip h
    show rdItems rd ps (g' + 1) as i = _
    rw [rdItems, if_pos hw, e1]
    show rdItems rd ps g' (as ++ [x.1]) (i + 1 + x.2.length) = _
    refine Eq.trans e2 ?_
    rw [List.map_cons, List.append_assoc]
    show Except.ok (as ++ ([x.1] ++ xs.map (·.1)), i + 1 + x.2.length + (commaT c xs).length) = Except.ok (as ++ x.1 :: xs.map (·.1), i + (x.2 ++ commaT c xs).length.succ)
    rw [List.length_append, show i + 1 + x.2.length + (commaT c xs).length = i + (x.2.length + (commaT c xs).length).succ by omega]
    rfl
theorem list_says {A : Type} {rd : Rdg A} {c : Tok} {ok okEnd : List Tok → Prop} (hc : c.own = ",") (hok : ∀ r, ok (c :: r)) (hend : ∀ r, okEnd r → ok r ∧ ownH r ≠ ",") {x : A × List Tok} {xs : List (A × List Tok)} (hx : ∀ y ∈ x :: xs, RdSays rd y.1 y.2 ok) : RdSays (rdList rd) ((x :: xs).map (·.1)) (x.2 ++ commaT c xs) okEnd := fun ps i all at_ rest hr h => by
  rw [List.append_assoc] at hr
  have okx : ok (commaT c xs ++ rest) := by
    cases xs with
    | nil => exact (hend rest h).1
    | cons y ys => exact hok _
  have e1 := hx x List.mem_cons_self ps i all at_ _ hr okx
  have hl := hr.len
  have hcl : xs.length ≤ (commaT c xs).length := by
    clear e1 okx hr hl hx
    induction xs with
    | nil => exact Nat.le_refl _
    | cons y ys ih =>
      show ys.length + 1 ≤ (y.2 ++ commaT c ys).length + 1
      rw [List.length_append]
      omega
  rw [List.length_append, List.length_append] at hl
  have e2 := items_says hc hok hend xs (fun y hy => hx y (List.mem_cons_of_mem _ hy)) [x.1] ps.length (by omega) ps (i + x.2.length) all _ rest hr.skip h
  unfold rdList
  rw [e1]
  show rdItems rd ps ps.length [x.1] (i + x.2.length) = _
  refine Eq.trans e2 ?_
  rw [List.length_append, Nat.add_assoc]
  rfl
theorem rst_start {z : Str} {ts : List Tok} : Rst' (pcsT z.length 0 ts) 0 z.length 0 ts := rfl
def mapR {A B : Type} (g : A → B) (rd : Rdg A) : Rdg B := fun ps i => thenA (rd ps i) fun a j => .ok (g a, j)
structure NmT (t : Tok) (z : Str) : Prop where
  k : t.k = "name"
  v : t.v = .tx z
theorem NmT.own {t : Tok} {z : Str} (h : NmT t z) : t.own = "" := by
  unfold Tok.own
  rw [h.k]
  exact if_neg (show ¬ ("name" : Str) = "own" by decide +kernel)
theorem NmT.says {t : Tok} {z : Str} (h : NmT t z) : RdSays rdName z [t] fun _ => True := name_says h.k h.v
theorem nmT_word {sp : Nat} {z : Str} (h : z ∉ owns) : NmT (tokW sp z) z := ⟨if_neg h, rfl⟩
theorem own_word {sp : Nat} {z : Str} (h : z ∈ owns) : (tokW sp z).own = z := by
  unfold Tok.own tokW
  dsimp only
  rw [if_pos h, if_pos rfl]
  rfl
theorem mapR_says {A B : Type} {g : A → B} {rd : Rdg A} {a : A} {ts : List Tok} {ok : List Tok → Prop} (h : RdSays rd a ts ok) : RdSays (mapR g rd) (g a) ts ok := fun ps i all at_ rest hr hok => by
  unfold mapR
  rw [h ps i all at_ rest hr hok]
  rfl
theorem rdThen_says {A B : Type} {rx : Rdg A} {w : Str} {ry : Rdg B} {a : A} {b : B} {t : Tok} {ts us : List Tok} {ok1 ok : List Tok → Prop} (h1 : RdSays rx a ts ok1) (hw : t.own = w) (h2 : RdSays ry b us ok) (hk : ∀ r, ok1 (t :: r)) : RdSays (rdThen rx w ry) (a, b) (ts ++ t :: us) ok := by
  have x : RdSays (rdWord [w]) t.own [t] fun _ => True := word_says (by rw [hw]; exact List.mem_cons_self)
  have c1 : RdSays (fun ps i => thenA (ry ps i) fun b k => .ok ((a, b), k)) (a, b) us ok := mapR_says (g := fun b => (a, b)) h2
  have c2 := thenA_says (k := fun _ ps j2 => thenA (ry ps j2) fun b k => .ok ((a, b), k)) x c1 fun _ _ => trivial
  exact thenA_says (k := fun a ps j => thenA (rdWord [w] ps j) fun _ j2 => thenA (ry ps j2) fun b k => .ok ((a, b), k)) h1 c2 fun r _ => hk _
def PlAt (K : PySem.W.Frag) (H : Hp) (y : V) : Option (Nat × Nat) → Prop
  | none => y = .non
  | some x => ∃ q, y = .ref q ∧ SqT K H q [.int (x.1 : Nat), .int (x.2 : Nat)]
def plD : Option (Nat × Nat) → PyData
  | none => .none
  | some x => .tuple [.int (x.1 : Int), .int (x.2 : Int)]
theorem pl_dp {K : PySem.W.Frag} {H : Hp} {v : V} : ∀ {o : Option (Nat × Nat)}, PlAt K H v o → Dp K H v (plD o)
  | none, h => by
    have : v = .non := h
    rw [this]
    exact .non
  | some x, ⟨q, e, h⟩ => by
    rw [e]
    exact .tup h (.cons (.int _) (.cons (.int _) .nil))
theorem pl_shaped : ∀ o : Option (Nat × Nat), SeqAt.shaped (plD o) = true
  | none => by decide
  | some x => by
    show SeqAt.shaped (.tuple [.int (x.1 : Int), .int (x.2 : Int)]) = true
    unfold SeqAt.shaped
    simp [PyData.canLay0, PyData.canLayAll0, PyData.depth, PyData.depthAll]
theorem two_says {ws : List Str} {t1 t2 : Tok} {z y : Str} (h1 : NmT t1 z) (h2 : t2.own = y) (hy : y ∈ ws) : RdSays (rdTwo ws) (z, y) [t1, t2] fun _ => True := by
  have b : RdSays (rdWord ws) t2.own [t2] fun _ => True := word_says (by rw [h2]; exact hy)
  rw [h2] at b
  exact thenA_says (k := fun z ps j => thenA (rdWord ws ps j) fun w k => .ok ((z, w), k)) h1.says (mapR_says (g := fun w => (z, w)) b) fun _ _ => trivial
end Kx

namespace Kx
open PySem PySem.Spec PyProof.Rows L2 TL
/-! ### tables as they are laid -/
theorem neg_str (n : Nat) (h : 0 < n) : tl (numZ (-(n : Int))) = 45 :: numL n := by
  obtain ⟨m, rfl⟩ : ∃ m, n = m + 1 := ⟨n - 1, by omega⟩
  have e : (toString (-((m + 1 : Nat) : Int)) : String) = "-" ++ Nat.repr (m + 1) := rfl
  have e2 : (toString (((m + 1 : Nat)) : Int) : String) = Nat.repr (m + 1) := rfl
  have h2 := tl_num (m + 1)
  unfold numZ
  rw [e, tl_ofString, String.toList_append, List.map_append]
  rw [e2, tl_ofString] at h2
  rw [h2]
  rfl
theorem pos_str (n : Nat) : tl (numZ (n : Int)) = numL n := tl_num n
def numTk (s g : Nat) (i : Int) : List Tok := if i < 0 then [tokS s 45, tokN g i.natAbs (numL i.natAbs)] else [tokN s i.natAbs (numL i.natAbs)]
def valTk (s g : Nat) : Vl → List Tok
  | .num i => numTk s g i
  | .quo z => [tokQ s z]
def valL (g : Nat) : Vl → List Nat
  | .num i => if i < 0 then 45 :: (List.replicate g 32 ++ numL i.natAbs) else numL i.natAbs
  | .quo z => 34 :: (tl z ++ [34])
theorem valTk_num (s g : Nat) (i : Int) : valTk s g (.num i) = if i < 0 then [tokS s 45, tokN g i.natAbs (numL i.natAbs)] else [tokN s i.natAbs (numL i.natAbs)] := rfl
theorem valL_num (g : Nat) (i : Int) : valL g (.num i) = if i < 0 then 45 :: (List.replicate g 32 ++ numL i.natAbs) else numL i.natAbs := rfl
def vlK : Vl → Str
  | .num _ => "int"
  | .quo _ => "text"
/-- a value that a text can tell -/
def TelV : Vl → Prop
  | .num i => i.natAbs < 10 ^ 18
  | .quo z => 34 ∉ tl z
theorem lay_val (s g : Nat) (v : Vl) (X : List Tok) (tail : List Nat) : layT (valTk s g v ++ X) tail = List.replicate s 32 ++ (valL g v ++ layT X tail) := by
  rw [layT_append]
  cases v with
  | num i =>
    rw [valTk_num, valL_num]
    by_cases c : i < 0
    · rw [if_pos c, if_pos c]
      show List.replicate s 32 ++ ([45] ++ (List.replicate g 32 ++ (numL i.natAbs ++ layT X tail))) = _
      simp
    · rw [if_neg c, if_neg c]
      rfl
  | quo z => rfl
theorem nbr_len : ∀ ts : List Tok, nbr ts ≤ ts.length
  | [] => Nat.le_refl _
  | t :: r => by
    have := nbr_len r
    show (if isBr t.k t.v = true then 0 else 1) + nbr r ≤ r.length + 1
    split <;> omega
theorem val_len (s g : Nat) (v : Vl) : (valTk s g v).length ≤ 2 := by
  cases v with
  | num i =>
    rw [valTk_num]
    split
    · exact Nat.le_refl 2
    · exact Nat.le_succ 1
  | quo z => exact Nat.le_succ _
theorem noRun_cons {c : Nat} {l : List Nat} (h : isRun c = false) : noRun (c :: l) := fun c' r e => by
  injection e with e1 e2
  rw [← e1]
  exact h
theorem noRun_blank (n : Nat) {l : List Nat} (h : noRun l) : noRun (List.replicate n 32 ++ l) := by
  cases n with
  | zero => exact h
  | succ n => exact noRun_cons (by decide)
theorem noRun_sign {s c : Nat} {X : List Tok} {tail : List Nat} (h : isRun c = false) : noRun (layT (tokS s c :: X) tail) := noRun_blank s (noRun_cons h)
theorem num_tok {i n : Nat} (h : i < 10 ^ 18) : isNumB (numL i) = true := by
  by_cases h0 : i = 0
  · subst h0
    decide +kernel
  · unfold isNumB
    have h1 := numL_len (k := 18) (by decide) h
    have h2 := numL_head (n := i) (by omega)
    rw [decide_eq_true h1, decide_eq_true h2, numL_figs]
    simp
theorem fits_numL {s i : Nat} {l : List Nat} (h : i < 10 ^ 18) (hl : noRun l) : Fits (tokN s i (numL i)) l := fits_num (numL_val i) (num_tok (n := 0) h) (numL_figs i) (numL_ne i) hl
theorem noRun_num {g i : Nat} {X : List Tok} {tail : List Nat} : (45 = 60 ∨ 45 = 62) → ∀ r, layT X tail ≠ 61 :: r := fun h => by omega
theorem lays_val {s g : Nat} {v : Vl} {X : List Tok} {tail : List Nat} (hv : TelV v) (hn : noRun (layT X tail)) (hX : LaysOk X tail) : LaysOk (valTk s g v ++ X) tail := by
  cases v with
  | num i =>
    have hv : i.natAbs < 10 ^ 18 := hv
    rw [valTk_num]
    by_cases c : i < 0
    · rw [if_pos c]
      exact ⟨fits_sign (by decide) (fun h => by omega), fits_numL hv hn, hX⟩
    · rw [if_neg c]
      exact ⟨fits_numL hv hn, hX⟩
  | quo z => exact ⟨fits_quo hv, hX⟩
theorem sign_own (s c : Nat) : (tokS s c).own = mkS [c] := by
  unfold Tok.own tokS
  exact if_pos rfl
theorem quo_says {s : Nat} {z : Str} : RdSays rdQuo (.quo z) [tokQ s z] fun _ => True := fun ps i all at_ rest hr _ => by
  unfold rdQuo
  rw [Rst'.cur hr]
  rfl
theorem fig_says {s n : Nat} {w : List Nat} {k : Int} : RdSays (rdFig k) (.num (k * (n : Int))) [tokN s n w] fun _ => True := fun ps i all at_ rest hr _ => by
  unfold rdFig
  rw [Rst'.cur hr]
  rfl
theorem val_says {s g : Nat} {v : Vl} : RdSays (rdVal (vlK v)) v (valTk s g v) fun _ => True := fun ps i all at_ rest hr _ => by
  cases v with
  | quo z => exact quo_says ps i all at_ rest hr trivial
  | num j =>
    have nt : ¬ (vlK (.num j) = "text") := show ¬ ("int" : Str) = "text" by decide +kernel
    unfold rdVal
    rw [if_neg nt]
    rw [valTk_num] at hr ⊢
    by_cases c : j < 0
    · rw [if_pos c] at hr ⊢
      have e1 : ownW ps i = "-" := (own_rst hr).trans (sign_own s 45)
      rw [if_pos e1]
      have h2 := fig_says (s := g) (n := j.natAbs) (w := numL j.natAbs) (k := -1) ps (i + 1) all _ rest hr.next trivial
      rw [h2]
      have ej : (-1 : Int) * (j.natAbs : Int) = j := by omega
      rw [ej]
      rfl
    · rw [if_neg c] at hr ⊢
      have e1 : ownW ps i = "" := (own_rst hr).trans (by
        unfold Tok.own tokN
        exact if_neg (show ¬ ("number" : Str) = "own" by decide +kernel))
      rw [e1, if_neg (show ¬ ("" : Str) = "-" by decide +kernel)]
      have h2 := fig_says (s := s) (n := j.natAbs) (w := numL j.natAbs) (k := 1) ps i all _ rest hr trivial
      rw [h2]
      have ej : (1 : Int) * (j.natAbs : Int) = j := by omega
      rw [ej]
def rowR (cm nx g : Nat) : List Vl → List Tok
  | [] => []
  | v :: r => tokS cm 44 :: (valTk nx g v ++ rowR cm nx g r)
theorem sep_says {vs : List Vl} {cm : Nat} (h : vs ≠ []) : RdSays (rdSep vs) () [tokS cm 44] fun _ => True := fun ps i all at_ rest hr _ => by
  unfold rdSep
  rw [if_neg (fun z => h (List.eq_nil_of_length_eq_zero z)), if_pos ((own_rst hr).trans ((sign_own cm 44).trans (show mkS [44] = ("," : Str) by decide +kernel)))]
  rfl
theorem vals_says {cm nx g : Nat} : ∀ (r vs : List Vl), vs ≠ [] → RdSays (rdVals (r.map vlK) vs) (vs ++ r) (rowR cm nx g r) fun _ => True
  | [], vs, _ => fun ps i all at_ rest hr _ => by
    rw [List.map_nil, rdVals, List.append_nil]
    rfl
  | v :: r, vs, h => by
    have c1 := vals_says (cm := cm) (nx := nx) (g := g) r (vs ++ [v]) (by simp)
    rw [List.append_assoc] at c1
    have c2 := thenA_says (k := fun v ps j2 => rdVals (r.map vlK) (vs ++ [v]) ps j2) (val_says (s := nx) (g := g) (v := v)) c1 fun _ _ => trivial
    have c3 := thenA_says (k := fun _ ps j => thenA (rdVal (vlK v) ps j) fun v j2 => rdVals (r.map vlK) (vs ++ [v]) ps j2) (sep_says (cm := cm) h) c2 fun _ _ => trivial
    exact c3
def rowTk (s0 cm nx g : Nat) : List Vl → List Tok
  | [] => []
  | v :: r => valTk s0 g v ++ rowR cm nx g r
theorem row_says {s0 cm nx g : Nat} (v : Vl) (r : List Vl) : RdSays (rdVals ((v :: r).map vlK) []) (v :: r) (rowTk s0 cm nx g (v :: r)) fun _ => True := by
  have c1 := vals_says (cm := cm) (nx := nx) (g := g) r [v] (by simp)
  have c2 := thenA_says (k := fun v ps j2 => rdVals (r.map vlK) ([] ++ [v]) ps j2) (val_says (s := s0) (g := g) (v := v)) c1 fun _ _ => trivial
  intro ps i all at_ rest hr ho
  have := c2 ps i all at_ rest hr ho
  rw [List.map_cons, rdVals]
  have e0 : rdSep [] ps i = .ok ((), i) := if_pos rfl
  show thenA (rdSep [] ps i) (fun x j => thenA (rdVal (vlK v) ps j) fun v j2 => rdVals (List.map vlK r) ([] ++ [v]) ps j2) = _
  rw [e0]
  exact this
theorem joinL_cons (s p : List Nat) : ∀ r : List (List Nat), joinL s (p :: r) = p ++ (r.map fun q => s ++ q).flatten
  | [] => by simp [joinL]
  | q :: r => by
    show p ++ (s ++ joinL s (q :: r)) = _
    rw [joinL_cons s q r]
    simp
def sepL (cm nx : Nat) : List Nat := List.replicate cm 32 ++ 44 :: List.replicate nx 32
theorem lay_rowR (cm nx g : Nat) (tail : List Nat) : ∀ r : List Vl, layT (rowR cm nx g r) tail = ((r.map (valL g)).map fun q => sepL cm nx ++ q).flatten ++ tail
  | [] => rfl
  | v :: r => by
    show List.replicate cm 32 ++ ([44] ++ layT (valTk nx g v ++ rowR cm nx g r) tail) = _
    rw [lay_val, lay_rowR cm nx g tail r]
    unfold sepL
    simp
theorem lay_row (s0 cm nx g : Nat) (tail : List Nat) (v : Vl) (r : List Vl) : layT (rowTk s0 cm nx g (v :: r)) tail = List.replicate s0 32 ++ (joinL (sepL cm nx) ((v :: r).map (valL g)) ++ tail) := by
  show layT (valTk s0 g v ++ rowR cm nx g r) tail = _
  rw [lay_val, lay_rowR, List.map_cons, joinL_cons]
  simp
theorem lays_rowR {cm nx g : Nat} {tail : List Nat} (ht : TailOk tail) (hn : noRun tail) : ∀ {r : List Vl}, (∀ v ∈ r, TelV v) → LaysOk (rowR cm nx g r) tail ∧ noRun (layT (rowR cm nx g r) tail)
  | [], _ => ⟨ht, hn⟩
  | v :: r, h => by
    obtain ⟨h1, h2⟩ := lays_rowR (cm := cm) (nx := nx) (g := g) ht hn (r := r) fun v hv => h v (List.mem_cons_of_mem _ hv)
    exact ⟨⟨fits_sign (by decide) (fun h => by omega), lays_val (h v List.mem_cons_self) h2 h1⟩, noRun_sign (by decide)⟩
theorem lays_row {s0 cm nx g : Nat} {tail : List Nat} (ht : TailOk tail) (hn : noRun tail) {v : Vl} {r : List Vl} (h : ∀ x ∈ v :: r, TelV x) : LaysOk (rowTk s0 cm nx g (v :: r)) tail := by
  obtain ⟨h1, h2⟩ := lays_rowR (cm := cm) (nx := nx) (g := g) ht hn (r := r) fun v hv => h v (List.mem_cons_of_mem _ hv)
  exact lays_val (h v List.mem_cons_self) h2 h1
theorem rowR_len (cm nx g : Nat) : ∀ r : List Vl, (rowR cm nx g r).length ≤ 3 * r.length
  | [] => Nat.le_refl _
  | v :: r => by
    have := rowR_len cm nx g r
    have := val_len nx g v
    show (valTk nx g v ++ rowR cm nx g r).length + 1 ≤ _
    rw [List.length_append, List.length_cons]
    omega
theorem row_nbr (s0 cm nx g : Nat) (v : Vl) (r : List Vl) (h : (v :: r).length ≤ 60) : nbr (rowTk s0 cm nx g (v :: r)) ≤ 300 := by
  refine Nat.le_trans (nbr_len _) ?_
  show (valTk s0 g v ++ rowR cm nx g r).length ≤ _
  have := rowR_len cm nx g r
  have := val_len s0 g v
  rw [List.length_append]
  rw [List.length_cons] at h
  omega
/-! ### the head -/
structure ColG (p : Str × Str) : Prop where
  w : wordB p.1 = true
  o : p.1 ∉ owns
  k : p.2 ∈ (["int", "text"] : List Str)
def colTk (nx : Nat) (p : Str × Str) : List Tok := [tokW nx p.1, tokW 1 p.2]
def colL (p : Str × Str) : List Nat := tl p.1 ++ 32 :: tl p.2
def hdR (nx : Nat) : List (Str × Str) → List Tok
  | [] => []
  | p :: r => tokS 0 44 :: (colTk nx p ++ hdR nx r)
theorem kind_word {k : Str} (h : k ∈ (["int", "text"] : List Str)) : k ∈ owns ∧ wordB k = true := by
  have : ∀ k ∈ (["int", "text"] : List Str), k ∈ owns ∧ wordB k = true := by decide +kernel
  exact this k h
theorem col_says {nx : Nat} {p : Str × Str} (h : ColG p) : RdSays (rdTwo ["int", "text"]) p (colTk nx p) fun _ => True := two_says (nmT_word h.o) (own_word (kind_word h.k).1) h.k
theorem hdR_comma (nx : Nat) (r : List (Str × Str)) : hdR nx r = commaT (tokS 0 44) (r.map fun p => (p, colTk nx p)) := by
  induction r with
  | nil => rfl
  | cons p r ih =>
    show tokS 0 44 :: (colTk nx p ++ hdR nx r) = _
    rw [ih]
    rfl
def hdTk (s0 s1 nx s2 : Nat) (nm : Str) (p : Str × Str) (r : List (Str × Str)) : List Tok := tokW s0 nm :: tokS s1 40 :: ((colTk 0 p ++ hdR nx r) ++ [tokS s2 41])
theorem head_says {s0 s1 nx s2 : Nat} {nm : Str} {p : Str × Str} {r : List (Str × Str)} (hn : nm ∉ owns) (h : ∀ x ∈ p :: r, ColG x) : RdSays rdHead (nm, p :: r) (hdTk s0 s1 nx s2 nm p r) fun _ => True := by
  have hl := list_says (rd := rdTwo ["int", "text"]) (c := tokS 0 44) (ok := fun _ => True) (okEnd := fun q => ∃ q', q = tokS s2 41 :: q') (by rw [sign_own]; decide +kernel) (fun _ => trivial) (fun q ⟨q', e⟩ => ⟨trivial, by rw [e]; show (tokS s2 41).own ≠ ","; rw [sign_own]; decide +kernel⟩) (x := (p, colTk 0 p)) (xs := r.map fun p => (p, colTk nx p)) (fun y hy => by
    rcases List.mem_cons.mp hy with rfl | hy
    · exact col_says (h _ List.mem_cons_self)
    · obtain ⟨q, hq, rfl⟩ := List.mem_map.mp hy
      exact col_says (h _ (List.mem_cons_of_mem _ hq)))
  have em : ((p, colTk 0 p) :: r.map fun p => (p, colTk nx p)).map (·.1) = p :: r := by
    rw [List.map_cons, List.map_map]
    exact congrArg (p :: ·) ((List.map_congr_left fun _ _ => rfl).trans (List.map_id' r))
  rw [em, ← hdR_comma] at hl
  have ht : RdSays (rdThen rdName "(" (rdList (rdTwo ["int", "text"]))) (nm, p :: r) (tokW s0 nm :: tokS s1 40 :: (colTk 0 p ++ hdR nx r)) fun q => ∃ q', q = tokS s2 41 :: q' := rdThen_says (nmT_word hn).says (by rw [sign_own]; decide +kernel) hl fun _ => trivial
  have a : RdSays (rdWord [")"]) (tokS s2 41).own [tokS s2 41] fun _ => True := word_says (by rw [sign_own]; decide +kernel)
  exact thenA_says (k := fun x ps j => thenA (rdWord [")"] ps j) fun _ k => .ok (x, k)) ht (mapR_says (g := fun (_ : Str) => ((nm, p :: r) : Str × List (Str × Str))) a) fun rest _ => ⟨rest, rfl⟩
theorem lay_col (nx : Nat) (p : Str × Str) (X : List Tok) (tail : List Nat) : layT (colTk nx p ++ X) tail = List.replicate nx 32 ++ (colL p ++ layT X tail) := by
  rw [layT_append]
  show List.replicate nx 32 ++ (tl p.1 ++ ([32] ++ (tl p.2 ++ layT X tail))) = _
  unfold colL
  simp
theorem lay_hdR (nx : Nat) (X : List Tok) (tail : List Nat) : ∀ r : List (Str × Str), layT (hdR nx r ++ X) tail = ((r.map colL).map fun q => sepL 0 nx ++ q).flatten ++ layT X tail
  | [] => rfl
  | p :: r => by
    show List.replicate 0 32 ++ ([44] ++ layT ((colTk nx p ++ hdR nx r) ++ X) tail) = _
    rw [List.append_assoc, lay_col, lay_hdR nx X tail r]
    unfold sepL
    simp
theorem lay_head (s0 s1 nx s2 : Nat) (nm : Str) (p : Str × Str) (r : List (Str × Str)) (tail : List Nat) : layT (hdTk s0 s1 nx s2 nm p r) tail = List.replicate s0 32 ++ (tl nm ++ (List.replicate s1 32 ++ (40 :: (joinL (sepL 0 nx) ((p :: r).map colL) ++ (List.replicate s2 32 ++ (41 :: tail)))))) := by
  show List.replicate s0 32 ++ (tl nm ++ (List.replicate s1 32 ++ ([40] ++ layT ((colTk 0 p ++ hdR nx r) ++ [tokS s2 41]) tail))) = _
  rw [List.append_assoc, lay_col, lay_hdR, List.map_cons, joinL_cons]
  show List.replicate s0 32 ++ (tl nm ++ (List.replicate s1 32 ++ ([40] ++ (List.replicate 0 32 ++ (colL p ++ ((((r.map colL).map fun q => sepL 0 nx ++ q).flatten) ++ (List.replicate s2 32 ++ ([41] ++ tail)))))))) = _
  simp
theorem lays_col {nx : Nat} {p : Str × Str} {X : List Tok} {tail : List Nat} (hp : ColG p) (hn : noRun (layT X tail)) (hX : LaysOk X tail) : LaysOk (colTk nx p ++ X) tail :=
  ⟨fits_word hp.w (show noRun (List.replicate 1 32 ++ (tl p.2 ++ layT X tail)) from noRun_cons (by decide)), fits_word (kind_word hp.k).2 hn, hX⟩
theorem lays_hdR {nx : Nat} {X : List Tok} {tail : List Nat} (hX : LaysOk X tail) (hn : noRun (layT X tail)) : ∀ {r : List (Str × Str)}, (∀ p ∈ r, ColG p) → LaysOk (hdR nx r ++ X) tail ∧ noRun (layT (hdR nx r ++ X) tail)
  | [], _ => ⟨hX, hn⟩
  | p :: r, h => by
    obtain ⟨h1, h2⟩ := lays_hdR (nx := nx) hX hn (r := r) fun p hp => h p (List.mem_cons_of_mem _ hp)
    have h3 := lays_col (nx := nx) (h p List.mem_cons_self) h2 h1
    rw [← List.append_assoc] at h3
    exact ⟨⟨fits_sign (by decide) (fun h => by omega), h3⟩, noRun_sign (by decide)⟩
theorem lays_head {s0 s1 nx s2 : Nat} {nm : Str} {p : Str × Str} {r : List (Str × Str)} {tail : List Nat} (ht : TailOk tail) (hw : wordB nm = true) (h : ∀ x ∈ p :: r, ColG x) : LaysOk (hdTk s0 s1 nx s2 nm p r) tail := by
  have hX : LaysOk [tokS s2 41] tail := ⟨fits_sign (by decide) (fun h => by omega), ht⟩
  obtain ⟨h1, h2⟩ := lays_hdR (nx := nx) hX (noRun_sign (by decide)) (r := r) fun p hp => h p (List.mem_cons_of_mem _ hp)
  have h3 := lays_col (nx := 0) (h p List.mem_cons_self) h2 h1
  rw [← List.append_assoc] at h3
  exact ⟨fits_word hw (noRun_sign (by decide)), fits_sign (by decide) (fun h => by omega), h3⟩
theorem hdR_len (nx : Nat) : ∀ r : List (Str × Str), (hdR nx r).length = 3 * r.length
  | [] => rfl
  | p :: r => by
    show (colTk nx p ++ hdR nx r).length + 1 = _
    rw [List.length_append, hdR_len nx r, List.length_cons]
    show 2 + 3 * r.length + 1 = _
    omega
theorem head_nbr (s0 s1 nx s2 : Nat) (nm : Str) (p : Str × Str) (r : List (Str × Str)) (h : (p :: r).length ≤ 60) : nbr (hdTk s0 s1 nx s2 nm p r) ≤ 300 := by
  refine Nat.le_trans (nbr_len _) ?_
  show ((colTk 0 p ++ hdR nx r) ++ [tokS s2 41]).length + 1 + 1 ≤ _
  rw [List.length_append, List.length_append, hdR_len]
  rw [List.length_cons] at h
  show 2 + 3 * r.length + 1 + 1 + 1 ≤ 300
  omega
/-! ### lines of a table -/
theorem trow_of {z : Str} {ts : List Tok} {tail : List Nat} {st : TSt} (h : tl z = layT ts tail) (ok : LaysOk ts tail) (hn : nbr ts ≤ 300) : rdTRow st z = toEndT (pcsT z.length 0 ts) (rdTTold st (pcsT z.length 0 ts)) := by
  unfold rdTRow
  rw [pieces_lay h ok hn]
theorem trow_blank {z : Str} {st : TSt} (ok : TailOk (tl z)) : rdTRow st z = .ok st := by
  rw [trow_of (ts := []) (tail := tl z) rfl ok (Nat.zero_le _)]
  have hr : Rst' (pcsT z.length 0 []) 0 z.length 0 [] := rst_start
  generalize pcsT z.length 0 [] = ps at hr ⊢
  have hk : (curP ps 0).kind = "end" := by rw [hr.fin]
  unfold rdTTold
  rw [if_pos hk]
  exact if_pos hk
theorem trow_head {z : Str} {ts : List Tok} {tail : List Nat} {rows : List (List Vl)} {h : HeadV} (hz : tl z = layT ts tail) (ok : LaysOk ts tail) (hn : nbr ts ≤ 300) (h0 : ts ≠ []) (hs : RdSays rdHead h ts fun _ => True) : rdTRow (none, rows) z = .ok (some h, rows) := by
  rw [trow_of hz ok hn]
  have hr : Rst' (pcsT z.length 0 ts) 0 z.length 0 (ts ++ []) := by
    rw [List.append_nil]
    exact rst_start
  generalize pcsT z.length 0 ts = ps at hr ⊢
  have e1 := hs ps 0 z.length 0 [] hr trivial
  have hfin := hr.skip.fin
  cases ts with
  | nil => exact absurd rfl h0
  | cons t r =>
    have hk : ¬ (curP ps 0).kind = "end" := by
      rw [Rst'.cur hr]
      exact (pcAt_ok (c := 0) ok.1.at_).ne
    unfold rdTTold
    rw [if_neg hk]
    dsimp only
    rw [e1]
    show (if (curP ps (0 + (t :: r).length)).kind = "end" then _ else _) = _
    rw [hfin, if_pos rfl]
theorem trow_row {z : Str} {ts : List Tok} {tail : List Nat} {rows : List (List Vl)} {h : HeadV} {vs : List Vl} (hz : tl z = layT ts tail) (ok : LaysOk ts tail) (hn : nbr ts ≤ 300) (h0 : ts ≠ []) (hs : RdSays (rdVals (h.2.map (·.2)) []) vs ts fun _ => True) : rdTRow (some h, rows) z = .ok (some h, rows ++ [vs]) := by
  rw [trow_of hz ok hn]
  have hr : Rst' (pcsT z.length 0 ts) 0 z.length 0 (ts ++ []) := by
    rw [List.append_nil]
    exact rst_start
  generalize pcsT z.length 0 ts = ps at hr ⊢
  have e1 := hs ps 0 z.length 0 [] hr trivial
  have hfin := hr.skip.fin
  cases ts with
  | nil => exact absurd rfl h0
  | cons t r =>
    have hk : ¬ (curP ps 0).kind = "end" := by
      rw [Rst'.cur hr]
      exact (pcAt_ok (c := 0) ok.1.at_).ne
    unfold rdTTold
    rw [if_neg hk]
    dsimp only
    rw [e1]
    show (if (curP ps (0 + (t :: r).length)).kind = "end" then _ else _) = _
    rw [hfin, if_pos rfl]
/-- lines that add rows -/
def AddL (h : HeadV) (ls : List Str) (rs : List (List Vl)) : Prop := ∀ rows n, rdTRows ls (some h, rows) n = .ok (some h, rows ++ rs)
theorem AddL.nil {h : HeadV} : AddL h [] [] := fun rows n => by
  rw [List.append_nil]
  rfl
theorem trows_cons {z : Str} {r : List Str} {st st' : TSt} {n : Nat} (h : rdTRow st z = .ok st') : rdTRows (z :: r) st n = rdTRows r st' (n + 1) := by
  rw [rdTRows, h]
theorem trows_wrong {z : Str} {r : List Str} {st : TSt} {n c : Nat} (h : rdTRow st z = .error c) : rdTRows (z :: r) st n = .error (n, c) := by
  rw [rdTRows, h]
theorem trows_app {ls2 : List Str} {st2 : TSt} : ∀ {ls : List Str} {st : TSt} {n : Nat}, rdTRows ls st n = .ok st2 → rdTRows (ls ++ ls2) st n = rdTRows ls2 st2 (n + ls.length)
  | [], st, n, h => by
    cases h
    rfl
  | z :: r, st, n, h => by
    cases e : rdTRow st z with
    | error c =>
      rw [trows_wrong e] at h
      cases h
    | ok st' =>
      rw [trows_cons e] at h
      rw [List.cons_append, trows_cons e, trows_app h, List.length_cons]
      congr 1
      omega
theorem AddL.app {h : HeadV} {ls ls2 : List Str} {rs rs2 : List (List Vl)} (a : AddL h ls rs) (b : AddL h ls2 rs2) : AddL h (ls ++ ls2) (rs ++ rs2) := fun rows n => by
  rw [trows_app (a rows n), b, List.append_assoc]
theorem AddL.blank {h : HeadV} {z : Str} (ok : TailOk (tl z)) : AddL h [z] [] := fun rows n => by
  rw [trows_cons (trow_blank ok), List.append_nil]
  rfl
theorem AddL.row {z : Str} {ts : List Tok} {tail : List Nat} {h : HeadV} {vs : List Vl} (hz : tl z = layT ts tail) (ok : LaysOk ts tail) (hn : nbr ts ≤ 300) (h0 : ts ≠ []) (hs : RdSays (rdVals (h.2.map (·.2)) []) vs ts fun _ => True) : AddL h [z] [vs] := fun rows n => by
  rw [trows_cons (trow_row hz ok hn h0 hs)]
  rfl
theorem table_read {h0 : Str} {h : HeadV} {ls : List Str} {rs : List (List Vl)} (hh : rdTRow (none, []) h0 = .ok (some h, [])) (ha : AddL h ls rs) (h10 : ∀ z ∈ h0 :: ls, 10 ∉ tl z) : rdTable (Txt.join "\n" (h0 :: ls)) = .ok (h, rs) := by
  unfold rdTable
  rw [lines_join (by simp) h10, trows_cons hh, ha]
  rfl
end Kx

namespace Kx
open PySem PySem.Spec PyProof.Rows L2 TL
abbrev s_law_place : Stmt := topS 49
def errT (z : Str) : Option (Nat × Nat) := match rdTable z with
  | .error x => some x
  | .ok _ => none
def ShortZ (z : Str) : Prop := z.length ≤ 99999 ∧ ∀ y ∈ linesOf z, y.length ≤ 9999
/-- what may be asked: None, a number, or a text; and the place that is told -/
def AskT (v : V) (o : Option (Nat × Nat)) : Prop := ((v = .non ∨ ∃ i : Int, v = .int i) ∧ o = some (0, 0)) ∨ ∃ z, v = .str z ∧ ShortZ z ∧ errT z = o
section
variable {P : Program} {w : World} {K : PySem.W.Frag} {mg : Str → Option Value} {base : Heap}
theorem PlAt.same {H H' : Hp} {y : V} {o : Option (Nat × Nat)} (h : PlAt K H y o) (s : Same H H') : PlAt K H' y o := by
  cases o with
  | none => exact h
  | some x =>
    obtain ⟨q, e, h⟩ := h
    exact ⟨q, e, Same.sqT s h⟩
def spPlace (K : PySem.W.Frag) : Sp := fun vs H Q _ => ∃ (v : V) (o : Option (Nat × Nat)), vs = [v] ∧ AskT v o ∧ ∀ y H', Same H H' → PlAt K H' y o → Q y H'
abbrev N_place : List Str := ["text", "e"]
theorem sc_place : FnScope N_place ["text"] (defScope s_law_place) := ⟨rfl, rfl, rfl, by decide +kernel, rfl, by decide +kernel, by decide +kernel⟩
theorem ok_place {f C fI : Addr} {fd : FuncData} {k : Nat} (F : Fun K "_law_place" "_law_place" s_law_place f fd) (T : PySem.BadY.BadTxt K mg C fI) (G_by : ReadyX P w K mg base k "table_by" ["text"] (spTabBy C)) : FnOk P w K mg base CX0 (k + 1) f fd ["text"] (spPlace K) := by
  refine F.ok sc_place (fun vs H Q E h => ?_) (fun cdv A outer s H vs Q E hr h => ?_)
  · obtain ⟨v, o, rfl, _⟩ := h
    rfl
  obtain ⟨v, o, rfl, ha, q⟩ := h
  have nd := sc_place.nd
  refine ⟨_, pss_cons (ps_try_asE (i := 1) (tb := fun W => tDrop (tCallS (spTabBy C) (WE W) (tCons (tVar 0) tNil))) (ts := fun a cls d => tRet (tTup (tCons (tByName C a cls d (tVar 1)) (tCons (tByColumn C a cls d (tVar 1)) tNil)))) pss_nil rfl rfl nd rfl rfl ⟨rfl, by decide, .inl T.gC⟩
      (fun W pn xe tk _ => pss_one (ps_expr (pe_fnX (W := W) G_by hr tk (pa_cons (pv 0) pa_nil))))
      (fun a oe cls d pn hz hf => pss_one (ps_ret (pe_tup (pa_cons (pe_byName T hz hf (pv 1)) (pa_cons (pe_byColumn T hz hf (pv 1)) pa_nil))))))
    (pss_one (ps_ret pe_non)), ?_⟩
  refine ⟨_, rfl, ?_⟩
  have bad : ∀ (n c : Nat) (H' : Hp) (d : Addr), o = some (n, c) → Same H H' → H' d = none → ∃ (te : PySem.W.exmOne K (.ref C) (.ref C) = some true), True → True := fun n c H' d _ _ _ => ⟨T.te, fun _ => trivial⟩
  rcases ha with ⟨hv, rfl⟩ | ⟨z, rfl, ⟨hz1, hz2⟩, rfl⟩
  · refine .inl ⟨?_, fun H' d sm hd => ⟨T.te, fun a na => ⟨_, rfl, rfl, rfl, d, _, _, rfl, upd_same, _, rfl, rfl, rfl, d, _, _, rfl, upd_same, (by show 2 ≤ sizeLine; decide), fun p hp => ?_⟩⟩⟩
    · rcases hv with rfl | ⟨i, rfl⟩
      · exact .inl rfl
      · exact .inr ⟨i, rfl⟩
    · have s1 := sm.trans (same_upd (o := .xd [("line", .int 0), ("column", .int 0)]) hd)
      exact q _ _ (s1.trans (same_upd hp)) ⟨p, rfl, SqT.of upd_same⟩
  · refine .inr ⟨_, rfl, hz1, hz2, fun x e v H' sm hv => ?_, fun n c e H' d sm hd => ?_⟩
    · have e0 : errT z = none := by
        unfold errT
        rw [e]
      rw [e0] at q
      exact q _ _ sm rfl
    · have e0 : errT z = some (n, c) := by
        unfold errT
        rw [e]
      rw [e0] at q
      refine ⟨T.te, fun a na => ⟨_, rfl, rfl, rfl, d, _, _, rfl, upd_same, _, rfl, rfl, rfl, d, _, _, rfl, upd_same, (by show 2 ≤ sizeLine; decide), fun p hp => ?_⟩⟩
      have s1 := sm.trans (same_upd (o := .xd [("line", .int (n : Nat)), ("column", .int (c : Nat))]) hd)
      exact q _ _ (s1.trans (same_upd hp)) ⟨p, rfl, SqT.of upd_same⟩
end
/-! ### the wrong texts -/
def wrongs : List (Option Str × (Nat × Nat)) := [(some "", (1, 1)), (some " \n# x", (1, 1)), (some "read(a int)", (1, 1)), (some "t(a int", (1, 8)), (some "t(a num)", (1, 5)), (some "t()", (1, 3)), (some "t(a int) x", (1, 10)), (some "t(a int)\n\n\"x\"", (3, 1)), (some "t(a int)\n1, 2", (2, 2)), (some "t(a int, b text)\n1", (2, 2)), (some "t(a int)\n01", (2, 1)), (some "t(a text)\n\"x", (2, 1)), (some "t(a int)\n- ", (2, 3)), (some "t(a int)\n1234567890123456789", (2, 1)), (some "t(a int)\n$", (2, 1)), (some "T(a int)", (1, 1)), (some "t(a int)\n1 2", (2, 3)), (some "t(a text)\n1", (2, 1))]
def wrongB (p : Option Str × (Nat × Nat)) : Bool := match p.1 with
  | none => false
  | some z => decide (z.length ≤ 100) && decide (errT z = some p.2)
theorem wrongs_ok : wrongs.all wrongB = true := by decide +kernel
end Kx

namespace Kx
open PySem PySem.Spec PyProof.Rows L2 TL
/-! ### the tables that the law draws -/
def cnames : List Str := ["c0", "c1", "c2", "c3"]
def twoK : List Str := ["int", "text"]
def wordsL : List Str := ["", "a", "b # c", "x, y", "(", "read", "A-Z 09;"]
def VD : Vl → Prop
  | .num i => -50000 ≤ i ∧ i ≤ 50000
  | .quo z => z ∈ wordsL
structure TabD (cs : List (Str × Str)) (rows : List (List Vl)) : Prop where
  ne : cs ≠ []
  len : cs.length ≤ 4
  col : ∀ p ∈ cs, p.1 ∈ cnames ∧ p.2 ∈ twoK
  rlen : rows.length ≤ 6
  row : ∀ r ∈ rows, r.map vlK = cs.map (·.2) ∧ ∀ x ∈ r, VD x
def LineOk (z : Str) : Prop := z.length ≤ 300 ∧ 10 ∉ tl z
theorem cn_facts : ∀ c ∈ cnames, wordB c = true ∧ c ∉ owns ∧ isNm c = true ∧ c.length ≤ 2 ∧ 10 ∉ tl c := by decide +kernel
theorem tk_facts : ∀ c ∈ twoK, c ∈ (["int", "text"] : List Str) ∧ c.length ≤ 4 ∧ 10 ∉ tl c := by decide +kernel
theorem wd_facts : ∀ c ∈ wordsL, 34 ∉ tl c ∧ 10 ∉ tl c ∧ c.length ≤ 7 ∧ PyData.strOk c = true := by decide +kernel
theorem colG_of {p : Str × Str} (h : p.1 ∈ cnames ∧ p.2 ∈ twoK) : ColG p := ⟨(cn_facts _ h.1).1, (cn_facts _ h.1).2.1, (tk_facts _ h.2).1⟩
theorem colB_of {p : Str × Str} (h : p.1 ∈ cnames ∧ p.2 ∈ twoK) : colB p = true := by
  unfold colB
  rw [(cn_facts _ h.1).2.2.1, decide_eq_true (tk_facts _ h.2).1]
  rfl
theorem vd_sml {x : Vl} (h : VD x) : SmlV x := by
  cases x with
  | num i =>
    have h : -50000 ≤ i ∧ i ≤ 50000 := h
    show i.natAbs < 2 ^ 64
    have : (50000 : Nat) < 2 ^ 64 := by decide
    omega
  | quo z => exact Nat.le_trans (wd_facts _ h).2.2.1 (by decide)
theorem vd_tel {x : Vl} (h : VD x) : TelV x := by
  cases x with
  | num i =>
    have h : -50000 ≤ i ∧ i ≤ 50000 := h
    show i.natAbs < 10 ^ 18
    have : (50000 : Nat) < 10 ^ 18 := by decide
    omega
  | quo z => exact (wd_facts _ h).1
theorem vd_has {x : Vl} (h : VD x) : hasT x = true := by
  cases x with
  | num i =>
    have h : -50000 ≤ i ∧ i ≤ 50000 := h
    have h5 : i.natAbs < 10 ^ 5 := by
      have : (10 ^ 5 : Nat) = 100000 := by decide
      omega
    show decide (((Str.ofString (toString (absI i))).length : Int) ≤ 18) = true
    rw [abs_cast]
    have := numL_len (k := 5) (by decide) h5
    have e : (Str.ofString (toString ((i.natAbs : Nat) : Int))).length = (numL i.natAbs).length := by rw [len_tl, tl_num]
    rw [e]
    exact decide_eq_true (by omega)
  | quo z =>
    obtain ⟨h1, h2, _⟩ := wd_facts _ h
    show (decide (34 ∉ tl z) && decide (10 ∉ tl z)) = true
    rw [decide_eq_true h1, decide_eq_true h2]
    rfl
theorem ok_vl {x : Vl} (h : VD x) : okV (vlK x) (vlV x) = true := by
  cases x with
  | num i =>
    have h : -50000 ≤ i ∧ i ≤ 50000 := h
    show (!decide (V.str "int" = V.str "text") && decide (In64 i)) = true
    rw [decide_eq_false (by decide +kernel), decide_eq_true (show In64 i from ⟨by omega, by omega⟩)]
    rfl
  | quo z => exact decide_eq_true (p := V.str "text" = V.str "text") rfl
theorem rows_ok {cs : List (Str × Str)} {rows : List (List Vl)} (T : TabD cs rows) : rowsB cs rows = true := by
  unfold rowsB
  rw [List.all_map]
  refine List.all_eq_true.mpr fun r hr => ?_
  obtain ⟨h1, h2⟩ := T.row r hr
  show rowB (cs.map (·.2)) (.tup (r.map vlV)) = true
  rw [← h1]
  show (decide ((r.map vlV).length = (r.map vlK).length) && ((r.map vlV).zip (r.map vlK)).all fun p => okV p.2 p.1) = true
  rw [decide_eq_true (by rw [List.length_map, List.length_map]), Bool.true_and]
  refine List.all_eq_true.mpr fun p hp => ?_
  rw [List.zip_map', List.mem_map] at hp
  obtain ⟨x, hx, rfl⟩ := hp
  exact ok_vl (h2 x hx)
theorem tt_ok {cs : List (Str × Str)} {rows : List (List Vl)} (T : TabD cs rows) : ttB "tab" cs rows = true := by
  unfold ttB colsB
  have l1 : 1 ≤ cs.length := List.length_pos_iff.mpr T.ne
  have l2 : cs.length ≤ 60 := Nat.le_trans T.len (by decide)
  rw [show isNm "tab" = true by decide +kernel, decide_eq_true l1, decide_eq_true l2, rows_ok T, List.all_eq_true.mpr fun p hp => colB_of (T.col p hp), List.all_eq_true.mpr fun r hr => List.all_eq_true.mpr fun x hx => vd_has ((T.row r hr).2 x hx)]
  rfl
/-! ### a gap -/
def GapS (G : Str) (g : Nat) : Prop := tl G = List.replicate g 32 ∧ g ≤ 2
theorem tl_join2 (s : Str) (ws : List Str) : tl (Txt.join s ws) = joinL (tl s) (ws.map tl) := by rw [join_eq, tl_join]
theorem tlc2 (a b : Str) : tl (a ++ b) = tl a ++ tl b := tl_append a b
theorem tails : tl ("(" : Str) = [40] ∧ tl (")" : Str) = [41] ∧ tl ("," : Str) = [44] ∧ tl (", " : Str) = [44, 32] ∧ tl (" " : Str) = [32] ∧ tl ("\"" : Str) = [34] ∧ tl ("-" : Str) = [45] ∧ tl ("" : Str) = [] ∧ tl (") # told" : Str) = 41 :: 32 :: 35 :: tl (" told" : Str) := by decide +kernel
theorem tl_pair (p : Str × Str) : tl (pairT p) = colL p := by
  unfold pairT colL
  rw [tlc2, tlc2, tails.2.2.2.2.1]
  simp
theorem map_pair (cs : List (Str × Str)) : cs.map (tl ∘ pairT) = cs.map colL := List.map_congr_left fun q _ => tl_pair q
def hdG (G : Str) (cs : List (Str × Str)) : Str := G ++ "tab" ++ G ++ "(" ++ Txt.join ("," ++ G) (cs.map pairT) ++ G ++ ") # told"
theorem hdT_lay {nm : Str} {p : Str × Str} {r : List (Str × Str)} : tl (hdT nm (p :: r)) = layT (hdTk 0 0 1 0 nm p r) [] := by
  rw [lay_head]
  unfold hdT
  rw [tlc2, tlc2, tlc2, tl_join2, tails.1, tails.2.1, tails.2.2.2.1, List.map_map, map_pair]
  show ((tl nm ++ [40]) ++ joinL [44, 32] ((p :: r).map colL)) ++ [41] = [] ++ (tl nm ++ ([] ++ (40 :: (joinL [44, 32] ((p :: r).map colL) ++ ([] ++ [41])))))
  simp
theorem hdG_lay {G : Str} {g : Nat} (hG : GapS G g) {p : Str × Str} {r : List (Str × Str)} : tl (hdG G (p :: r)) = layT (hdTk g g g g "tab" p r) (32 :: 35 :: tl (" told" : Str)) := by
  rw [lay_head]
  unfold hdG
  rw [tlc2, tlc2, tlc2, tlc2, tlc2, tlc2, tl_join2, tlc2, hG.1, tails.1, tails.2.2.1, tails.2.2.2.2.2.2.2.2, List.map_map, map_pair]
  unfold sepL
  simp
def ptG (G : Str) : Vl → Str
  | .num i => (if i < 0 then "-" ++ G else "") ++ numZ (absI i)
  | .quo z => "\"" ++ z ++ "\""
def rowG (G : Str) (r : List Vl) : Str := G ++ Txt.join (G ++ ",") (r.map (ptG G)) ++ G
theorem tl_vlT (x : Vl) : tl (vlT x) = valL 0 x := by
  cases x with
  | num i =>
    show tl (numZ i) = _
    rw [valL_num]
    by_cases c : i < 0
    · rw [if_pos c]
      have e : i = -((i.natAbs : Nat) : Int) := by omega
      have := neg_str i.natAbs (by omega)
      rw [← e] at this
      exact this
    · rw [if_neg c]
      have e : i = ((i.natAbs : Nat) : Int) := by omega
      have := pos_str i.natAbs
      rw [← e] at this
      exact this
  | quo z =>
    show tl ("\"" ++ z ++ "\"" : Str) = 34 :: (tl z ++ [34])
    rw [tlc2, tlc2, tails.2.2.2.2.2.1]
    rfl
theorem tl_ptG {G : Str} {g : Nat} (hG : GapS G g) (x : Vl) : tl (ptG G x) = valL g x := by
  cases x with
  | num i =>
    show tl ((if i < 0 then "-" ++ G else "") ++ numZ (absI i) : Str) = _
    rw [valL_num, tlc2, abs_cast, pos_str]
    by_cases c : i < 0
    · rw [if_pos c, if_pos c, tlc2, hG.1, tails.2.2.2.2.2.2.1]
      simp
    · rw [if_neg c, if_neg c, tails.2.2.2.2.2.2.2.1]
      rfl
  | quo z =>
    show tl ("\"" ++ z ++ "\"" : Str) = 34 :: (tl z ++ [34])
    rw [tlc2, tlc2, tails.2.2.2.2.2.1]
    rfl
theorem map_vlT (r : List Vl) : r.map (tl ∘ vlT) = r.map (valL 0) := List.map_congr_left fun q _ => tl_vlT q
theorem map_ptG {G : Str} {g : Nat} (hG : GapS G g) (r : List Vl) : r.map (tl ∘ ptG G) = r.map (valL g) := List.map_congr_left fun q _ => tl_ptG hG q
theorem rowT_lay (v : Vl) (r : List Vl) : tl (rowT (v :: r)) = layT (rowTk 0 0 1 0 (v :: r)) [] := by
  rw [lay_row]
  unfold rowT
  rw [tl_join2, tails.2.2.2.1, List.map_map, map_vlT]
  show _ = [] ++ (joinL [44, 32] ((v :: r).map (valL 0)) ++ [])
  simp
theorem rowG_lay {G : Str} {g : Nat} (hG : GapS G g) (v : Vl) (r : List Vl) : tl (rowG G (v :: r)) = layT (rowTk g g 0 g (v :: r)) (List.replicate g 32) := by
  rw [lay_row]
  unfold rowG
  rw [tlc2, tlc2, tl_join2, tlc2, hG.1, tails.2.2.1, List.map_map, map_ptG hG]
  unfold sepL
  simp
theorem tail_blanks : ∀ g : Nat, TailOk (List.replicate g 32)
  | 0 => .nil
  | g + 1 => .blank (tail_blanks g)
theorem noRun_nil : noRun [] := fun c r e => by cases e
theorem cons_of {A : Type} {l : List A} (h : l ≠ []) : ∃ a r, l = a :: r := by
  cases l with
  | nil => exact absurd rfl h
  | cons a r => exact ⟨a, r, rfl⟩
/-- a line that adds a row -/
theorem add_rowL {cs : List (Str × Str)} {r : List Vl} {z : Str} {s0 cm nx g : Nat} {tail : List Nat} (hr : r.map vlK = cs.map (·.2)) (hv : ∀ x ∈ r, VD x) (hne : cs ≠ []) (hlen : cs.length ≤ 4) (ht : TailOk tail) (hn : noRun tail) (hz : ∀ v q, r = v :: q → tl z = layT (rowTk s0 cm nx g (v :: q)) tail) : AddL ("tab", cs) [z] [r] := by
  have hl := congrArg List.length hr
  rw [List.length_map, List.length_map] at hl
  have hc := List.length_pos_iff.mpr hne
  obtain ⟨v, q, rfl⟩ := cons_of (l := r) (fun e => by rw [e] at hl; simp at hl; omega)
  refine AddL.row (hz v q rfl) (lays_row ht hn fun x hx => vd_tel (hv x hx)) (row_nbr _ _ _ _ _ _ (by omega)) (fun e => ?_) ?_
  · have h := congrArg List.length e
    have : 0 < (valTk s0 g v).length := by
      cases v with
      | num i =>
        rw [valTk_num]
        split <;> simp
      | quo z => exact Nat.zero_lt_one
    change (valTk s0 g v ++ rowR cm nx g q).length = 0 at h
    rw [List.length_append] at h
    omega
  · show RdSays (rdVals (cs.map (·.2)) []) (v :: q) _ _
    rw [← hr]
    exact row_says v q
theorem head_rowL {cs : List (Str × Str)} {z : Str} {s0 s1 nx s2 : Nat} {tail : List Nat} (hc : ∀ p ∈ cs, p.1 ∈ cnames ∧ p.2 ∈ twoK) (hlen : cs.length ≤ 4) {p : Str × Str} {r : List (Str × Str)} (e : cs = p :: r) (ht : TailOk tail) (hz : tl z = layT (hdTk s0 s1 nx s2 "tab" p r) tail) : rdTRow (none, []) z = .ok (some ("tab", cs), []) := by
  subst e
  exact trow_head hz (lays_head ht (by decide +kernel) fun x hx => colG_of (hc x hx)) (head_nbr _ _ _ _ _ _ _ (by omega)) (fun z => by cases z) (head_says (by decide +kernel) fun x hx => colG_of (hc x hx))
/-! ### lengths -/
theorem mem_joinL {s : List Nat} {c : Nat} : ∀ {ps : List (List Nat)}, c ∈ joinL s ps → c ∈ s ∨ ∃ p ∈ ps, c ∈ p
  | [], h => by cases h
  | [p], h => .inr ⟨p, List.mem_cons_self, h⟩
  | p :: q :: r, h => by
    have h : c ∈ p ++ (s ++ joinL s (q :: r)) := h
    rcases List.mem_append.mp h with h | h
    · exact .inr ⟨p, List.mem_cons_self, h⟩
    · rcases List.mem_append.mp h with h | h
      · exact .inl h
      · rcases mem_joinL h with h | ⟨x, hx, h⟩
        · exact .inl h
        · exact .inr ⟨x, List.mem_cons_of_mem _ hx, h⟩
theorem pair_line {p : Str × Str} (h : p.1 ∈ cnames ∧ p.2 ∈ twoK) : (pairT p).length ≤ 7 ∧ 10 ∉ tl (pairT p) := by
  obtain ⟨_, _, _, l1, n1⟩ := cn_facts _ h.1
  obtain ⟨_, l2, n2⟩ := tk_facts _ h.2
  refine ⟨?_, ?_⟩
  · unfold pairT
    simp only [len2', ch1]
    omega
  · rw [tl_pair]
    unfold colL
    intro z
    rcases List.mem_append.mp z with z | z
    · exact n1 z
    · rcases List.mem_cons.mp z with z | z
      · cases z
      · exact n2 z
theorem val_line {g : Nat} (hg : g ≤ 2) {x : Vl} (h : VD x) : (valL g x).length ≤ 20 ∧ 10 ∉ valL g x := by
  cases x with
  | num i =>
    have h : -50000 ≤ i ∧ i ≤ 50000 := h
    have h5 : i.natAbs < 10 ^ 5 := by
      have : (10 ^ 5 : Nat) = 100000 := by decide
      omega
    have hl := numL_len (k := 5) (by decide) h5
    have h10 : 10 ∉ numL i.natAbs := numL_free (by decide)
    rw [valL_num]
    by_cases c : i < 0
    · rw [if_pos c]
      refine ⟨?_, fun z => ?_⟩
      · rw [List.length_cons, List.length_append, List.length_replicate]
        omega
      · rcases List.mem_cons.mp z with z | z
        · cases z
        · rcases List.mem_append.mp z with z | z
          · cases List.eq_of_mem_replicate z
          · exact h10 z
    · rw [if_neg c]
      exact ⟨by omega, h10⟩
  | quo z =>
    obtain ⟨_, h2, h3, _⟩ := wd_facts _ h
    refine ⟨?_, fun c => ?_⟩
    · show (34 :: (tl z ++ [34])).length ≤ 20
      rw [List.length_cons, List.length_append, ← len_tl]
      show z.length + 1 + 1 ≤ 20
      omega
    · rcases List.mem_cons.mp c with c | c
      · cases c
      · rcases List.mem_append.mp c with c | c
        · exact h2 c
        · cases List.mem_singleton.mp c
theorem joinL_le (s : List Nat) {c n : Nat} {ps : List (List Nat)} (h : ∀ p ∈ ps, p.length ≤ c) (hn : ps.length ≤ n) : (joinL s ps).length ≤ n * c + n * s.length := by
  refine Nat.le_trans (joinL_len _ _) ?_
  have := sum_le (g := fun p : List Nat => p.length) (c := c) (l := ps) h
  have h1 : ps.length * c ≤ n * c := Nat.mul_le_mul_right _ hn
  have h2 : ps.length * s.length ≤ n * s.length := Nat.mul_le_mul_right _ hn
  show (ps.map fun p => p.length).sum + _ ≤ _
  omega
theorem lay_line {r : List Vl} {s0 cm nx g : Nat} {z : Str} {tail : List Nat} (h4 : r.length ≤ 4) (hs : s0 ≤ 2 ∧ cm ≤ 2 ∧ nx ≤ 2 ∧ g ≤ 2) (ht : tail.length ≤ 30 ∧ 10 ∉ tail) (hv : ∀ x ∈ r, VD x) (hz : tl z = List.replicate s0 32 ++ (joinL (sepL cm nx) (r.map (valL g)) ++ tail)) : LineOk z := by
  have hsep : (sepL cm nx).length ≤ 5 := by
    unfold sepL
    rw [List.length_append, List.length_cons, List.length_replicate, List.length_replicate]
    omega
  have hj := joinL_le (sepL cm nx) (c := 20) (n := 4) (ps := r.map (valL g)) (fun p hp => by
    obtain ⟨x, hx, rfl⟩ := List.mem_map.mp hp
    exact (val_line hs.2.2.2 (hv x hx)).1) (by rw [List.length_map]; exact h4)
  refine ⟨?_, fun c => ?_⟩
  · rw [len_tl, hz, List.length_append, List.length_append, List.length_replicate]
    omega
  · rw [hz] at c
    rcases List.mem_append.mp c with c | c
    · cases List.eq_of_mem_replicate c
    · rcases List.mem_append.mp c with c | c
      · rcases mem_joinL c with c | ⟨p, hp, c⟩
        · unfold sepL at c
          rcases List.mem_append.mp c with c | c
          · cases List.eq_of_mem_replicate c
          · rcases List.mem_cons.mp c with c | c
            · cases c
            · cases List.eq_of_mem_replicate c
        · obtain ⟨x, hx, rfl⟩ := List.mem_map.mp hp
          exact (val_line hs.2.2.2 (hv x hx)).2 c
      · exact ht.2 c
theorem head_line {cs : List (Str × Str)} {s0 s1 nx s2 : Nat} {z : Str} {tail : List Nat} (h4 : cs.length ≤ 4) (hs : s0 ≤ 2 ∧ s1 ≤ 2 ∧ nx ≤ 2 ∧ s2 ≤ 2) (ht : tail.length ≤ 30 ∧ 10 ∉ tail) (hc : ∀ p ∈ cs, p.1 ∈ cnames ∧ p.2 ∈ twoK) (hz : tl z = List.replicate s0 32 ++ (tl ("tab" : Str) ++ (List.replicate s1 32 ++ (40 :: (joinL (sepL 0 nx) (cs.map colL) ++ (List.replicate s2 32 ++ (41 :: tail))))))) : LineOk z := by
  have hsep : (sepL 0 nx).length ≤ 5 := by
    unfold sepL
    rw [List.length_append, List.length_cons, List.length_replicate, List.length_replicate]
    omega
  have hj := joinL_le (sepL 0 nx) (c := 7) (n := 4) (ps := cs.map colL) (fun p hp => by
    obtain ⟨x, hx, rfl⟩ := List.mem_map.mp hp
    have := (pair_line (hc x hx)).1
    rw [len_tl, tl_pair] at this
    exact this) (by rw [List.length_map]; exact h4)
  have ht3 : (tl ("tab" : Str)).length = 3 ∧ 10 ∉ tl ("tab" : Str) := by decide +kernel
  refine ⟨?_, fun c => ?_⟩
  · rw [len_tl, hz]
    simp only [List.length_append, List.length_cons, List.length_replicate]
    omega
  · rw [hz] at c
    simp only [List.mem_append, List.mem_cons] at c
    rcases c with c | c | c | c | c | c | c | c
    · cases List.eq_of_mem_replicate c
    · exact ht3.2 c
    · cases List.eq_of_mem_replicate c
    · cases c
    · rcases mem_joinL c with c | ⟨p, hp, c⟩
      · unfold sepL at c
        rcases List.mem_append.mp c with c | c
        · cases List.eq_of_mem_replicate c
        · rcases List.mem_cons.mp c with c | c
          · cases c
          · cases List.eq_of_mem_replicate c
      · obtain ⟨x, hx, rfl⟩ := List.mem_map.mp hp
        have := (pair_line (hc x hx)).2
        rw [tl_pair] at this
        exact this c
    · cases List.eq_of_mem_replicate c
    · cases c
    · exact ht.2 c
theorem short_join {ls : List Str} (hne : ls ≠ []) (hl : ls.length ≤ 100) (h : ∀ z ∈ ls, LineOk z) : ShortZ (Txt.join "\n" ls) := by
  refine ⟨?_, ?_⟩
  · refine Nat.le_trans (txt_len "\n" ls (c := 300) fun z hz => (h z hz).1) ?_
    rw [show ("\n" : Str).length = 1 by decide +kernel]
    omega
  · rw [lines_join hne fun z hz => (h z hz).2]
    exact fun z hz => Nat.le_trans (h z hz).1 (by decide)
theorem row_len {cs : List (Str × Str)} {rows : List (List Vl)} (T : TabD cs rows) {r : List Vl} (hr : r ∈ rows) : r.length = cs.length := by
  have := congrArg List.length (T.row r hr).1
  rw [List.length_map, List.length_map] at this
  exact this
/-- the package's own text of a table -/
theorem tab_own {cs : List (Str × Str)} {rows : List (List Vl)} (T : TabD cs rows) : rdTable (tabT "tab" cs rows) = .ok (("tab", cs), rows) ∧ ShortZ (tabT "tab" cs rows) := by
  obtain ⟨p, q, e⟩ := cons_of T.ne
  have hh : rdTRow (none, []) (hdT "tab" cs) = .ok (some ("tab", cs), []) := head_rowL T.col T.len e .nil (by rw [e]; exact hdT_lay)
  have lh : LineOk (hdT "tab" cs) := head_line (tail := []) T.len (by decide : 0 ≤ 2 ∧ 0 ≤ 2 ∧ 1 ≤ 2 ∧ 0 ≤ 2) ⟨Nat.zero_le _, fun z => by cases z⟩ T.col (by rw [e, hdT_lay, lay_head])
  have lr : ∀ r ∈ rows, LineOk (rowT r) := fun r hr => by
    have hl := row_len T hr
    have hc := List.length_pos_iff.mpr T.ne
    obtain ⟨v, k, rfl⟩ := cons_of (l := r) (fun e => by rw [e] at hl; simp at hl; omega)
    exact lay_line (tail := []) (by have := T.len; omega) (by decide : 0 ≤ 2 ∧ 0 ≤ 2 ∧ 1 ≤ 2 ∧ 0 ≤ 2) ⟨Nat.zero_le _, fun z => by cases z⟩ (T.row _ hr).2 (by rw [rowT_lay, lay_row])
  have la : ∀ rs : List (List Vl), (∀ r ∈ rs, r ∈ rows) → AddL ("tab", cs) (rs.map rowT) rs := fun rs => by
    induction rs with
    | nil => exact fun _ => AddL.nil
    | cons r rs ih =>
      intro h
      have h1 := T.row r (h r List.mem_cons_self)
      exact AddL.app (ls := [rowT r]) (rs := [r]) (add_rowL (s0 := 0) (cm := 0) (nx := 1) (g := 0) (tail := []) h1.1 h1.2 T.ne T.len .nil noRun_nil fun v k e => by rw [e]; exact rowT_lay v k) (ih fun r' hr' => h r' (List.mem_cons_of_mem _ hr'))
  have all : ∀ z ∈ hdT "tab" cs :: rows.map rowT, LineOk z := fun z hz => by
    rcases List.mem_cons.mp hz with rfl | hz
    · exact lh
    · obtain ⟨r, hr, rfl⟩ := List.mem_map.mp hz
      exact lr r hr
  exact ⟨table_read hh (la rows fun r h => h) fun z hz => (all z hz).2, short_join (by simp) (by rw [List.length_cons, List.length_map]; have := T.rlen; omega) all⟩
/-! ### the law's own text -/
theorem gap_head {G : Str} {g : Nat} (hG : GapS G g) {cs : List (Str × Str)} {rows : List (List Vl)} (T : TabD cs rows) : rdTRow (none, []) (hdG G cs) = .ok (some ("tab", cs), []) ∧ LineOk (hdG G cs) := by
  obtain ⟨p, q, e⟩ := cons_of T.ne
  have tt : (32 :: 35 :: tl (" told" : Str)).length ≤ 30 ∧ 10 ∉ (32 :: 35 :: tl (" told" : Str)) := by decide +kernel
  have hg := hG.2
  exact ⟨head_rowL T.col T.len e (.blank (.hash _)) (by rw [e]; exact hdG_lay hG), head_line T.len ⟨hg, hg, hg, hg⟩ tt T.col (by rw [e, hdG_lay hG, lay_head])⟩
theorem gap_row {G : Str} {g : Nat} (hG : GapS G g) {cs : List (Str × Str)} {rows : List (List Vl)} (T : TabD cs rows) {r : List Vl} (hr : r ∈ rows) : AddL ("tab", cs) [rowG G r] [r] ∧ LineOk (rowG G r) := by
  have hg := hG.2
  have hl := row_len T hr
  have hc := List.length_pos_iff.mpr T.ne
  have h1 := T.row r hr
  refine ⟨add_rowL h1.1 h1.2 T.ne T.len (tail_blanks g) (by have := noRun_blank g noRun_nil; rw [List.append_nil] at this; exact this) fun v k e => by rw [e]; exact rowG_lay hG v k, ?_⟩
  obtain ⟨v, k, rfl⟩ := cons_of (l := r) (fun e => by rw [e] at hl; simp at hl; omega)
  refine lay_line (tail := List.replicate g 32) (by have := T.len; omega) ⟨hg, hg, Nat.zero_le _, hg⟩ ⟨by rw [List.length_replicate]; omega, fun z => ?_⟩ h1.2 (by rw [rowG_lay hG, lay_row])
  cases List.eq_of_mem_replicate z
def blanksL : List Str := ["", "  ", "# nothing"]
theorem blank_row {h : HeadV} {z : Str} (hz : z ∈ blanksL) : AddL h [z] [] ∧ LineOk z := by
  unfold blanksL at hz
  simp only [List.mem_cons, List.not_mem_nil, or_false] at hz
  rcases hz with rfl | rfl | rfl
  · exact ⟨AddL.blank (by rw [show tl ("" : Str) = [] by decide +kernel]; exact .nil), by decide +kernel, by decide +kernel⟩
  · exact ⟨AddL.blank (by rw [show tl ("  " : Str) = [32, 32] by decide +kernel]; exact .blank (.blank .nil)), by decide +kernel, by decide +kernel⟩
  · exact ⟨AddL.blank (by rw [show tl ("# nothing" : Str) = 35 :: tl (" nothing" : Str) by decide +kernel]; exact .hash _), by decide +kernel, by decide +kernel⟩
end Kx

namespace Kx
open PySem PySem.Spec PyProof.Rows L2 TL
/-! ### tables in the heap, and as data -/
section
variable {K : PySem.W.Frag}
theorem ColK.but {H H' : Hp} {d : Addr} (h : But d H H') (hd : ∃ l, H d = some (.lst l)) {v : V} {p : Str × Str} (k : ColK K H v p) : ColK K H' v p := by
  obtain ⟨t, e, k⟩ := k
  exact ⟨t, e, h.sqT hd k⟩
theorem RowK.but {H H' : Hp} {d : Addr} (h : But d H H') (hd : ∃ l, H d = some (.lst l)) {v : V} {r : List Vl} (k : RowK K H v r) : RowK K H' v r := by
  obtain ⟨t, e, k⟩ := k
  exact ⟨t, e, h.sqT hd k⟩
structure TabK (K : PySem.W.Frag) (H : Hp) (c R : Addr) (cs : List (Str × Str)) (rows : List (List Vl)) : Prop where
  ex : ∃ cxs rxs, SqT K H c cxs ∧ Paired (ColK K H) cxs cs ∧ H R = some (.lst rxs) ∧ Paired (RowK K H) rxs rows
theorem TabK.same {H H' : Hp} {c R : Addr} {cs : List (Str × Str)} {rows : List (List Vl)} (h : TabK K H c R cs rows) (s : Same H H') : TabK K H' c R cs rows := by
  obtain ⟨cxs, rxs, h1, h2, h3, h4⟩ := h.ex
  exact ⟨cxs, rxs, Same.sqT s h1, Paired.mapP h2 fun _ _ k => ColK.same s k, s _ _ h3, Paired.mapP h4 fun _ _ k => RowK.same s k⟩
theorem TabK.but {H H' : Hp} {c R d : Addr} {cs : List (Str × Str)} {rows : List (List Vl)} (h : TabK K H c R cs rows) (b : But d H H') (hd : ∃ l, H d = some (.lst l)) (n : R ≠ d) : TabK K H' c R cs rows := by
  obtain ⟨cxs, rxs, h1, h2, h3, h4⟩ := h.ex
  exact ⟨cxs, rxs, b.sqT hd h1, Paired.mapP h2 fun _ _ k => ColK.but b hd k, b _ _ n h3, Paired.mapP h4 fun _ _ k => RowK.but b hd k⟩
def colD (p : Str × Str) : PyData := .tuple [.str p.1, .str p.2]
def vlD : Vl → PyData
  | .num i => .int i
  | .quo z => .str z
def rowD (r : List Vl) : PyData := .tuple (r.map vlD)
def tabD (nm : Str) (cs : List (Str × Str)) (rows : List (List Vl)) : PyData := .tuple [.str nm, .tuple (cs.map colD), .list (rows.map rowD)]
theorem dp_paired {A : Type} {Q : V → A → Prop} {H : Hp} {f : A → PyData} {vs : List V} {as : List A} (h : Paired Q vs as) (k : ∀ v a, Q v a → Dp K H v (f a)) : DpAll K H vs (as.map f) := by
  induction h with
  | nil => exact .nil
  | cons h _ ih => exact .cons (k _ _ h) ih
theorem dp_vl {H : Hp} (x : Vl) : Dp K H (vlV x) (vlD x) := by
  cases x with
  | num i => exact .int i
  | quo z => exact .str z
theorem dp_vls {H : Hp} : ∀ r : List Vl, DpAll K H (r.map vlV) (r.map vlD)
  | [] => .nil
  | x :: r => .cons (dp_vl x) (dp_vls r)
theorem dp_colK {H : Hp} {v : V} {p : Str × Str} (h : ColK K H v p) : Dp K H v (colD p) := by
  obtain ⟨a, rfl, h⟩ := h
  exact .tup h (.cons (.str _) (.cons (.str _) .nil))
theorem dp_rowK {H : Hp} {v : V} {r : List Vl} (h : RowK K H v r) : Dp K H v (rowD r) := by
  obtain ⟨a, rfl, h⟩ := h
  exact .tup h (dp_vls r)
theorem dp_tabAt {H : Hp} {v : V} {h : HeadV} {rows : List (List Vl)} (t : TabAt H v (h, rows)) : Dp K H v (tabD h.1 h.2 rows) := by
  obtain ⟨a, rl, cv, vs, rfl, h1, ⟨ct, cxs, rfl, h2, h3⟩, h4, h5⟩ := t
  refine .tup (SqT.of h1) (.cons (.str _) (.cons (.tup (SqT.of h2) (dp_paired h3 fun v p q => ?_)) (.cons (.lst (SqL.of h4) (dp_paired h5 fun v r q => ?_)) .nil)))
  · obtain ⟨b, rfl, hb⟩ := q
    exact .tup (SqT.of hb) (.cons (.str _) (.cons (.str _) .nil))
  · obtain ⟨b, rfl, hb⟩ := q
    exact .tup (SqT.of hb) (dp_vls r)
theorem dp_three {H : Hp} {t c R : Addr} {nm : Str} {cs : List (Str × Str)} {rows : List (List Vl)} (h : SqT K H t [.str nm, .ref c, .ref R]) (k : TabK K H c R cs rows) : Dp K H (.ref t) (tabD nm cs rows) := by
  obtain ⟨cxs, rxs, h1, h2, h3, h4⟩ := k.ex
  exact .tup h (.cons (.str _) (.cons (.tup h1 (dp_paired h2 fun v p q => dp_colK q)) (.cons (.lst (SqL.of h3) (dp_paired h4 fun v r q => dp_rowK q)) .nil)))
theorem lay_all {A : Type} {f : A → PyData} : ∀ {as : List A}, (∀ a ∈ as, PyData.canLay0 (f a) = true) → PyData.canLayAll0 (as.map f) = true
  | [], _ => by simp [PyData.canLayAll0]
  | a :: r, h => by
    rw [List.map_cons, PyData.canLayAll0, h a List.mem_cons_self, Bool.true_and]
    exact lay_all fun q hq => h q (List.mem_cons_of_mem _ hq)
theorem depth_all {A : Type} {f : A → PyData} {n : Nat} : ∀ {as : List A}, (∀ a ∈ as, PyData.depth (f a) ≤ n) → PyData.depthAll (as.map f) ≤ n
  | [], _ => by simp [PyData.depthAll]
  | a :: r, h => by
    rw [List.map_cons, PyData.depthAll]
    exact Nat.max_le.mpr ⟨h a List.mem_cons_self, depth_all fun q hq => h q (List.mem_cons_of_mem _ hq)⟩
theorem str_facts : (∀ c ∈ cnames, PyData.strOk c = true) ∧ (∀ c ∈ twoK, PyData.strOk c = true) ∧ PyData.strOk "tab" = true := by decide +kernel
theorem tab_shaped {cs : List (Str × Str)} {rows : List (List Vl)} (T : TabD cs rows) : SeqAt.shaped (tabD "tab" cs rows) = true := by
  have l1 : PyData.canLayAll0 (cs.map colD) = true := lay_all fun p hp => by
    obtain ⟨h1, h2⟩ := T.col p hp
    show PyData.canLay0 (.tuple [.str p.1, .str p.2]) = true
    simp only [PyData.canLay0, PyData.canLayAll0, Bool.and_true, Bool.and_eq_true]
    exact ⟨str_facts.1 _ h1, str_facts.2.1 _ h2⟩
  have l2 : PyData.canLayAll0 (rows.map rowD) = true := lay_all fun r hr => by
    show PyData.canLay0 (.tuple (r.map vlD)) = true
    rw [PyData.canLay0]
    refine lay_all fun x hx => ?_
    have := (T.row r hr).2 x hx
    cases x with
    | num i => rfl
    | quo z => exact (wd_facts _ this).2.2.2
  have d1 : PyData.depthAll (cs.map colD) ≤ 1 := depth_all fun p hp => by
    show PyData.depth (.tuple [.str p.1, .str p.2]) ≤ 1
    simp [PyData.depth, PyData.depthAll]
  have d2 : PyData.depthAll (rows.map rowD) ≤ 1 := depth_all fun r hr => by
    show PyData.depth (.tuple (r.map vlD)) ≤ 1
    rw [PyData.depth]
    have : PyData.depthAll (r.map vlD) ≤ 0 := depth_all fun x hx => by
      cases x <;> simp [vlD, PyData.depth]
    omega
  unfold SeqAt.shaped tabD
  simp only [PyData.canLay0, PyData.canLayAll0, l1, l2, str_facts.2.2, Bool.and_true, Bool.true_and, PyData.depth, PyData.depthAll]
  exact decide_eq_true (by omega)
/-! ### displays whose items all are such -/
def LaysP (I : L2.St → Hp → Prop) (ta : TA) (n : Nat) (R : Hp → V → Prop) : Prop := ∀ (σ : L2.St) (H : Hp) (Q : List V → Hp → Prop), I σ H → (∀ (vs : List V) H', Same H H' → vs.length = n → (∀ v ∈ vs, R H' v) → Q vs H') → ta σ H Q
def GivesP (I : L2.St → Hp → Prop) (te : TE) (R : Hp → V → Prop) : Prop := ∀ (σ : L2.St) (H : Hp) (Q : VK), I σ H → (∀ v H', Same H H' → R H' v → Q v H') → te σ H Q
def StabI (I : L2.St → Hp → Prop) : Prop := ∀ σ H H', Same H H' → I σ H → I σ H'
def StabR (R : Hp → V → Prop) : Prop := ∀ H H' v, Same H H' → R H v → R H' v
theorem laysP_nil {I : L2.St → Hp → Prop} {R : Hp → V → Prop} : LaysP I tNil 0 R := fun _ H _ _ q => q [] H (Same.refl _) rfl fun v hv => by cases hv
theorem laysP_cons {I : L2.St → Hp → Prop} {R : Hp → V → Prop} {te : TE} {tr : TA} {n : Nat} (sI : StabI I) (sR : StabR R) (h : GivesP I te R) (r : LaysP I tr n R) : LaysP I (tCons te tr) (n + 1) R := fun σ H Q i q =>
  h σ H _ i fun v H1 s1 h1 => r σ H1 _ (sI _ _ _ s1 i) fun vs H2 s2 e h2 => q (v :: vs) H2 (s1.trans s2) (by rw [List.length_cons, e]) fun u hu => by
    rcases List.mem_cons.mp hu with rfl | hu
    · exact sR _ _ _ s2 h1
    · exact h2 u hu
theorem lst_ruleP {I : L2.St → Hp → Prop} {R : Hp → V → Prop} {ta : TA} {n : Nat} {σ : L2.St} {H : Hp} {Q : VK} (sR : StabR R) (h : LaysP I ta n R) (hl : n ≤ sizeLine) (i : I σ H) (q : ∀ L (vs : List V) H', Same H H' → vs.length = n → (∀ v ∈ vs, R H' v) → H' L = some (.lst vs) → Q (.ref L) H') : tLst ta σ H Q :=
  h σ H _ i fun vs H' s e w => ⟨by rw [e]; exact hl, fun L nL => q L vs _ (s.trans (same_upd nL)) e (fun p hp => sR _ _ _ (same_upd nL) (w p hp)) upd_same⟩
/-! ### the wrong texts' pairs -/
def WrgR (K : PySem.W.Frag) (H : Hp) (v : V) : Prop := ∃ q z x o, v = .ref q ∧ SqT K H q [z, x] ∧ AskT z o ∧ PlAt K H x o
theorem wrgR_stab : StabR (WrgR K) := fun H H' v s ⟨q, z, x, o, e, h1, h2, h3⟩ => ⟨q, z, x, o, e, Same.sqT s h1, h2, h3.same s⟩
def yesI : L2.St → Hp → Prop := fun _ _ => True
theorem yes_stab : StabI yesI := fun _ _ _ _ _ => trivial
theorem line_le {z : Str} {n : Nat} (h : z.length ≤ n) : ∀ y ∈ linesOf z, y.length ≤ n := fun y hy => by
  have h1 := lines_sum z
  have h2 := mem_sum hy
  have h3 : 0 < (linesOf z).length := List.length_pos_iff.mpr (linesOf_ne z)
  omega
theorem short_of {z : Str} (h : z.length ≤ 100) : ShortZ z := ⟨Nat.le_trans h (by decide), fun y hy => Nat.le_trans (line_le h y hy) (by decide)⟩
theorem wrong_ask {z : Str} {a b : Nat} (h : (some z, (a, b)) ∈ wrongs) : AskT (.str z) (some (a, b)) := by
  have := List.all_eq_true.mp wrongs_ok _ h
  unfold wrongB at this
  simp only [Bool.and_eq_true] at this
  exact .inr ⟨z, rfl, short_of (of_decide_eq_true this.1), of_decide_eq_true this.2⟩
theorem give_wrong {v : V} {a b : Nat} {a' b' : Int} (h : AskT v (some (a, b))) (ea : a' = (a : Int)) (eb : b' = (b : Int)) : GivesP yesI (tTup (tCons (tC v) (tCons (tTup (tCons (tC (.int a')) (tCons (tC (.int b')) tNil))) tNil))) (WrgR K) := fun σ H Q _ q => by
  subst ea eb
  refine ⟨by show 2 ≤ sizeLine; decide, fun p hp => ⟨by show 2 ≤ sizeLine; decide, fun t ht => ?_⟩⟩
  have s1 := same_upd (o := .tup [.int (a : Int), .int (b : Int)]) hp
  have s2 := same_upd (o := .tup [v, .ref p]) ht
  exact q _ _ (s1.trans s2) ⟨t, v, _, some (a, b), rfl, SqT.of upd_same, h, p, rfl, SqT.of (s2 _ _ upd_same)⟩
theorem wr {z : Str} {a b : Nat} {a' b' : Int} (i : Nat) (h : wrongs[i]? = some (some z, (a, b))) (ea : a' = (a : Int)) (eb : b' = (b : Int)) : GivesP yesI (tTup (tCons (tC (.str z)) (tCons (tTup (tCons (tC (.int a')) (tCons (tC (.int b')) tNil))) tNil))) (WrgR K) := give_wrong (wrong_ask (List.mem_of_getElem? h)) ea eb
end
end Kx

namespace Kx
open PySem PySem.Spec PyProof.Rows L2 TL
/-! ### what no text tells -/
section
variable {K : PySem.W.Frag}
def ColsV (K : PySem.W.Frag) (cs : List (Str × Str)) (H : Hp) (v : V) : Prop := ∃ c cxs, v = .ref c ∧ SqT K H c cxs ∧ Paired (ColK K H) cxs cs
def RowsV (K : PySem.W.Frag) (rows : List (List Vl)) (H : Hp) (v : V) : Prop := ∃ a rxs, v = .ref a ∧ (SqL K H a rxs ∨ SqT K H a rxs) ∧ Paired (RowK K H) rxs rows
theorem colsV_stab {cs : List (Str × Str)} : StabR (ColsV K cs) := fun H H' v s ⟨c, cxs, e, h1, h2⟩ => ⟨c, cxs, e, Same.sqT s h1, Paired.mapP h2 fun _ _ k => ColK.same s k⟩
theorem rowsV_stab {rows : List (List Vl)} : StabR (RowsV K rows) := fun H H' v s ⟨a, rxs, e, h1, h2⟩ => ⟨a, rxs, e, h1.imp (Same.sqL s) (Same.sqT s), Paired.mapP h2 fun _ _ k => RowK.same s k⟩
structure SideT (nm : Str) (cs : List (Str × Str)) (rows : List (List Vl)) : Prop where
  nm : nm.length ≤ 100
  cl : cs.length ≤ 61
  cw : ∀ p ∈ cs, p.1.length ≤ 100 ∧ p.2.length ≤ 10
  rl : rows.length ≤ 60
  rw : ∀ r ∈ rows, r.length ≤ 100 ∧ ∀ x ∈ r, SmlV x
def BadR (K : PySem.W.Frag) (H : Hp) (v : V) : Prop := ∃ q nm vc vr cs rows, v = .ref q ∧ SqT K H q [.str nm, vc, vr] ∧ ColsV K cs H vc ∧ RowsV K rows H vr ∧ SideT nm cs rows ∧ ttB nm cs rows = false
theorem badR_stab : StabR (BadR K) := fun H H' v s ⟨q, nm, vc, vr, cs, rows, e, h1, h2, h3, h4⟩ => ⟨q, nm, vc, vr, cs, rows, e, Same.sqT s h1, colsV_stab _ _ _ s h2, rowsV_stab _ _ _ s h3, h4⟩
def colA : List (Str × Str) := [("a", "int")]
def colB2 : List (Str × Str) := [("a", "text")]
def BadI (K : PySem.W.Frag) (cs : List (Str × Str)) (rows : List (List Vl)) (σ : L2.St) (H : Hp) : Prop := σ.length = 23 ∧ (∃ v, σ[4]? = some (some v) ∧ ColsV K cs H v) ∧ (∃ v, σ[8]? = some (some v) ∧ RowsV K rows H v) ∧ (∃ v, σ[18]? = some (some v) ∧ ColsV K colA H v) ∧ ∃ v, σ[19]? = some (some v) ∧ ColsV K colB2 H v
theorem badI_stab {cs : List (Str × Str)} {rows : List (List Vl)} : StabI (BadI K cs rows) := fun σ H H' s ⟨l, ⟨v4, e4, h4⟩, ⟨v8, e8, h8⟩, ⟨va, ea, ha⟩, ⟨vb, eb, hb⟩⟩ => ⟨l, ⟨v4, e4, colsV_stab _ _ _ s h4⟩, ⟨v8, e8, rowsV_stab _ _ _ s h8⟩, ⟨va, ea, colsV_stab _ _ _ s ha⟩, ⟨vb, eb, colsV_stab _ _ _ s hb⟩⟩
section
variable {cs : List (Str × Str)} {rows : List (List Vl)}
theorem g_v4 : GivesP (BadI K cs rows) (tVar 4) (ColsV K cs) := fun σ H Q ⟨_, ⟨v, e, h⟩, _⟩ q => ⟨v, e, q v H (Same.refl _) h⟩
theorem g_v8 : GivesP (BadI K cs rows) (tVar 8) (RowsV K rows) := fun σ H Q ⟨_, _, ⟨v, e, h⟩, _⟩ q => ⟨v, e, q v H (Same.refl _) h⟩
theorem g_v18 : GivesP (BadI K cs rows) (tVar 18) (ColsV K colA) := fun σ H Q ⟨_, _, _, ⟨v, e, h⟩, _⟩ q => ⟨v, e, q v H (Same.refl _) h⟩
theorem g_v19 : GivesP (BadI K cs rows) (tVar 19) (ColsV K colB2) := fun σ H Q ⟨_, _, _, _, ⟨v, e, h⟩⟩ q => ⟨v, e, q v H (Same.refl _) h⟩
end
section
variable {I : L2.St → Hp → Prop}
theorem g_cols0 : GivesP I (tTup tNil) (ColsV K []) := fun σ H Q _ q => ⟨Nat.zero_le _, fun p hp => q _ _ (same_upd hp) ⟨p, [], rfl, SqT.of upd_same, .nil⟩⟩
theorem g_cols1 {x k : Str} : GivesP I (tTup (tCons (tTup (tCons (tC (.str x)) (tCons (tC (.str k)) tNil))) tNil)) (ColsV K [(x, k)]) := fun σ H Q _ q => by
  refine ⟨by show 2 ≤ sizeLine; decide, fun p hp => ⟨by show 1 ≤ sizeLine; decide, fun t ht => ?_⟩⟩
  have s1 := same_upd (o := .tup [.str x, .str k]) hp
  have s2 := same_upd (o := .tup [.ref p]) ht
  exact q _ _ (s1.trans s2) ⟨t, _, rfl, SqT.of upd_same, .cons ⟨p, rfl, SqT.of (s2 _ _ upd_same)⟩ .nil⟩
theorem g_rows0 : GivesP I (tLst tNil) (RowsV K []) := fun σ H Q _ q => ⟨Nat.zero_le _, fun p hp => q _ _ (same_upd hp) ⟨p, [], rfl, .inl (SqL.of upd_same), .nil⟩⟩
theorem g_rows1 {te : TE} {x : Vl} (h : ∀ (σ : L2.St) (H : Hp) (Q : VK), Q (vlV x) H → te σ H Q) : GivesP I (tLst (tCons (tTup (tCons te tNil)) tNil)) (RowsV K [[x]]) := fun σ H Q _ q => by
  refine h σ H _ ⟨by show 1 ≤ sizeLine; decide, fun p hp => ⟨by show 1 ≤ sizeLine; decide, fun t ht => ?_⟩⟩
  have s1 := same_upd (o := .tup [vlV x]) hp
  have s2 := same_upd (o := .lst [.ref p]) ht
  exact q _ _ (s1.trans s2) ⟨t, _, rfl, .inl (SqL.of upd_same), .cons ⟨p, rfl, SqT.of (s2 _ _ upd_same)⟩ .nil⟩
theorem g_bad {te2 te3 : TE} {nm : Str} {cs : List (Str × Str)} {rows : List (List Vl)} (sI : StabI I) (h2 : GivesP I te2 (ColsV K cs)) (h3 : GivesP I te3 (RowsV K rows)) (hs : SideT nm cs rows) (hb : ttB nm cs rows = false) : GivesP I (tTup (tCons (tC (.str nm)) (tCons te2 (tCons te3 tNil)))) (BadR K) := fun σ H Q i q =>
  h2 σ H _ i fun v2 H2 s2 k2 => h3 σ H2 _ (sI _ _ _ s2 i) fun v3 H3 s3 k3 => ⟨by show 3 ≤ sizeLine; decide, fun p hp => by
    have s4 := same_upd (o := .tup [.str nm, v2, v3]) hp
    exact q _ _ (s2.trans (s3.trans s4)) ⟨p, nm, v2, v3, cs, rows, rfl, SqT.of upd_same, colsV_stab _ _ _ (s3.trans s4) k2, rowsV_stab _ _ _ s4 k3, hs, hb⟩⟩
end
theorem tt_name {nm : Str} {cs : List (Str × Str)} {rows : List (List Vl)} (h : isNm nm = false) : ttB nm cs rows = false := by
  unfold ttB
  rw [h]
  rfl
theorem tt_cols {nm : Str} {cs : List (Str × Str)} {rows : List (List Vl)} (h : colsB cs = false) : ttB nm cs rows = false := by
  unfold ttB
  rw [h, Bool.false_and, Bool.and_false]
theorem side_d {nm : Str} {cs : List (Str × Str)} {rows : List (List Vl)} (hn : nm.length ≤ 100) (T : TabD cs rows) : SideT nm cs rows :=
  ⟨hn, Nat.le_trans T.len (by decide), fun p hp => by
    obtain ⟨h1, h2⟩ := T.col p hp
    have := (cn_facts _ h1).2.2.2.1
    have := (tk_facts _ h2).2.1
    omega, Nat.le_trans T.rlen (by decide), fun r hr => ⟨by rw [row_len T hr]; exact Nat.le_trans T.len (by decide), fun x hx => vd_sml ((T.row r hr).2 x hx)⟩⟩
def sideB (nm : Str) (cs : List (Str × Str)) (rows : List (List Vl)) : Bool := decide (nm.length ≤ 100) && decide (cs.length ≤ 61) && cs.all (fun p => decide (p.1.length ≤ 100 ∧ p.2.length ≤ 10)) && decide (rows.length ≤ 60) && rows.all fun r => decide (r.length ≤ 100) && r.all fun x => match x with
  | .num i => decide (i.natAbs < 2 ^ 64)
  | .quo z => decide (z.length ≤ 100)
theorem side_b {nm : Str} {cs : List (Str × Str)} {rows : List (List Vl)} (h : sideB nm cs rows = true) : SideT nm cs rows := by
  unfold sideB at h
  simp only [Bool.and_eq_true, List.all_eq_true] at h
  obtain ⟨⟨⟨⟨h1, h2⟩, h3⟩, h4⟩, h5⟩ := h
  refine ⟨of_decide_eq_true h1, of_decide_eq_true h2, fun p hp => of_decide_eq_true (h3 p hp), of_decide_eq_true h4, fun r hr => ⟨of_decide_eq_true (h5 r hr).1, fun x hx => ?_⟩⟩
  have := (h5 r hr).2 x hx
  cases x with
  | num i =>
    show i.natAbs < 2 ^ 64
    exact of_decide_eq_true this
  | quo z =>
    show z.length ≤ 100
    exact of_decide_eq_true this
/-! the columns that are too many -/
def colN (i : Nat) : Str := ("c" : Str) ++ Str.ofString (toString ((0 : Int) + (i : Nat)))
theorem colN_len {i : Nat} (h : i < 2 ^ 64) : (colN i).length ≤ 21 := by
  unfold colN
  rw [len2', show ("c" : Str).length = 1 by decide +kernel, Int.zero_add]
  have := num_len h
  unfold numZ at this
  omega
def manyC (n : Nat) : List (Str × Str) := (List.range n).map fun i => (colN i, "int")
theorem g_many {I : L2.St → Hp → Prop} (hI : ∀ σ H, I σ H → σ.length = 23) {te : TE} (hte : te = tCB (fun xs H Q => ∃ p ys, xs = [.ref p] ∧ ((SqL K H p ys ∧ ∀ l, H l = none → Q (.ref l) (upd H l (.tup ys))) ∨ (SqT K H p ys ∧ Q (.ref p) H))) (tCons (tLc (iRng1 (tCons (tC (.int 61)) tNil)) (gName 5) tYes (tTup (tCons (tOp (fun x y H Q => ∃ i j, x = V.str i ∧ y = V.str j ∧ i.length + j.length ≤ sizeLine ∧ Q (V.str (i ++ j)) H) (tC (.str "c")) (tCB (fun xs H Q => ∃ i, xs = [V.int i] ∧ i.natAbs.log2 < 1920 ∧ Q (V.str (Str.ofString (toString i))) H) (tCons (tVar 5) tNil))) (tCons (tC (.str "int")) tNil))) [5]) tNil)) : GivesP I te (ColsV K (manyC 61)) := fun σ H Q i q => by
  subst hte
  have h23 := hI σ H i
  refine ⟨61, rfl, by decide, by decide, fun D hD => ?_⟩
  refine lc_range (lo := 0) (n := 61) (fun j H' => ∃ as : List V, Same H H' ∧ H' D = some (.lst as) ∧ Paired (ColK K H') as ((manyC 61).take j)) ⟨[], same_upd hD, upd_same, .nil⟩ ?_ ?_
  · rintro j H2 hj ⟨as, s2, e2, p2⟩
    refine ⟨?_, V.int (0 + (j : Nat)), ?_, 0 + (j : Nat), rfl, ?_, ("c" : Str), Str.ofString (toString ((0 : Int) + (j : Nat))), rfl, rfl, ?_, by show 2 ≤ sizeLine; decide, fun t ht => ?_⟩
    · show ((σ.set 5 none).set 5 (some (.int (0 + (j : Nat))))).set 5 none = σ.set 5 none
      rw [List.set_set, List.set_set]
    · show ((σ.set 5 none).set 5 (some (.int (0 + (j : Nat)))))[5]? = some (some (.int (0 + (j : Nat))))
      rw [List.getElem?_set_self]
      rw [List.length_set, h23]
      decide
    · exact log_sml (by
        have : (61 : Nat) < 2 ^ 64 := by decide
        omega)
    · have := colN_len (i := j) (by
        have : (61 : Nat) < 2 ^ 64 := by decide
        omega)
      unfold colN at this
      rw [len2'] at this
      exact Nat.le_trans this (by decide)
    · have s3 := same_upd (o := .tup [.str (colN j), .str "int"]) ht
      have la := Paired.length p2
      rw [List.length_take] at la
      have keep : ∀ {o : HO} {v : V} {p : Str × Str}, ColK K (upd H2 t (.tup [.str (colN j), .str "int"])) v p → ColK K (upd (upd H2 t (.tup [.str (colN j), .str "int"])) D o) v p := fun k => ColK.but (d := D) (fun b o hb e => by rw [upd_ne hb]; exact e) ⟨_, s3 _ _ e2⟩ k
      refine ⟨as, s3 _ _ e2, Nat.lt_of_le_of_lt (show as.length ≤ 61 by omega) (by decide), as ++ [.ref t], fun b o e => ?_, upd_same, ?_⟩
      · rw [upd_ne (ne_of_none e hD)]
        exact s3 _ _ (s2 _ _ e)
      · have hj' : (manyC 61)[j]? = some (colN j, ("int" : Str)) := by
          unfold manyC
          rw [List.getElem?_map, List.getElem?_range hj]
          rfl
        rw [List.take_add_one, hj']
        exact Paired.snoc (Paired.mapP p2 fun _ _ k => keep (ColK.same s3 k)) (keep ⟨t, rfl, SqT.of upd_same⟩)
  · rintro H2 ⟨as, s2, e2, p2⟩
    have e61 : (manyC 61).take 61 = manyC 61 := List.take_of_length_le (by unfold manyC; rw [List.length_map, List.length_range]; exact Nat.le_refl _)
    rw [e61] at p2
    refine ⟨D, as, rfl, .inl ⟨SqL.of e2, fun l hl => ?_⟩⟩
    have s3 := same_upd (o := .tup as) hl
    exact q _ _ (s2.trans s3) ⟨l, as, rfl, SqT.of upd_same, Paired.mapP p2 fun _ _ k => ColK.same s3 k⟩
theorem many_side : SideT "tab" (manyC 61) [] :=
  ⟨by decide +kernel, by unfold manyC; rw [List.length_map, List.length_range]; exact Nat.le_refl _, fun p hp => by
    unfold manyC at hp
    obtain ⟨i, hi, rfl⟩ := List.mem_map.mp hp
    have hi := List.mem_range.mp hi
    refine ⟨Nat.le_trans (colN_len (by
      have : (61 : Nat) < 2 ^ 64 := by decide
      omega)) (by decide), by show ("int" : Str).length ≤ 10; decide +kernel⟩, Nat.zero_le _, fun r hr => by cases hr⟩
theorem many_bad : colsB (manyC 61) = false := by
  unfold colsB
  have : (manyC 61).length = 61 := by unfold manyC; rw [List.length_map, List.length_range]
  rw [this]
  rfl
end
end Kx

namespace Kx
open PySem PySem.Spec PyProof.Rows L2 TL
abbrev s_law : Stmt := topS 50
theorem lookup_relabel_free {env : Env} : ∀ {names : List (Str × NameKind)} {x : Str}, (names.lookup x = some .free ∨ names.lookup x = some .cell) →
    (names.map fun (n, k) => if (k == NameKind.free && env.scope.kind == .function && env.kindOf n == some .cell) then (n, NameKind.cell) else (n, k)).lookup x = some .cell ∨ (names.map fun (n, k) => if (k == NameKind.free && env.scope.kind == .function && env.kindOf n == some .cell) then (n, NameKind.cell) else (n, k)).lookup x = some .free
  | [], _, h => by simp at h
  | (n, k) :: r, x, h => by
    have ih := @lookup_relabel_free env r x
    show List.lookup x ((if (k == NameKind.free && env.scope.kind == .function && env.kindOf n == some .cell) = true then (n, NameKind.cell) else (n, k)) :: _) = _ ∨ List.lookup x ((if (k == NameKind.free && env.scope.kind == .function && env.kindOf n == some .cell) = true then (n, NameKind.cell) else (n, k)) :: _) = _
    cases hx : x == n with
    | true =>
      simp only [List.lookup_cons, hx] at h
      by_cases hc : (k == NameKind.free && env.scope.kind == .function && env.kindOf n == some .cell) = true
      · rw [if_pos hc]; simp [List.lookup_cons, hx]
      · rw [if_neg hc]; simp only [List.lookup_cons, hx]; exact h.symm
    | false =>
      simp only [List.lookup_cons, hx] at h
      by_cases hc : (k == NameKind.free && env.scope.kind == .function && env.kindOf n == some .cell) = true
      · rw [if_pos hc]; simp only [List.lookup_cons, hx]; exact ih h
      · rw [if_neg hc]; simp only [List.lookup_cons, hx]; exact ih h
/-- a comprehension within a comprehension -/
theorem blk_in {N : List Str} {sc scope : Scope} {own : List (Str × Nat)} {env : Env} (b : BlkOk N sc scope own) : BlkOk N (relabel sc env) scope own :=
  ⟨b.kind, b.uniq, b.ix, fun y hy e => lookup_relabel_free (b.free y hy e).symm, b.own⟩
theorem ends_nx {nx : L2.St → Hp → Prop} {rt : VK} {bk ct : L2.St → Hp → Prop} {σ : L2.St} {H : Hp} (h : nx σ H) : (Ends.mk nx rt bk ct).nx σ H := h
theorem seq_tup2 {t1 t2 : TE} {g : TG} {u : TS} {D : Ends} {σ : L2.St} {H : Hp} (h : t1 σ H fun v1 H1 => t2 σ H1 fun v2 H2 => 2 ≤ sizeLine ∧ ∀ p, H2 p = none → g (.ref p) σ (upd H2 p (.tup [v1, v2])) fun σ3 H3 => u D σ3 H3) : tSeq (tAsg (tTup (tCons t1 (tCons t2 tNil))) g) u D σ H := h
abbrev tTupOf (K : PySem.W.Frag) (t : TA) : TE := tCB (fun xs H Q => ∃ p ys, xs = [.ref p] ∧ ((SqL K H p ys ∧ ∀ l, H l = none → Q (.ref l) (upd H l (.tup ys))) ∨ (SqT K H p ys ∧ Q (.ref p) H))) t
section
variable {P : Program} {w : World} {K : PySem.W.Frag} {mg : Str → Option Value} {base : Heap}
def spLaw (K : PySem.W.Frag) : Sp := fun vs H Q _ => ∃ (a : Addr) (xs : List Int), vs = [.ref a] ∧ SqL K H a (xs.map V.int) ∧ ∀ H', Q (.bl true) H'
abbrev N_law : List Str := ["script", "draw", "kinds", "turn", "columns", "at", "kind", "words", "rows", "gap", "lines", "name", "row", "parts", "value", "wrong", "text", "place", "numbers", "texts", "bad", "some", "told"]
theorem sc_law : FnScope N_law ["script"] (defScope s_law) := ⟨rfl, rfl, rfl, by decide +kernel, rfl, by decide +kernel, by decide +kernel⟩
theorem ok_law {f C CB fB : Addr} {fd : FuncData} (F : Fun K "law" "law" s_law f fd) (TB : PySem.BadX.BadTxt K mg CB fB) (m_range : mg "range" = none) (m_tuple : mg "tuple" = none) (m_str : mg "str" = none) (m_enumerate : mg "enumerate" = none) (m_isinstance : mg "isinstance" = none) (m_abs : mg "abs" = none)
    (G_next : Ready P w K mg base 3 "_law_next" ["draw", "bound"] spNext) (G_pick : Ready P w K mg base 4 "_law_pick" ["draw", "things"] (spPick K)) (G_by : ReadyX P w K mg base 8 "table_by" ["text"] (spTabBy C)) (G_tt : ReadyX P w K mg base 6 "table_text" ["name", "columns", "rows"] (spTT K CB)) (G_place : Ready P w K mg base 9 "_law_place" ["text"] (spPlace K)) :
    FnOk P w K mg base CX0 10 f fd ["script"] (spLaw K) := by
  refine F.ok sc_law (fun vs H Q E h => ?_) (fun cdv A outer s0 H vs Q E hr h => ?_)
  · obtain ⟨a, xs, rfl, _⟩ := h
    rfl
  obtain ⟨a, xs, rfl, hS, q⟩ := h
  have nd := sc_law.nd
  have hu64 : _ + 64 < cLine := hr.units
  have r9 : Room 9 _ := hr
  have r8 : Room 8 _ := hr.mono (by decide)
  have r6 : Room 6 _ := hr.mono (by decide)
  have r4 : Room 4 _ := hr.mono (by decide)
  have r3 : Room 3 _ := hr.mono (by decide)
  refine ⟨_, pss_cons (ps_set (i := 1) nd rfl (.inr rfl) (pe_lst (pa_cons (pe_slice sl_list (pv 0) po_none (po_some pe_int)) (pa_cons pe_int (pa_cons pe_int pa_nil)))))
      (pss_cons (ps_set (i := 2) nd rfl (.inr rfl) (pe_lc (own := [("turn", 3)]) (g := gName 3) (tt := tYes) rfl nd (pi_range1 rfl m_range (pa_cons (pe_op op_add pe_int (pe_fn G_next r3 (pa_cons (pv 1) (pa_cons pe_int pa_nil)))) pa_nil)) (blkOk_by (N := N_law) (sc := defScope s_law) (by decide +kernel)) (fun _ _ _ _ _ => pg_name (i := 3) nd rfl (Or.inl rfl)) (fun _ _ _ _ _ => pts_nil) (fun _ _ _ _ _ => (pe_fn G_pick r4 (pa_cons (pv 1) (pa_cons (pe_tup (pa_cons pe_str (pa_cons pe_str pa_nil))) pa_nil))))))
      (pss_cons (ps_set (i := 4) nd rfl (.inl rfl) (pe_callTy call_tuple_of (by rfl) m_tuple PyProof.Rows.boot_tuple (pa_cons (pe_lc (own := [("at", 5), ("kind", 6)]) (g := (gTup K 2 (gCons (gName 5) (gCons (gName 6) gNil)))) (tt := tYes) rfl nd (pi_enum (by rfl) m_enumerate (pa_cons (pv 2) pa_nil)) (blkOk_by (N := N_law) (sc := defScope s_law) (by decide +kernel)) (fun _ _ _ _ _ => pg_tup rfl (pgs_cons (pg_name (i := 5) nd rfl (Or.inl rfl)) (pgs_cons (pg_name (i := 6) nd rfl (Or.inl rfl)) pgs_nil))) (fun _ _ _ _ _ => pts_nil) (fun _ _ _ _ _ => (pe_tup (pa_cons (pe_op op_add_str pe_str (pe_callTy call_str_int (by rfl) m_str PyProof.Rows.boot_str (pa_cons (pv 5) pa_nil))) (pa_cons (pv 6) pa_nil))))) pa_nil)))
      (pss_cons (ps_set (i := 7) nd rfl (.inr rfl) (pe_tup (pa_cons pe_str (pa_cons pe_str (pa_cons pe_str (pa_cons pe_str (pa_cons pe_str (pa_cons pe_str (pa_cons pe_str pa_nil)))))))))
      (pss_cons (ps_setLc (i := 8) (own := [("turn", 3)]) (g := gName 3) (tt := tYes) (te := tTupOf K (tCons (tLc (iList K (tVar 2)) (gName 6) tYes (tIf _ _ (tCall (spPick K) [] E0 _)) [6]) tNil)) rfl nd rfl rfl (sw_true rfl rfl rfl (by decide +kernel)) (pi_range1 rfl m_range (pa_cons (pe_fn G_next r3 (pa_cons (pv 1) (pa_cons pe_int pa_nil))) pa_nil)) (blkOk_by (N := N_law) (sc := defScope s_law) (by decide +kernel)) (fun _ _ _ _ _ => pg_name (i := 3) nd rfl (Or.inl rfl)) (fun _ _ _ _ _ => pts_nil) (fun _ _ _ _ _ => (pe_callTy call_tuple_of (by rfl) m_tuple PyProof.Rows.boot_tuple (pa_cons (pe_lc (own := [("kind", 6)]) (g := gName 6) (tt := tYes) rfl nd (pi_list (pv 2)) (blk_in (blkOk_by (N := N_law) (by decide +kernel))) (fun _ _ _ _ _ => pg_name (i := 6) nd rfl (Or.inl rfl)) (fun _ _ _ _ _ => pts_nil) (fun _ _ _ _ _ => (pe_ifExp (pt_cmpR op_eq (pv 6) pe_str (nomark _)) (pe_op op_sub (pe_fn G_next r3 (pa_cons (pv 1) (pa_cons pe_int pa_nil))) pe_int) (pe_fn G_pick r4 (pa_cons (pv 1) (pa_cons (pv 7) pa_nil)))))) pa_nil))))
      (pss_cons (ps_if (PW.pt (pw_or (pt_cmpR (op_neD hu64) (pe_fnN G_by r8 (pa_cons (pe_fnN G_tt r6 (pa_cons pe_str (pa_cons (pv 4) (pa_cons (pv 8) pa_nil)))) pa_nil)) (pe_tup (pa_cons pe_str (pa_cons (pv 4) (pa_cons (pv 8) pa_nil)))) (nomark _)) (pw_or1 (pt_cmpR (op_neD hu64) (pe_fnN G_by r8 (pa_cons (pe_fnN G_tt r6 (pa_cons pe_str (pa_cons (pv 4) (pa_cons (pe_callTy call_tuple_of (by rfl) m_tuple PyProof.Rows.boot_tuple (pa_cons (pv 8) pa_nil)) pa_nil)))) pa_nil)) (pe_tup (pa_cons pe_str (pa_cons (pv 4) (pa_cons (pv 8) pa_nil)))) (nomark _))))) (pss_one (ps_ret pe_bl)) pss_nil)
      (pss_cons (ps_set (i := 9) nd rfl (.inr rfl) (pe_fn G_pick r4 (pa_cons (pv 1) (pa_cons (pe_tup (pa_cons pe_str (pa_cons pe_str (pa_cons pe_str pa_nil)))) pa_nil))))
      (pss_cons (ps_set (i := 10) nd rfl (.inl rfl) (pe_lst (pa_cons (pe_op op_add_str (pe_op op_add_str (pe_op op_add_str (pe_op op_add_str (pe_op op_add_str (pe_op op_add_str (pv 9) pe_str) (pv 9)) pe_str) (pe_join (pe_op op_add_str pe_str (pv 9)) (pe_lc (own := [("name", 11), ("kind", 6)]) (g := (gTup K 2 (gCons (gName 11) (gCons (gName 6) gNil)))) (tt := tYes) rfl nd (pi_tup (pv 4)) (blkOk_by (N := N_law) (sc := defScope s_law) (by decide +kernel)) (fun _ _ _ _ _ => pg_tup rfl (pgs_cons (pg_name (i := 11) nd rfl (Or.inl rfl)) (pgs_cons (pg_name (i := 6) nd rfl (Or.inl rfl)) pgs_nil))) (fun _ _ _ _ _ => pts_nil) (fun _ _ _ _ _ => (pe_op op_add_str (pe_op op_add_str (pv 11) pe_str) (pv 6)))))) (pv 9)) pe_str) pa_nil)))
      (pss_cons (ps_for PassesOwn.never rfl (pi_list (pv 8)) (pg_name (i := 12) nd rfl (Or.inl rfl)) (pss_cons (ps_setLc (i := 13) (own := [("value", 14)]) (g := gName 14) (tt := tYes) (te := tIf (tB (tCB (rIsi K) _)) _ _) rfl nd rfl rfl (sw_true rfl rfl rfl (by decide +kernel)) (pi_tup (pv 12)) (blkOk_by (N := N_law) (sc := defScope s_law) (by decide +kernel)) (fun _ _ _ _ _ => pg_name (i := 14) nd rfl (Or.inl rfl)) (fun _ _ _ _ _ => pts_nil) (fun _ _ _ _ _ => (pe_ifExp (pt_val (pe_callB call_isi (by rfl) m_isinstance PyProof.Rows.boot_isinstance (pa_cons (pv 14) (pa_cons (pe_bltn (v := .ty "str") (by rfl) m_str PyProof.Rows.boot_str rfl) pa_nil)))) (pe_op op_add_str (pe_op op_add_str pe_str (pv 14)) pe_str) (pe_op op_add_str (pe_ifExp (pt_cmpR op_lt (pv 14) pe_int (nomark _)) (pe_op op_add_str pe_str (pv 9)) pe_str) (pe_callTy call_str_int (by rfl) m_str PyProof.Rows.boot_str (pa_cons (pe_callB call_abs (by rfl) m_abs (by decide +kernel) (pa_cons (pv 14) pa_nil)) pa_nil)))))) (pss_one (ps_set (i := 10) nd rfl (.inl rfl) (pe_op op_cat (pe_op op_cat (pv 10) (pe_lst (pa_cons (pe_op op_add_str (pe_op op_add_str (pv 9) (pe_join (pe_op op_add_str (pv 9) pe_str) (pv 13))) (pv 9)) pa_nil))) (pe_op op_rep (pe_lst (pa_cons (pe_fn G_pick r4 (pa_cons (pv 1) (pa_cons (pe_tup (pa_cons pe_str (pa_cons pe_str (pa_cons pe_str pa_nil)))) pa_nil))) pa_nil)) (pe_fn G_next r3 (pa_cons (pv 1) (pa_cons pe_int pa_nil)))))))))
      (pss_cons (ps_if (pt_cmpR (op_neD hu64) (pe_fnN G_by r8 (pa_cons (pe_join pe_str (pv 10)) pa_nil)) (pe_tup (pa_cons pe_str (pa_cons (pv 4) (pa_cons (pv 8) pa_nil)))) (nomark _)) (pss_one (ps_ret pe_bl)) pss_nil)
      (pss_cons (ps_set (i := 15) nd rfl (.inl rfl) (pe_lst (pa_cons (pe_tup (pa_cons pe_str (pa_cons (pe_tup (pa_cons pe_int (pa_cons pe_int pa_nil))) pa_nil))) (pa_cons (pe_tup (pa_cons pe_str (pa_cons (pe_tup (pa_cons pe_int (pa_cons pe_int pa_nil))) pa_nil))) (pa_cons (pe_tup (pa_cons pe_str (pa_cons (pe_tup (pa_cons pe_int (pa_cons pe_int pa_nil))) pa_nil))) (pa_cons (pe_tup (pa_cons pe_str (pa_cons (pe_tup (pa_cons pe_int (pa_cons pe_int pa_nil))) pa_nil))) (pa_cons (pe_tup (pa_cons pe_str (pa_cons (pe_tup (pa_cons pe_int (pa_cons pe_int pa_nil))) pa_nil))) (pa_cons (pe_tup (pa_cons pe_str (pa_cons (pe_tup (pa_cons pe_int (pa_cons pe_int pa_nil))) pa_nil))) (pa_cons (pe_tup (pa_cons pe_str (pa_cons (pe_tup (pa_cons pe_int (pa_cons pe_int pa_nil))) pa_nil))) (pa_cons (pe_tup (pa_cons pe_str (pa_cons (pe_tup (pa_cons pe_int (pa_cons pe_int pa_nil))) pa_nil))) pa_nil))))))))))
      (pss_cons (ps_set (i := 15) nd rfl (.inl rfl) (pe_op op_cat (pv 15) (pe_lst (pa_cons (pe_tup (pa_cons pe_str (pa_cons (pe_tup (pa_cons pe_int (pa_cons pe_int pa_nil))) pa_nil))) (pa_cons (pe_tup (pa_cons pe_str (pa_cons (pe_tup (pa_cons pe_int (pa_cons pe_int pa_nil))) pa_nil))) (pa_cons (pe_tup (pa_cons pe_str (pa_cons (pe_tup (pa_cons pe_int (pa_cons pe_int pa_nil))) pa_nil))) (pa_cons (pe_tup (pa_cons pe_str (pa_cons (pe_tup (pa_cons pe_int (pa_cons pe_int pa_nil))) pa_nil))) (pa_cons (pe_tup (pa_cons pe_str (pa_cons (pe_tup (pa_cons pe_int (pa_cons pe_int pa_nil))) pa_nil))) pa_nil))))))))
      (pss_cons (ps_set (i := 15) nd rfl (.inl rfl) (pe_op op_cat (pv 15) (pe_lst (pa_cons (pe_tup (pa_cons pe_str (pa_cons (pe_tup (pa_cons pe_int (pa_cons pe_int pa_nil))) pa_nil))) pa_nil))))
      (pss_cons (ps_set (i := 15) nd rfl (.inl rfl) (pe_op op_cat (pv 15) (pe_lst (pa_cons (pe_tup (pa_cons pe_str (pa_cons (pe_tup (pa_cons pe_int (pa_cons pe_int pa_nil))) pa_nil))) (pa_cons (pe_tup (pa_cons pe_str (pa_cons (pe_tup (pa_cons pe_int (pa_cons pe_int pa_nil))) pa_nil))) (pa_cons (pe_tup (pa_cons pe_non (pa_cons (pe_tup (pa_cons pe_int (pa_cons pe_int pa_nil))) pa_nil))) (pa_cons (pe_tup (pa_cons pe_int (pa_cons (pe_tup (pa_cons pe_int (pa_cons pe_int pa_nil))) pa_nil))) (pa_cons (pe_tup (pa_cons pe_str (pa_cons (pe_tup (pa_cons pe_int (pa_cons pe_int pa_nil))) pa_nil))) (pa_cons (pe_tup (pa_cons pe_str (pa_cons (pe_tup (pa_cons pe_int (pa_cons pe_int pa_nil))) pa_nil))) pa_nil)))))))))
      (pss_cons (ps_for PassesOwn.never rfl (pi_list (pv 15)) (pg_tup rfl (pgs_cons (pg_name (i := 16) nd rfl (Or.inl rfl)) (pgs_cons (pg_name (i := 17) nd rfl (Or.inl rfl)) pgs_nil))) (pss_one (ps_if (pt_cmpR (op_neD hu64) (pe_fn G_place r9 (pa_cons (pv 16) pa_nil)) (pv 17) (nomark _)) (pss_one (ps_ret pe_bl)) pss_nil)))
      (pss_cons (ps_asg (pe_tup (pa_cons (pe_tup (pa_cons (pe_tup (pa_cons pe_str (pa_cons pe_str pa_nil))) pa_nil)) (pa_cons (pe_tup (pa_cons (pe_tup (pa_cons pe_str (pa_cons pe_str pa_nil))) pa_nil)) pa_nil))) (pg_tup rfl (pgs_cons (pg_name (i := 18) nd rfl (Or.inl rfl)) (pgs_cons (pg_name (i := 19) nd rfl (Or.inl rfl)) pgs_nil))))
      (pss_cons (ps_set (i := 20) nd rfl (.inl rfl) (pe_lst (pa_cons (pe_tup (pa_cons pe_str (pa_cons (pv 4) (pa_cons (pv 8) pa_nil)))) (pa_cons (pe_tup (pa_cons pe_str (pa_cons (pv 4) (pa_cons (pv 8) pa_nil)))) (pa_cons (pe_tup (pa_cons pe_str (pa_cons (pe_tup pa_nil) (pa_cons (pe_lst pa_nil) pa_nil)))) (pa_cons (pe_tup (pa_cons pe_str (pa_cons (pv 18) (pa_cons (pe_lst (pa_cons (pe_tup (pa_cons (pe_op op_pow pe_int pe_int) pa_nil)) pa_nil)) pa_nil)))) (pa_cons (pe_tup (pa_cons pe_str (pa_cons (pv 18) (pa_cons (pe_lst (pa_cons (pe_tup (pa_cons pe_str pa_nil)) pa_nil)) pa_nil)))) (pa_cons (pe_tup (pa_cons pe_str (pa_cons (pv 19) (pa_cons (pe_lst (pa_cons (pe_tup (pa_cons pe_str pa_nil)) pa_nil)) pa_nil)))) pa_nil))))))))
      (pss_cons (ps_set (i := 20) nd rfl (.inl rfl) (pe_op op_cat (pv 20) (pe_lst (pa_cons (pe_tup (pa_cons pe_str (pa_cons (pv 4) (pa_cons (pv 8) pa_nil)))) (pa_cons (pe_tup (pa_cons pe_str (pa_cons (pv 4) (pa_cons (pv 8) pa_nil)))) (pa_cons (pe_tup (pa_cons pe_str (pa_cons (pv 4) (pa_cons (pv 8) pa_nil)))) (pa_cons (pe_tup (pa_cons pe_str (pa_cons (pe_tup (pa_cons (pe_tup (pa_cons pe_str (pa_cons pe_str pa_nil))) pa_nil)) (pa_cons (pe_lst pa_nil) pa_nil)))) pa_nil)))))))
      (pss_cons (ps_set (i := 20) nd rfl (.inl rfl) (pe_op op_cat (pv 20) (pe_lst (pa_cons (pe_tup (pa_cons pe_str (pa_cons (pv 19) (pa_cons (pe_lst (pa_cons (pe_tup (pa_cons pe_str pa_nil)) pa_nil)) pa_nil)))) (pa_cons (pe_tup (pa_cons pe_str (pa_cons (pe_tup (pa_cons (pe_tup (pa_cons pe_str (pa_cons pe_str pa_nil))) pa_nil)) (pa_cons (pe_lst pa_nil) pa_nil)))) (pa_cons (pe_tup (pa_cons pe_str (pa_cons (pe_callTy call_tuple_of (by rfl) m_tuple PyProof.Rows.boot_tuple (pa_cons (pe_lc (own := [("at", 5)]) (g := gName 5) (tt := tYes) rfl nd (pi_range1 rfl m_range (pa_cons pe_int pa_nil)) (blkOk_by (N := N_law) (sc := defScope s_law) (by decide +kernel)) (fun _ _ _ _ _ => pg_name (i := 5) nd rfl (Or.inl rfl)) (fun _ _ _ _ _ => pts_nil) (fun _ _ _ _ _ => (pe_tup (pa_cons (pe_op op_add_str pe_str (pe_callTy call_str_int (by rfl) m_str PyProof.Rows.boot_str (pa_cons (pv 5) pa_nil))) (pa_cons pe_str pa_nil))))) pa_nil)) (pa_cons (pe_lst pa_nil) pa_nil)))) pa_nil))))))
      (pss_cons (ps_for PassesOwn.never rfl (pi_list (pv 20)) (pg_tup rfl (pgs_cons (pg_name (i := 11) nd rfl (Or.inl rfl)) (pgs_cons (pg_name (i := 21) nd rfl (Or.inl rfl)) (pgs_cons (pg_name (i := 22) nd rfl (Or.inl rfl)) pgs_nil)))) (pss_one (ps_try_only (tb := fun W => tSeq (tDrop (tCallS (spTT K CB) (WE W) (tCons (tVar 11) (tCons (tVar 21) (tCons (tVar 22) tNil))))) (tRet (tC (.bl false)))) (ts := fun a cls d => tAsg (tC (.str "")) (gName 11)) rfl rfl ⟨rfl, by decide, .inl TB.gC⟩ takes0 (fun W pn xe tk _ => pss_cons (ps_expr (pe_fnX (W := W) G_tt r6 tk (pa_cons (pv 11) (pa_cons (pv 21) (pa_cons (pv 22) pa_nil))))) (pss_one (ps_ret pe_bl))) (fun a oe cls d pn _ _ => pss_one (ps_set (i := 11) nd rfl (.inl rfl) pe_str)))))
      (pss_one (ps_ret pe_bl))))))))))))))))))))), ?_⟩
  have z2 : 2 ≤ sizeLine := by decide
  have z3 : 3 ≤ sizeLine := by decide
  have z7 : 7 ≤ sizeLine := by decide
  obtain ⟨ns, ens⟩ := cut_map xs none (some 63)
  refine ⟨_, rfl, _, rfl, a, _, rfl, hS, fun s ns0 => ⟨z3, fun d nd0 => ?_⟩⟩
  rw [ens] at nd0 ⊢
  have D0 : DrawAt (upd (upd H s (.lst (ns.map V.int))) d (.lst [.ref s, .int 0, .int 0])) d s ns 0 := ⟨upd_same, by rw [upd_ne (ne_of_none upd_same nd0)]; exact upd_same, Int.le_refl 0⟩
  generalize upd (upd H s (.lst (ns.map V.int))) d (.lst [.ref s, .int 0, .int 0]) = H0 at D0 ⊢
  -- kinds
  refine ⟨_, rfl, d, s, ns, 0, 4, rfl, D0, by decide, fun r H1 r0 r1 b1 D1 => ⟨_, _, rfl, rfl, _, rfl, by omega, by omega, fun Dk nDk => ?_⟩⟩
  have nkd : Dk ≠ d := (ne_of_none D1.at_d nDk).symm
  have nks : Dk ≠ s := (ne_of_none D1.at_s nDk).symm
  refine lc_range (lo := 0) (n := (1 + r).toNat) (fun i H' => ∃ n' ks, DrawAt H' d s ns n' ∧ H' Dk = some (.lst (ks.map V.str)) ∧ ks.length = i ∧ ∀ k ∈ ks, k ∈ twoK) ⟨_, [], D1.keep (same_upd nDk), upd_same, rfl, fun k hk => by cases hk⟩ ?_ ?_
  · rintro i H2 hi ⟨n', ks, D2, eK, lk, hk⟩
    refine ⟨rfl, _, rfl, z2, fun t ht => ?_⟩
    have s3 := same_upd (o := .tup (twoK.map V.str)) ht
    refine ⟨d, s, t, ns, n', twoK.map V.str, rfl, D2.keep s3, (ne_of_none D2.at_d ht).symm, .inr (SqT.of upd_same), (by intro z; cases z), fun v H4 hv b4 D4 => ?_⟩
    obtain ⟨k, hk1, rfl⟩ := List.mem_map.mp hv
    have eK4 := b4 _ _ nkd (s3 _ _ eK)
    refine ⟨_, eK4, Nat.lt_of_le_of_lt (show _ ≤ 10 by rw [List.length_map]; omega) (by decide), _, ks ++ [k], ⟨by rw [upd_ne nkd.symm]; exact D4.at_d, by rw [upd_ne nks.symm]; exact D4.at_s, D4.n0⟩, by rw [List.map_append]; exact upd_same, by rw [List.length_append, lk]; rfl, fun x hx => ?_⟩
    rcases List.mem_append.mp hx with hx | hx
    · exact hk x hx
    · rw [List.mem_singleton.mp hx]
      exact hk1
  rintro H2 ⟨n2, ks, D2, eK, lk, hk⟩
  have lk1 : 1 ≤ ks.length := by omega
  have lk4 : ks.length ≤ 4 := by omega
  clear D1 b1 nDk lk D0
  -- columns
  refine ⟨_, rfl, Dk, _, rfl, SqL.of eK, fun Dc nDc => ?_⟩
  have csg : ∀ i : Nat, i < 4 → colN i ∈ cnames := by decide +kernel
  generalize hcs : (ks.mapIdx fun i k => (colN i, k)) = cs
  have lcs : cs.length = ks.length := by rw [← hcs, List.length_mapIdx]
  have hck : cs.map (·.2) = ks := by
    rw [← hcs]
    refine List.ext_getElem? fun i => ?_
    rw [List.getElem?_map, List.getElem?_mapIdx]
    cases ks[i]? <;> rfl
  have hcol : ∀ p ∈ cs, p.1 ∈ cnames ∧ p.2 ∈ twoK := fun p hp => by
    obtain ⟨i, hi⟩ := List.mem_iff_getElem?.mp hp
    rw [← hcs, List.getElem?_mapIdx] at hi
    obtain ⟨k, ek, rfl⟩ := Option.map_eq_some_iff.mp hi
    exact ⟨csg i (by have := (List.getElem?_eq_some_iff.mp ek).1; omega), hk k (List.mem_of_getElem? ek)⟩
  have ndd : Dc ≠ d := (ne_of_none D2.at_d nDc).symm
  refine lc_it walk_enum (fun i H' => ∃ as : List V, Same H2 H' ∧ H' Dc = some (.lst as) ∧ Paired (ColK K H') as (cs.take i)) ⟨[], same_upd nDc, upd_same, .nil⟩ (fun i H' _ ⟨_, s', _⟩ => SqL.of (s' _ _ eK)) ?_ ?_
  · rintro i v H3 H4 hi ⟨as, s3, eD, pr⟩ ⟨T', x', y, rfl, nT, rfl, ex, ey⟩
    cases ex
    replace ey : (ks.map V.str)[i]? = some y := ey
    rw [List.getElem?_map] at ey
    obtain ⟨k, ek, rfl⟩ := Option.map_eq_some_iff.mp ey
    have hil : i < ks.length := (List.getElem?_eq_some_iff.mp ek).1
    have s4 := same_upd (o := .tup [.int (i : Nat), .str k]) nT
    have e0 : ((0 : Int) + (i : Nat)) = (i : Nat) := Int.zero_add _
    have hln := colN_len (i := i) (by
      have : (4 : Nat) < 2 ^ 64 := by decide
      omega)
    unfold colN at hln
    rw [len2', e0] at hln
    refine ⟨T', _, rfl, SqT.of upd_same, rfl, _, _, rfl, _, _, rfl, rfl, rfl, _, rfl, (i : Nat), rfl, log_sml (by
      have : (4 : Nat) < 2 ^ 64 := by decide
      omega), _, _, rfl, rfl, Nat.le_trans hln (by decide), _, rfl, z2, fun t ht => ?_⟩
    have s5 := same_upd (o := .tup [.str ("c" ++ Str.ofString (toString ((i : Nat) : Int))), .str k]) ht
    have la := Paired.length pr
    rw [List.length_take] at la
    have ec : cs[i]? = some (colN i, k) := by
      rw [← hcs, List.getElem?_mapIdx, ek]
      rfl
    have keep : ∀ {o : HO} {v : V} {p : Str × Str}, ColK K (upd (upd H3 T' (.tup [.int (i : Nat), .str k])) t (.tup [.str ("c" ++ Str.ofString (toString ((i : Nat) : Int))), .str k])) v p → ColK K (upd (upd (upd H3 T' (.tup [.int (i : Nat), .str k])) t (.tup [.str ("c" ++ Str.ofString (toString ((i : Nat) : Int))), .str k])) Dc o) v p := fun q => ColK.but (d := Dc) (fun b o hb e => by rw [upd_ne hb]; exact e) ⟨_, s5 _ _ (s4 _ _ eD)⟩ q
    refine ⟨as, s5 _ _ (s4 _ _ eD), Nat.lt_of_le_of_lt (show as.length ≤ 10 by omega) (by decide), as ++ [.ref t], fun b o e => ?_, upd_same, ?_⟩
    · rw [upd_ne (ne_of_none e nDc)]
      exact s5 _ _ (s4 _ _ (s3 _ _ e))
    · rw [List.take_add_one, ec]
      have en : colN i = "c" ++ Str.ofString (toString ((i : Nat) : Int)) := by
        unfold colN
        rw [e0]
      exact Paired.snoc (Paired.mapP pr fun _ _ k => keep (ColK.same s5 (ColK.same s4 k))) (keep ⟨t, rfl, by rw [en]; exact SqT.of upd_same⟩)
  rintro H3 ⟨as, s3, eD, pr⟩
  rw [show (List.map V.str ks).length = cs.length by rw [List.length_map, lcs], List.take_length] at pr
  refine ⟨Dc, as, rfl, .inl ⟨SqL.of eD, fun c hc => ?_⟩⟩
  have s4 := same_upd (o := .tup as) hc
  have hcc : SqT K (upd H3 c (.tup as)) c as := SqT.of upd_same
  have hcp := Paired.mapP pr fun _ _ k => ColK.same s4 k
  have D3 := (D2.keep s3).keep s4
  have eK3 := s4 _ _ (s3 _ _ eK)
  clear hS s4 pr eD s3 D2 eK nDc
  generalize upd H3 c (.tup as) = H4 at hcc hcp D3 eK3 ⊢
  clear hc
  -- words
  refine ⟨z7, fun wd hwd => ?_⟩
  have s5 := same_upd (o := .tup (wordsL.map V.str)) hwd
  have hww : upd H4 wd (.tup (wordsL.map V.str)) wd = some (.tup (wordsL.map V.str)) := upd_same
  have nwd : wd ≠ d := (ne_of_none D3.at_d hwd).symm
  have D5 := D3.keep s5
  have eK5 := s5 _ _ eK3
  have hcc5 := Same.sqT s5 hcc
  have hcp5 := Paired.mapP hcp fun _ _ k => ColK.same s5 k
  clear hcc hcp D3 eK3 s5
  change _ at hww
  generalize hH5 : upd H4 wd (.tup [.str "", .str "a", .str "b # c", .str "x, y", .str "(", .str "read", .str "A-Z 09;"]) = H5
  have hww : H5 wd = some (.tup (wordsL.map V.str)) := by rw [← hH5]; exact hww
  have D5 : DrawAt H5 d s ns n2 := by rw [← hH5]; exact D5
  have eK5 : H5 Dk = some (.lst (ks.map V.str)) := by rw [← hH5]; exact eK5
  have hcc5 : SqT K H5 c as := by rw [← hH5]; exact hcc5
  have hcp5 : Paired (ColK K H5) as cs := by rw [← hH5]; exact hcp5
  clear hH5 hwd
  -- rows
  refine ⟨_, rfl, d, s, ns, n2, 7, rfl, D5, by decide, fun r2 H6 q0 q1 b6 D6 => ⟨_, rfl, by omega, by omega, fun R nR => ?_⟩⟩
  have nRd : R ≠ d := (ne_of_none D6.at_d nR).symm
  have nRs : R ≠ s := (ne_of_none D6.at_s nR).symm
  have s7 := same_upd (o := .lst []) nR
  have dl : ∃ l, H5 d = some (.lst l) := ⟨_, D5.at_d⟩
  have b7 : But d H5 (upd H6 R (.lst [])) := b6.trans (same_but s7)
  refine lc_range (lo := 0) (n := r2.toNat) (fun i H' => ∃ (n' : Int) (rxs : List V) (rows : List (List Vl)), DrawAt H' d s ns n' ∧ But d H5 H' ∧ H' R = some (.lst rxs) ∧ Paired (RowK K H') rxs rows ∧ rows.length = i ∧ ∀ r ∈ rows, r.map vlK = cs.map (·.2) ∧ ∀ x ∈ r, VD x) ⟨_, [], [], D6.keep s7, b7, upd_same, .nil, rfl, fun r hr => by cases hr⟩ ?_ ?_
  · rintro i H7 hi ⟨n', rxs, rows, D7, b7', eR, pr, lr, hrw⟩
    have nkd5 : Dk ≠ d := nkd
    have eK7 := b7' _ _ nkd5 eK5
    have hw7 := b7' _ _ nwd hww
    refine ⟨rfl, _, rfl, Dk, rfl, ⟨_, SqL.of eK7⟩, fun D2 hD2 => ?_⟩
    have n2d : D2 ≠ d := (ne_of_none D7.at_d hD2).symm
    have n2s : D2 ≠ s := (ne_of_none D7.at_s hD2).symm
    refine lc_it (walk_list (xs := ks.map V.str)) (fun j H' => ∃ (m : Int) (ys : List Vl), DrawAt H' d s ns m ∧ But d H7 H' ∧ H' D2 = some (.lst (ys.map vlV)) ∧ ys.map vlK = ks.take j ∧ ∀ y ∈ ys, VD y) ⟨n', [], D7.keep (same_upd hD2), same_but (same_upd hD2), upd_same, rfl, fun y hy => by cases hy⟩ (fun j H' _ ⟨_, _, _, b', _⟩ => SqL.of (b' _ _ nkd5 eK7)) ?_ ?_
    · rintro j v H8 H9 hj ⟨m, ys, D8, b8, e8, hk8, hv8⟩ ⟨rfl, hv⟩
      rw [List.getElem?_map] at hv
      obtain ⟨k, ek, rfl⟩ := Option.map_eq_some_iff.mp hv
      have hkk := hk k (List.mem_of_getElem? ek)
      have hjl : j < ks.length := (List.getElem?_eq_some_iff.mp ek).1
      have lys : ys.length = j := by
        have := congrArg List.length hk8
        rw [List.length_map, List.length_take] at this
        omega
      have fin : ∀ (x : Vl) (H' : Hp) (m' : Int), vlK x = k → VD x → But d H9 H' → DrawAt H' d s ns m' → ∃ acc, H' D2 = some (.lst acc) ∧ acc.length < sizeLine ∧ ∃ (m : Int) (ys : List Vl), DrawAt (upd H' D2 (.lst (acc ++ [vlV x]))) d s ns m ∧ But d H7 (upd H' D2 (.lst (acc ++ [vlV x]))) ∧ upd H' D2 (.lst (acc ++ [vlV x])) D2 = some (.lst (ys.map vlV)) ∧ ys.map vlK = ks.take (j + 1) ∧ ∀ y ∈ ys, VD y := fun x H' m' hx hd b' D' => by
        have e' := b' _ _ n2d e8
        refine ⟨_, e', Nat.lt_of_le_of_lt (show _ ≤ 10 by rw [List.length_map]; omega) (by decide), m', ys ++ [x], ⟨by rw [upd_ne n2d.symm]; exact D'.at_d, by rw [upd_ne n2s.symm]; exact D'.at_s, D'.n0⟩, fun b o hb e => ?_, by rw [List.map_append]; exact upd_same, ?_, fun y hy => ?_⟩
        · rw [upd_ne (ne_of_none e hD2)]
          exact b' _ _ hb (b8 _ _ hb e)
        · rw [List.map_append, hk8, List.take_add_one, ek]
          show _ ++ [vlK x] = _
          rw [hx]
          rfl
        · rcases List.mem_append.mp hy with hy | hy
          · exact hv8 y hy
          · rw [List.mem_singleton.mp hy]
            exact hd
      refine ⟨rfl, _, rfl, rfl, _, rfl, ite2 (fun c1 => ?_) (fun c1 => ?_)⟩
      · have hki : k = "int" := V.str.inj (of_decide_eq_true c1)
        refine ⟨_, rfl, d, s, ns, m, 99999, rfl, D8, by decide, fun x H' x0 x1 b' D' => ⟨_, _, rfl, rfl, ?_⟩⟩
        exact fin (.num (x - 50000)) H' _ hki.symm ⟨by omega, by omega⟩ b' D'
      · have hkt : k = "text" := by
          have : ∀ k ∈ twoK, k = "int" ∨ k = "text" := by decide +kernel
          rcases this k hkk with h | h
          · exact absurd (decide_eq_true (congrArg V.str h)) c1
          · exact h
        refine ⟨_, rfl, _, rfl, d, s, wd, ns, m, wordsL.map V.str, rfl, D8, nwd, .inr (SqT.of (b8 _ _ nwd hw7)), (by intro z; cases z), fun x H' hx b' D' => ?_⟩
        obtain ⟨z, hz, rfl⟩ := List.mem_map.mp hx
        exact fin (.quo z) H' _ hkt.symm hz b' D'
    · rintro H8 ⟨m, ys, D8, b8, e8, hk8, hv8⟩
      rw [List.length_map, List.take_length] at hk8
      refine ⟨D2, _, rfl, .inl ⟨SqL.of e8, fun t ht => ?_⟩⟩
      have s9 := same_upd (o := .tup (ys.map vlV)) ht
      have D9 := D8.keep s9
      have b9 : But d H7 (upd H8 t (.tup (ys.map vlV))) := b8.trans (same_but s9)
      have eR9 := b9 _ _ nRd eR
      have la := Paired.length pr
      have keep : ∀ {o : HO} {v : V} {p : List Vl}, RowK K (upd H8 t (.tup (ys.map vlV))) v p → RowK K (upd (upd H8 t (.tup (ys.map vlV))) R o) v p := fun q => RowK.but (d := R) (fun b o hb e => by rw [upd_ne hb]; exact e) ⟨_, eR9⟩ q
      refine ⟨rxs, eR9, Nat.lt_of_le_of_lt (show rxs.length ≤ 10 by omega) (by decide), m, rxs ++ [.ref t], rows ++ [ys], ⟨by rw [upd_ne nRd.symm]; exact D9.at_d, by rw [upd_ne nRs.symm]; exact D9.at_s, D9.n0⟩, fun b o hb e => ?_, upd_same, ?_, by rw [List.length_append, lr]; rfl, fun r hr => ?_⟩
      · have hbR : b ≠ R := fun e2 => by
          have h6 := b6 _ _ hb e
          rw [e2, nR] at h6
          cases h6
        rw [upd_ne hbR]
        exact b9 _ _ hb (b7' _ _ hb e)
      · exact Paired.snoc (Paired.mapP pr fun _ _ k => keep (RowK.but b9 ⟨_, D7.at_d⟩ k)) (keep ⟨t, rfl, SqT.of upd_same⟩)
      · rcases List.mem_append.mp hr with hr | hr
        · exact hrw r hr
        · rw [List.mem_singleton.mp hr]
          exact ⟨by rw [hk8, hck], hv8⟩
  rintro H7 ⟨n7, rxs, rows, D7, b7', eR, pr, lr, hrw⟩
  have T : TabD cs rows := ⟨fun e => by rw [e] at lcs; simp at lcs; omega, by omega, hcol, by omega, hrw⟩
  have TK : TabK K H7 c R cs rows := ⟨as, rxs, b7'.sqT dl hcc5, Paired.mapP hcp5 fun _ _ k => ColK.but b7' dl k, eR, pr⟩
  clear eR pr lr hrw b7' hcc5 hcp5 D6 b6 b7 eK5 hww D5 dl nR s7
  have hown := tab_own T
  have side := side_d (nm := "tab") (by decide +kernel) T
  have shp := tab_shaped T
  -- table_by(table_text("tab", columns, rows)) != ("tab", columns, rows)
  have txt1 : ∀ (G : Hp) (Ra : Addr) (Q' : VK), Same H7 G → (∃ rx, (SqL K G Ra rx ∨ SqT K G Ra rx) ∧ Paired (RowK K G) rx rows) → (∀ v G', Same G G' → TabAt G' v (("tab", cs), rows) → Q' v G') → spTT K CB [.str "tab", .ref c, .ref Ra] G (fun v G1 => spTabBy C [v] G1 Q' E0) E0 := fun G Ra Q' sG ⟨rx, h3, h4⟩ k => by
    obtain ⟨cx, _, h1, h2, _, _⟩ := (TK.same sG).ex
    refine ⟨"tab", c, cx, cs, Ra, rx, rows, rfl, side.nm, h1, h2, side.cl, side.cw, h3, h4, side.rl, side.rw, fun _ G1 s1 => ?_, fun e => by rw [tt_ok T] at e; cases e⟩
    refine .inr ⟨_, rfl, hown.2.1, hown.2.2, fun x e v G2 s2 hv => ?_, fun n c e => by rw [hown.1] at e; cases e⟩
    rw [hown.1] at e
    cases e
    exact k v G2 (s1.trans s2) hv
  have cmp3 : ∀ (G : Hp) (v : V) (t : Addr), Same H7 G → TabAt G v (("tab", cs), rows) → G t = none → ∃ dA dB, Dp K (upd G t (.tup [.str "tab", .ref c, .ref R])) v dA ∧ Dp K (upd G t (.tup [.str "tab", .ref c, .ref R])) (.ref t) dB ∧ SeqAt.shaped dA = true ∧ SeqAt.shaped dB = true ∧ PyData.eqv dA dB = true := fun G v t sG hv ht => by
    have s1 := same_upd (o := .tup [.str "tab", .ref c, .ref R]) ht
    exact ⟨_, _, Dp.same' s1 (dp_tabAt hv), dp_three (SqT.of upd_same) ((TK.same sG).same s1), shp, shp, refl_of shp⟩
  obtain ⟨cx0, rx0, _, _, eR0, pr0⟩ := id TK.ex
  refine ⟨_, rfl, _, rfl, txt1 H7 R _ (Same.refl _) ⟨rx0, .inl (SqL.of eR0), pr0⟩ fun v H8 s8 hv8 => ⟨_, rfl, _, rfl, z3, fun t8 ht8 => ?_⟩⟩
  obtain ⟨dA, dB, p1, p2, p3, p4, p5⟩ := cmp3 H8 v t8 s8 hv8 ht8
  refine ⟨dA, dB, p1, p2, p3, p4, _, rfl, iteNB p5 ?_⟩
  clear p1 p2 p3 p4 p5 hv8
  have s9 := s8.trans (same_upd (o := .tup [.str "tab", .ref c, .ref R]) ht8)
  generalize upd H8 t8 (.tup [.str "tab", .ref c, .ref R]) = H9 at s9 ⊢
  clear ht8 s8
  refine ⟨_, rfl, _, rfl, R, rx0, rfl, .inl ⟨SqL.of (s9 _ _ eR0), fun l hl => ?_⟩⟩
  have s10 := same_upd (o := .tup rx0) hl
  refine txt1 _ l _ (s9.trans s10) ⟨rx0, .inr (SqT.of upd_same), Paired.mapP pr0 fun _ _ k => RowK.same (s9.trans s10) k⟩ fun v2 H11 s11 hv11 => ⟨_, rfl, _, rfl, z3, fun t9 ht9 => ?_⟩
  obtain ⟨dA, dB, p1, p2, p3, p4, p5⟩ := cmp3 H11 v2 t9 (s9.trans (s10.trans s11)) hv11 ht9
  refine ⟨dA, dB, p1, p2, p3, p4, _, rfl, iteNB p5 ?_⟩
  clear p1 p2 p3 p4 p5 hv11
  have s12 := s9.trans (s10.trans (s11.trans (same_upd (o := .tup [.str "tab", .ref c, .ref R]) ht9)))
  generalize upd H11 t9 (.tup [.str "tab", .ref c, .ref R]) = H12 at s12 ⊢
  clear ht9 s9 s10 s11
  -- gap
  have D12 := D7.keep s12
  refine ⟨_, rfl, z3, fun tg htg => ?_⟩
  have s13 := same_upd (o := .tup ((["", " ", "  "] : List Str).map V.str)) htg
  refine ⟨d, s, tg, ns, n7, (["", " ", "  "] : List Str).map V.str, rfl, D12.keep s13, (ne_of_none D12.at_d htg).symm, .inr (SqT.of upd_same), (by intro z; cases z), fun vG H14 hvG b14 D14 => ?_⟩
  obtain ⟨G, hG0, rfl⟩ := List.mem_map.mp hvG
  have hGf : ∀ G ∈ (["", " ", "  "] : List Str), tl G = List.replicate G.length 32 ∧ G.length ≤ 2 := by decide +kernel
  obtain ⟨gg, hG⟩ : ∃ g, GapS G g := ⟨_, hGf G hG0⟩
  have lG : G.length ≤ 2 := (hGf G hG0).2
  clear hGf hG0 hvG
  have TK14 : TabK K H14 c R cs rows := ((TK.same s12).same s13).but b14 ⟨_, (D12.keep s13).at_d⟩ nRd
  clear s12 s13 b14 htg D12 TK
  -- lines
  have chs : ("tab" : Str).length = 3 ∧ ("(" : Str).length = 1 ∧ (") # told" : Str).length = 8 ∧ ("," : Str).length = 1 ∧ ("-" : Str).length = 1 ∧ ("\"" : Str).length = 1 ∧ ("" : Str).length = 0 := by decide +kernel
  have big : 1000 ≤ sizeLine := by decide
  have hjl : (Txt.join ("," ++ G) (cs.map pairT)).length ≤ 40 := by
    refine Nat.le_trans (txt_len ("," ++ G) (c := 7) _ fun z hz => ?_) ?_
    · obtain ⟨p, hp, rfl⟩ := List.mem_map.mp hz
      exact (pair_line (hcol p hp)).1
    · rw [List.length_map, len2', chs.2.2.2.1]
      have : cs.length * (1 + G.length) ≤ 4 * 3 := Nat.mul_le_mul (by omega) (by omega)
      omega
  obtain ⟨cx14, rx14, hc14, hp14, eR14, pr14⟩ := id TK14.ex
  refine ⟨_, rfl, _, _, rfl, rfl, Nat.le_trans (show _ ≤ 1000 by rw [chs.1]; omega) big, _, rfl, _, _, rfl, rfl, Nat.le_trans (show _ ≤ 1000 by rw [len2', chs.1]; omega) big, _, _, rfl, rfl, Nat.le_trans (show _ ≤ 1000 by rw [len2', len2', chs.1, chs.2.1]; omega) big, _, rfl, _, _, rfl, rfl, Nat.le_trans (show _ ≤ 1000 by rw [chs.2.2.2.1]; omega) big, ⟨_, rfl⟩, _, rfl, c, rfl, ⟨_, hc14⟩, fun Dj hDj => ?_⟩
  refine lc_it (walk_tup (xs := cx14)) (fun j H' => Same H14 H' ∧ H' Dj = some (.lst (((cs.take j).map pairT).map V.str))) ⟨same_upd hDj, upd_same⟩ (fun j H' _ ⟨b, _⟩ => Same.sqT b hc14) ?_ ?_
  · rintro j v H15 H16 hj ⟨b3, e3⟩ ⟨rfl, hv⟩
    obtain ⟨p, hp, pa, rfl, hpa⟩ := paired_at hp14 hv
    have l7 := (pair_line (hcol p (List.mem_of_getElem? hp))).1
    unfold pairT at l7
    rw [len2', len2'] at l7
    refine ⟨pa, _, rfl, Same.sqT b3 hpa, rfl, _, _, rfl, _, _, rfl, rfl, rfl, _, rfl, _, _, rfl, rfl, Nat.le_trans (show _ ≤ 1000 by omega) big, _, rfl, _, _, rfl, rfl, Nat.le_trans (show _ ≤ 1000 by rw [len2']; omega) big, _, e3, ?_, fun b o e => ?_, ?_⟩
    · refine Nat.lt_of_le_of_lt (show _ ≤ 10 from ?_) (by decide)
      rw [List.length_map, List.length_map, List.length_take]
      omega
    · rw [upd_ne (ne_of_none e hDj)]
      exact b3 b o e
    · rw [List.take_add_one, hp, List.map_append, List.map_append]
      exact upd_same
  rintro H15 ⟨b15, e15⟩
  rw [Paired.length hp14, List.take_length] at e15
  refine ⟨_, Dj, _, rfl, rfl, .inl (SqL.of e15), ?_, _, _, rfl, rfl, Nat.le_trans (show _ ≤ 1000 by rw [len2', len2', len2', chs.1, chs.2.1]; omega) big, _, rfl, _, _, rfl, rfl, Nat.le_trans (show _ ≤ 1000 by rw [len2', len2', len2', len2', chs.1, chs.2.1]; omega) big, _, _, rfl, rfl, Nat.le_trans (show _ ≤ 1000 by rw [len2', len2', len2', len2', len2', chs.1, chs.2.1, chs.2.2.1]; omega) big, by show 1 ≤ sizeLine; decide, fun Lx hLx => ?_⟩
  · have h3 := sum_le (g := fun z : Str => z.length) (c := 7) (l := cs.map pairT) (fun z hz => by
      obtain ⟨p, hp, rfl⟩ := List.mem_map.mp hz
      exact (pair_line (hcol p hp)).1)
    rw [List.length_map] at h3
    rw [List.length_map, len2', chs.2.2.2.1]
    have : cs.length * (1 + G.length) ≤ 4 * 3 := Nat.mul_le_mul (by omega) (by omega)
    show ((cs.map pairT).map fun z => z.length).sum + _ ≤ _
    omega
  have s16 := b15.trans (same_upd (o := .lst [.str (hdG G cs)]) hLx)
  have eL16 : upd H15 Lx (.lst [.str (hdG G cs)]) Lx = some (.lst (([hdG G cs] : List Str).map V.str)) := upd_same
  have nLd : Lx ≠ d := (ne_of_none (b15 _ _ D14.at_d) hLx).symm
  have nLs : Lx ≠ s := (ne_of_none (b15 _ _ D14.at_s) hLx).symm
  change _ at eL16
  have D16 := D14.keep s16
  have TK16 := TK14.same s16
  generalize hH16 : upd H15 Lx (.lst [.str (G ++ "tab" ++ G ++ "(" ++ Txt.join ("," ++ G) (cs.map pairT) ++ G ++ ") # told")]) = H16
  have eL16 : H16 Lx = some (.lst (([hdG G cs] : List Str).map V.str)) := by rw [← hH16]; exact eL16
  have D16 : DrawAt H16 d s ns (n7 + 1) := by rw [← hH16]; exact D16
  have TK16 : TabK K H16 c R cs rows := by rw [← hH16]; exact TK16
  clear hH16 s16 e15 b15 hDj hLx hp14 hc14 eR14 pr14 TK14 D14 D7
  obtain ⟨cx, rx, hcx, hpx, eRx, prx⟩ := id TK16.ex
  have hgh := gap_head hG T
  refine ⟨_, rfl, R, rfl, ⟨_, SqL.of eRx⟩, ?_⟩
  refine for_it (walk_list (xs := rx)) (fun i σ G' => ∃ (m : Int) (y12 y13 y14 : Option V) (Lz : Addr) (ls : List Str), σ = [some (.ref a), some (.ref d), some (.ref Dk), none, some (.ref c), none, none, some (.ref wd), some (.ref R), some (.str G), some (.ref Lz), none, y12, y13, y14, none, none, none, none, none, none, none, none] ∧ But d H16 G' ∧ DrawAt G' d s ns m ∧ Lz ≠ d ∧ G' Lz = some (.lst ((hdG G cs :: ls).map V.str)) ∧ AddL ("tab", cs) ls (rows.take i) ∧ (∀ z ∈ ls, LineOk z) ∧ ls.length ≤ 2 * i) ⟨_, none, none, none, Lx, [], rfl, But.refl _ _, D16, nLd, eL16, by rw [List.take_zero]; exact AddL.nil, (fun z hz => by cases hz), Nat.le_refl _⟩ (fun i σ G' _ ⟨_, _, _, _, _, _, _, b, _⟩ => SqL.of (b _ _ nRd eRx)) ?_ ?_
  · rintro i v σ G1 G2 hi ⟨m, y12, y13, y14, Lz, ls, rfl, b, D, nz, eL, ad, lk, ll⟩ ⟨rfl, hv⟩
    obtain ⟨r, hr, t, rfl, ht⟩ := paired_at prx hv
    have hrm := List.mem_of_getElem? hr
    have hil : i < rows.length := (List.getElem?_eq_some_iff.mp hr).1
    have hrl := row_len T hrm
    have hvd := (T.row r hrm).2
    have h4 := T.len
    have h6 := T.rlen
    have htG := b.sqT ⟨_, D16.at_d⟩ ht
    refine ⟨_, rfl, t, rfl, ⟨_, htG⟩, fun Dp hDp => ?_⟩
    refine lc_it (walk_tup (xs := r.map vlV)) (fun j H' => Same G2 H' ∧ H' Dp = some (.lst (((r.take j).map (ptG G)).map V.str))) ⟨same_upd hDp, upd_same⟩ (fun j H' _ ⟨b, _⟩ => Same.sqT b htG) ?_ ?_
    · rintro j v H3 H4 hj ⟨b3, e3⟩ ⟨rfl, hv⟩
      rw [List.getElem?_map] at hv
      obtain ⟨x, hx, rfl⟩ := Option.map_eq_some_iff.mp hv
      have hxd := hvd x (List.mem_of_getElem? hx)
      have fin : ∃ acc, H4 Dp = some (.lst acc) ∧ acc.length < sizeLine ∧ Same G2 (upd H4 Dp (.lst (acc ++ [.str (ptG G x)]))) ∧ upd H4 Dp (.lst (acc ++ [.str (ptG G x)])) Dp = some (.lst (((r.take (j + 1)).map (ptG G)).map V.str)) := by
        refine ⟨_, e3, ?_, fun b o e => ?_, ?_⟩
        · refine Nat.lt_of_le_of_lt (show _ ≤ 10 from ?_) (by decide)
          rw [List.length_map, List.length_map, List.length_take]
          omega
        · rw [upd_ne (ne_of_none e hDp)]
          exact b3 b o e
        · rw [List.take_add_one, hx, List.map_append, List.map_append]
          exact upd_same
      refine ⟨rfl, _, rfl, ?_⟩
      cases x with
      | quo z =>
        have lz := (wd_facts _ hxd).2.2.1
        exact ⟨_, _, _, _, true, rfl, .ty _, .base (.str z), kit_ty (by decide +kernel : kitB "str" "str" = some true), _, rfl, ifT_ rfl ⟨_, rfl, _, _, rfl, rfl, Nat.le_trans (show _ ≤ 1000 by rw [chs.2.2.2.2.2.1]; omega) big, _, _, rfl, rfl, Nat.le_trans (show _ ≤ 1000 by rw [len2', chs.2.2.2.2.2.1]; omega) big, fin⟩⟩
      | num k =>
        have hkd : -50000 ≤ k ∧ k ≤ 50000 := hxd
        have hk64 : k.natAbs < 2 ^ 64 := vd_sml hxd
        have lk20 : (Str.ofString (toString (absI k))).length ≤ 20 := by
          rw [abs_cast]
          exact num_len hk64
        have fin : ∃ acc, H4 Dp = some (.lst acc) ∧ acc.length < sizeLine ∧ Same G2 (upd H4 Dp (.lst (acc ++ [.str ((if k < 0 then "-" ++ G else "") ++ Str.ofString (toString (absI k)))]))) ∧ upd H4 Dp (.lst (acc ++ [.str ((if k < 0 then "-" ++ G else "") ++ Str.ofString (toString (absI k)))])) Dp = some (.lst (((r.take (j + 1)).map (ptG G)).map V.str)) := fin
        refine ⟨_, _, _, _, false, rfl, .ty _, .base (.int k), kit_ty (by decide +kernel : kitB "int" "str" = some false), _, rfl, ifF_ rfl ⟨_, rfl, _, _, rfl, rfl, _, rfl, ite2 (fun c1 => ?_) (fun c1 => ?_)⟩⟩
        · have hk0 : k < 0 := of_decide_eq_true c1
          rw [if_pos hk0] at fin
          exact ⟨_, rfl, _, _, rfl, rfl, Nat.le_trans (show _ ≤ 1000 by rw [chs.2.2.2.2.1]; omega) big, _, rfl, k, rfl, absI k, rfl, by rw [abs_nat]; exact log_sml hk64, _, _, rfl, rfl, Nat.le_trans (show _ ≤ 1000 by rw [len2', chs.2.2.2.2.1]; omega) big, fin⟩
        · have hk0 : ¬ k < 0 := fun h => c1 (decide_eq_true h)
          rw [if_neg hk0] at fin
          exact ⟨_, rfl, k, rfl, absI k, rfl, by rw [abs_nat]; exact log_sml hk64, _, _, rfl, rfl, Nat.le_trans (show _ ≤ 1000 by rw [chs.2.2.2.2.2.2]; omega) big, fin⟩
    rintro H3 ⟨b3, e3⟩
    rw [List.length_map, List.take_length] at e3
    have hpl : ∀ z ∈ r.map (ptG G), z.length ≤ 20 := fun z hz => by
      obtain ⟨x, hx, rfl⟩ := List.mem_map.mp hz
      rw [len_tl, tl_ptG hG]
      exact (val_line hG.2 (hvd x hx)).1
    have hrj : (Txt.join (G ++ ",") (r.map (ptG G))).length ≤ 100 := by
      refine Nat.le_trans (txt_len _ _ hpl) ?_
      rw [List.length_map, len2', chs.2.2.2.1]
      have : r.length * (G.length + 1) ≤ 4 * 3 := Nat.mul_le_mul (by omega) (by omega)
      omega
    have hps : ((r.map (ptG G)).map (·.length)).sum + (r.map (ptG G)).length * (G ++ "," : Str).length ≤ 16777216 := by
      have h3 := sum_le (g := fun z : Str => z.length) (c := 20) (l := r.map (ptG G)) hpl
      rw [List.length_map] at h3
      rw [List.length_map, len2', chs.2.2.2.1]
      have : r.length * (G.length + 1) ≤ 4 * 3 := Nat.mul_le_mul (by omega) (by omega)
      show ((r.map (ptG G)).map fun z => z.length).sum + _ ≤ _
      omega
    have D3 := D.keep b3
    have eL3 := b3 _ _ eL
    refine ⟨_, rfl, _, rfl, _, rfl, _, _, rfl, rfl, Nat.le_trans (show _ ≤ 1000 by rw [chs.2.2.2.1]; omega) big, ⟨_, rfl⟩, _, rfl, _, Dp, _, rfl, rfl, .inl (SqL.of e3), hps, _, _, rfl, rfl, Nat.le_trans (show _ ≤ 1000 by omega) big, _, rfl, _, _, rfl, rfl, Nat.le_trans (show _ ≤ 1000 by rw [len2']; omega) big, by show 1 ≤ sizeLine; decide, fun l1 hl1 => ?_⟩
    have s4 := same_upd (o := .lst [.str (rowG G r)]) hl1
    have e4 : upd H3 l1 (.lst [.str (rowG G r)]) l1 = some (.lst [.str (rowG G r)]) := upd_same
    refine ⟨Lz, l1, _, _, rfl, rfl, s4 _ _ eL3, e4, Nat.le_trans (show _ ≤ 100 by rw [List.length_map, List.length_cons]; show ls.length + 1 + 1 ≤ 100; omega) (by decide), fun l2 hl2 => ?_⟩
    have e5 : upd (upd H3 l1 (.lst [.str (rowG G r)])) l2 (.lst ((hdG G cs :: ls).map V.str ++ [.str (rowG G r)])) l2 = some (.lst ((hdG G cs :: ls).map V.str ++ [.str (rowG G r)])) := upd_same
    have s5 := s4.trans (same_upd (o := .lst ((hdG G cs :: ls).map V.str ++ [.str (rowG G r)])) hl2)
    have n2d : l2 ≠ d := (ne_of_none (s4 _ _ D3.at_d) hl2).symm
    have D5 := D3.keep s5
    have b5 : But d H16 (upd (upd H3 l1 (.lst [.str (rowG G r)])) l2 (.lst ((hdG G cs :: ls).map V.str ++ [.str (rowG G r)]))) := b.trans (same_but (b3.trans s5))
    generalize hH5 : upd (upd H3 l1 (.lst [.str (G ++ Txt.join (G ++ ",") (r.map (ptG G)) ++ G)])) l2 (.lst ((hdG G cs :: ls).map V.str ++ [.str (rowG G r)])) = H5
    have e5 : H5 l2 = some (.lst ((hdG G cs :: ls).map V.str ++ [.str (rowG G r)])) := by rw [← hH5]; exact e5
    have D5 : DrawAt H5 d s ns m := by rw [← hH5]; exact D5
    have b5 : But d H16 H5 := by rw [← hH5]; exact b5
    clear hH5 s5 e4 s4 hl2 hl1 eL3 D3 e3 b3 htG hDp b D eL
    refine ⟨_, rfl, z3, fun tb htb => ?_⟩
    have s6 := same_upd (o := .tup (blanksL.map V.str)) htb
    refine ⟨d, s, tb, ns, m, blanksL.map V.str, rfl, D5.keep s6, (ne_of_none D5.at_d htb).symm, .inr (SqT.of upd_same), (by intro z; cases z), fun vb H7 hvb b7 D7 => ?_⟩
    obtain ⟨z, hz, rfl⟩ := List.mem_map.mp hvb
    have e7 := b7 _ _ n2d (s6 _ _ e5)
    have b7' := b5.trans ((same_but s6).trans b7)
    refine ⟨by show 1 ≤ sizeLine; decide, fun l3 hl3 => ?_⟩
    have s8 := same_upd (o := .lst [.str z]) hl3
    have n3d : l3 ≠ d := (ne_of_none D7.at_d hl3).symm
    refine ⟨_, rfl, d, s, ns, m + 1, 2, rfl, D7.keep s8, by decide, fun rr H9 rr0 rr1 b9 D9 => ?_⟩
    have e9 : H9 l3 = some (.lst [.str z]) := b9 _ _ n3d upd_same
    have e9' := b9 _ _ n2d (s8 _ _ e7)
    have b9' := b7'.trans ((same_but s8).trans b9)
    have hrr : rr.toNat ≤ 1 := by omega
    have hf : (List.replicate rr.toNat [V.str z]).flatten = (List.replicate rr.toNat z).map V.str := by
      rw [List.map_replicate]
      generalize rr.toNat = n
      induction n with
      | zero => rfl
      | succ n ih => rw [List.replicate_succ, List.flatten_cons, ih, List.replicate_succ]; rfl
    refine ⟨l3, rr, _, rfl, rfl, e9, by omega, by omega, Nat.le_trans (show _ ≤ 1 by show 1 * rr.toNat ≤ 1; omega) (by decide), fun l4 hl4 => ?_⟩
    rw [hf]
    have s10 := same_upd (o := .lst ((List.replicate rr.toNat z).map V.str)) hl4
    refine ⟨l2, l4, _, _, rfl, rfl, s10 _ _ e9', upd_same, Nat.le_trans (show _ ≤ 100 by rw [List.length_append, List.length_map, List.length_map, List.length_replicate, List.length_cons]; show ls.length + 1 + 1 + rr.toNat ≤ 100; omega) (by decide), fun l5 hl5 => ?_⟩
    have s11 := s10.trans (same_upd (o := .lst ((hdG G cs :: ls).map V.str ++ [.str (rowG G r)] ++ (List.replicate rr.toNat z).map V.str)) hl5)
    refine ⟨m + 1 + 1, _, _, _, l5, ls ++ [rowG G r] ++ List.replicate rr.toNat z, rfl, b9'.trans (same_but s11), D9.keep s11, (ne_of_none (s10 _ _ D9.at_d) hl5).symm, ?_, ?_, fun y hy => ?_, ?_⟩
    · rw [upd_same]
      simp [List.map_append]
    · have h1 := ad.app (gap_row hG T hrm).1
      have h2 : ∀ n : Nat, AddL ("tab", cs) (List.replicate n z) [] := fun n => by
        induction n with
        | zero => exact AddL.nil
        | succ n ih => exact AddL.app (ls := [z]) (rs := []) (blank_row hz).1 ih
      have h3 := h1.app (h2 rr.toNat)
      rw [List.append_nil] at h3
      rw [List.take_add_one, hr]
      exact h3
    · rcases List.mem_append.mp hy with hy | hy
      · rcases List.mem_append.mp hy with hy | hy
        · exact lk y hy
        · rw [List.mem_singleton.mp hy]
          exact (gap_row hG T hrm).2
      · rw [List.eq_of_mem_replicate hy]
        exact (blank_row (h := ("tab", cs)) hz).2
    · rw [List.length_append, List.length_append, List.length_replicate]
      show ls.length + 1 + rr.toNat ≤ 2 * (i + 1)
      omega
  rintro σ G1 ⟨m, y12, y13, y14, Lz, ls, rfl, b, D, nz, eL, ad, lk, ll⟩
  rw [show rx.length = rows.length from Paired.length prx, List.take_length] at ad
  rw [show rx.length = rows.length from Paired.length prx] at ll
  have h6 := T.rlen
  have allL : ∀ z ∈ hdG G cs :: ls, LineOk z := fun z hz => by
    rcases List.mem_cons.mp hz with rfl | hz
    · exact hgh.2
    · exact lk z hz
  have hread := table_read hgh.1 ad fun z hz => (allL z hz).2
  have hshort := short_join (ls := hdG G cs :: ls) (by simp) (by rw [List.length_cons]; omega) allL
  have hsum : ((hdG G cs :: ls).map (·.length)).sum + (hdG G cs :: ls).length * ("\n" : Str).length ≤ 16777216 := by
    have h3 := sum_le (g := fun z : Str => z.length) (c := 300) (l := hdG G cs :: ls) fun z hz => (allL z hz).1
    rw [List.length_cons] at h3 ⊢
    rw [show ("\n" : Str).length = 1 by decide +kernel]
    show ((hdG G cs :: ls).map fun z => z.length).sum + _ ≤ _
    omega
  have TK1 := TK16.but b ⟨_, D16.at_d⟩ nRd
  clear ad lk
  generalize hdG G cs :: ls = lsA at eL hread hshort hsum
  refine ⟨⟨_, rfl⟩, _, rfl, _, Lz, lsA, rfl, rfl, .inl (SqL.of eL), hsum, .inr ⟨_, rfl, hshort.1, hshort.2, fun x e v G2 s2 hv => ?_, fun n c e => by rw [hread] at e; cases e⟩⟩
  rw [hread] at e
  cases e
  refine ⟨_, rfl, _, rfl, z3, fun t1 ht1 => ?_⟩
  have s3 := same_upd (o := .tup [.str "tab", .ref c, .ref R]) ht1
  refine ⟨_, _, Dp.same' s3 (dp_tabAt hv), dp_three (SqT.of upd_same) ((TK1.same s2).same s3), shp, shp, _, rfl, iteNB (refl_of shp) ?_⟩
  have TK3 := (TK1.same s2).same s3
  generalize upd G2 t1 (.tup [.str "tab", .ref c, .ref R]) = G3 at TK3 ⊢
  clear s3 s2 ht1 hv TK1 D eL b hshort hread hsum hgh prx eRx hpx hcx TK16 D16 eL16
  -- the wrong texts
  refine next_it ?_
  refine seq_set ?_
  refine lst_ruleP (n := 8) (I := yesI) (wrgR_stab (K := K)) ?_ (by decide) trivial fun W1 vs1 H8 s8 l8 w8 h8 => ?_
  · exact laysP_cons yes_stab wrgR_stab (wr 0 rfl rfl rfl) (laysP_cons yes_stab wrgR_stab (wr 1 rfl rfl rfl) (laysP_cons yes_stab wrgR_stab (wr 2 rfl rfl rfl) (laysP_cons yes_stab wrgR_stab (wr 3 rfl rfl rfl) (laysP_cons yes_stab wrgR_stab (wr 4 rfl rfl rfl) (laysP_cons yes_stab wrgR_stab (wr 5 rfl rfl rfl) (laysP_cons yes_stab wrgR_stab (wr 6 rfl rfl rfl) (laysP_cons yes_stab wrgR_stab (wr 7 rfl rfl rfl) laysP_nil)))))))
  refine seq_set ?_
  refine ⟨_, rfl, ?_⟩
  refine lst_ruleP (n := 5) (I := yesI) (wrgR_stab (K := K)) ?_ (by decide) trivial fun W2 vs2 H9 s9 l9 w9 h9 => ?_
  · exact laysP_cons yes_stab wrgR_stab (wr 8 rfl rfl rfl) (laysP_cons yes_stab wrgR_stab (wr 9 rfl rfl rfl) (laysP_cons yes_stab wrgR_stab (wr 10 rfl rfl rfl) (laysP_cons yes_stab wrgR_stab (wr 11 rfl rfl rfl) (laysP_cons yes_stab wrgR_stab (wr 12 rfl rfl rfl) laysP_nil))))
  refine ⟨W1, W2, _, _, rfl, rfl, s9 _ _ h8, h9, Nat.le_trans (show _ ≤ 13 by omega) (by decide), fun W3 nW3 => ?_⟩
  have s10 := same_upd (o := .lst (vs1 ++ vs2)) nW3
  have h10 : upd H9 W3 (.lst (vs1 ++ vs2)) W3 = some (.lst (vs1 ++ vs2)) := upd_same
  have w10 : ∀ v ∈ vs1 ++ vs2, WrgR K (upd H9 W3 (.lst (vs1 ++ vs2))) v := fun v hv => by
    rcases List.mem_append.mp hv with hv | hv
    · exact wrgR_stab _ _ _ (s9.trans s10) (w8 v hv)
    · exact wrgR_stab _ _ _ s10 (w9 v hv)
  have TK10 := TK3.same (s8.trans (s9.trans s10))
  have l10 : (vs1 ++ vs2).length = 13 := by rw [List.length_append, l8, l9]
  generalize upd H9 W3 (.lst (vs1 ++ vs2)) = H10 at h10 w10 TK10 ⊢
  generalize vs1 ++ vs2 = vsA at h10 w10 l10
  clear s8 s9 s10 nW3 h9 h8 w9 w8 l8 l9 TK3
  refine seq_set ?_
  refine ⟨_, rfl, ?_⟩
  refine lst_ruleP (n := 1) (I := yesI) (wrgR_stab (K := K)) ?_ (by decide) trivial fun W4 vs4 H11 s11 l11 w11 h11 => ?_
  · exact laysP_cons yes_stab wrgR_stab (wr 13 rfl rfl rfl) laysP_nil
  refine ⟨W3, W4, _, _, rfl, rfl, s11 _ _ h10, h11, Nat.le_trans (show _ ≤ 14 by omega) (by decide), fun W5 nW5 => ?_⟩
  have s12 := same_upd (o := .lst (vsA ++ vs4)) nW5
  have h12 : upd H11 W5 (.lst (vsA ++ vs4)) W5 = some (.lst (vsA ++ vs4)) := upd_same
  have w12 : ∀ v ∈ vsA ++ vs4, WrgR K (upd H11 W5 (.lst (vsA ++ vs4))) v := fun v hv => by
    rcases List.mem_append.mp hv with hv | hv
    · exact wrgR_stab _ _ _ (s11.trans s12) (w10 v hv)
    · exact wrgR_stab _ _ _ s12 (w11 v hv)
  have TK12 := TK10.same (s11.trans s12)
  have l12 : (vsA ++ vs4).length = 14 := by rw [List.length_append, l10, l11]
  generalize upd H11 W5 (.lst (vsA ++ vs4)) = H12 at h12 w12 TK12 ⊢
  generalize vsA ++ vs4 = vsB at h12 w12 l12
  clear s11 s12 nW5 h11 w11 w10 h10 l10 l11 TK10
  refine seq_set ?_
  refine ⟨_, rfl, ?_⟩
  refine lst_ruleP (n := 6) (I := yesI) (wrgR_stab (K := K)) ?_ (by decide) trivial fun W6 vs6 H13 s13 l13 w13 h13 => ?_
  · exact laysP_cons yes_stab wrgR_stab (wr 14 rfl rfl rfl) (laysP_cons yes_stab wrgR_stab (wr 15 rfl rfl rfl) (laysP_cons yes_stab wrgR_stab (give_wrong (a := 0) (b := 0) (.inl ⟨.inl rfl, rfl⟩) rfl rfl) (laysP_cons yes_stab wrgR_stab (give_wrong (a := 0) (b := 0) (.inl ⟨.inr ⟨5, rfl⟩, rfl⟩) rfl rfl) (laysP_cons yes_stab wrgR_stab (wr 16 rfl rfl rfl) (laysP_cons yes_stab wrgR_stab (wr 17 rfl rfl rfl) laysP_nil)))))
  refine ⟨W5, W6, _, _, rfl, rfl, s13 _ _ h12, h13, Nat.le_trans (show _ ≤ 20 by omega) (by decide), fun W7 nW7 => ?_⟩
  have s14 := same_upd (o := .lst (vsB ++ vs6)) nW7
  have h14 : upd H13 W7 (.lst (vsB ++ vs6)) W7 = some (.lst (vsB ++ vs6)) := upd_same
  have w14 : ∀ v ∈ vsB ++ vs6, WrgR K (upd H13 W7 (.lst (vsB ++ vs6))) v := fun v hv => by
    rcases List.mem_append.mp hv with hv | hv
    · exact wrgR_stab _ _ _ (s13.trans s14) (w12 v hv)
    · exact wrgR_stab _ _ _ s14 (w13 v hv)
  have TK14 := TK12.same (s13.trans s14)
  generalize upd H13 W7 (.lst (vsB ++ vs6)) = H14 at h14 w14 TK14 ⊢
  generalize vsB ++ vs6 = vsW at h14 w14
  clear s13 s14 nW7 h13 w13 w12 h12 l12 l13 TK12
  refine seq_it ?_
  refine ⟨_, rfl, W7, rfl, ⟨_, SqL.of h14⟩, ?_⟩
  refine for_it (walk_list (xs := vsW)) (fun i σ G' => ∃ (y16 y17 : Option V), σ = [some (.ref a), some (.ref d), some (.ref Dk), none, some (.ref c), none, none, some (.ref wd), some (.ref R), some (.str G), some (.ref Lz), none, y12, y13, y14, some (.ref W7), y16, y17, none, none, none, none, none] ∧ Same H14 G') ⟨none, none, rfl, Same.refl _⟩ (fun i σ G' _ ⟨_, _, _, s'⟩ => Same.sqL s' (SqL.of h14)) ?_ ?_
  · rintro i v σ G4 G5 hi ⟨y16, y17, rfl, s4⟩ ⟨rfl, hv⟩
    obtain ⟨q1, z, x, o, rfl, hq, hask, hx⟩ := wrgR_stab _ _ _ s4 (w14 v (List.mem_of_getElem? hv))
    refine ⟨q1, _, rfl, hq, rfl, _, _, rfl, _, _, rfl, rfl, ?_⟩
    refine ⟨_, rfl, z, o, rfl, hask, fun y G6 s6 hy => ⟨_, rfl, _, _, pl_dp hy, pl_dp (hx.same s6), pl_shaped o, pl_shaped o, _, rfl, iteNB (refl_of (pl_shaped o)) ⟨_, _, rfl, s4.trans s6⟩⟩⟩
  rintro σ G4 ⟨y16, y17, rfl, s4⟩
  have TK5 := TK14.same s4
  clear w14 h14 TK14 s4
  -- numbers, texts
  refine ends_nx ?_
  refine seq_tup2 ?_
  refine g_cols1 (K := K) (I := yesI) _ _ _ trivial fun v18 H15 s15 c18 => ?_
  refine g_cols1 (K := K) (I := yesI) _ _ _ trivial fun v19 H16 s16 c19 => ?_
  refine ⟨z2, fun tp htp => ?_⟩
  have s17 := same_upd (o := .tup [v18, v19]) htp
  have c18' := colsV_stab _ _ _ (s16.trans s17) c18
  have c19' := colsV_stab _ _ _ s17 c19
  have TK17 := TK5.same (s15.trans (s16.trans s17))
  have h17 : upd H16 tp (.tup [v18, v19]) tp = some (.tup [v18, v19]) := upd_same
  generalize upd H16 tp (.tup [v18, v19]) = H17 at c18' c19' TK17 h17 ⊢
  clear s15 s16 s17 htp c18 c19 TK5
  refine ⟨tp, _, rfl, SqT.of h17, rfl, _, _, rfl, _, _, rfl, rfl, ?_⟩
  clear h17
  obtain ⟨cx17, rx17, hc17, hp17, eR17, pr17⟩ := TK17.ex
  have V4 : ColsV K cs H17 (.ref c) := ⟨c, cx17, rfl, hc17, hp17⟩
  have V8 : RowsV K rows H17 (.ref R) := ⟨R, rx17, rfl, .inl (SqL.of eR17), pr17⟩
  clear hc17 hp17 eR17 pr17 TK17
  -- what no text tells
  refine seq_set ?_
  refine lst_ruleP (n := 6) (I := BadI K cs rows) (badR_stab (K := K)) ?_ (by decide) ⟨rfl, ⟨_, rfl, V4⟩, ⟨_, rfl, V8⟩, ⟨_, rfl, c18'⟩, ⟨_, rfl, c19'⟩⟩ fun W1 vs1 H18 s18 l18 w18 h18 => ?_
  · exact laysP_cons badI_stab badR_stab (g_bad badI_stab g_v4 g_v8 (side_d (by decide +kernel) T) (tt_name (by decide +kernel))) (laysP_cons badI_stab badR_stab (g_bad badI_stab g_v4 g_v8 (side_d (by decide +kernel) T) (tt_name (by decide +kernel))) (laysP_cons badI_stab badR_stab (g_bad badI_stab g_cols0 g_rows0 (side_b (by decide +kernel)) (tt_cols (by decide +kernel))) (laysP_cons badI_stab badR_stab (g_bad badI_stab g_v18 (g_rows1 (x := .num (10 ^ 18)) (fun σ H Q q => ⟨10, 18, rfl, rfl, (by show _ ∧ _ ∧ _; decide), q⟩)) (side_b (by decide +kernel)) (by decide +kernel)) (laysP_cons badI_stab badR_stab (g_bad badI_stab g_v18 (g_rows1 (x := .quo "x") (fun σ H Q q => q)) (side_b (by decide +kernel)) (by decide +kernel)) (laysP_cons badI_stab badR_stab (g_bad badI_stab g_v19 (g_rows1 (x := .quo "q\"") (fun σ H Q q => q)) (side_b (by decide +kernel)) (by decide +kernel)) laysP_nil)))))
  have V4' := colsV_stab _ _ _ s18 V4
  have V8' := rowsV_stab _ _ _ s18 V8
  have c18'' := colsV_stab _ _ _ s18 c18'
  have c19'' := colsV_stab _ _ _ s18 c19'
  clear V4 V8 c18' c19' s18
  refine seq_set ?_
  refine ⟨_, rfl, ?_⟩
  refine lst_ruleP (n := 4) (I := BadI K cs rows) (badR_stab (K := K)) ?_ (by decide) ⟨rfl, ⟨_, rfl, V4'⟩, ⟨_, rfl, V8'⟩, ⟨_, rfl, c18''⟩, ⟨_, rfl, c19''⟩⟩ fun W2 vs2 H19 s19 l19 w19 h19 => ?_
  · exact laysP_cons badI_stab badR_stab (g_bad badI_stab g_v4 g_v8 (side_d (by decide +kernel) T) (tt_name (by decide +kernel))) (laysP_cons badI_stab badR_stab (g_bad badI_stab g_v4 g_v8 (side_d (by decide +kernel) T) (tt_name (by decide +kernel))) (laysP_cons badI_stab badR_stab (g_bad badI_stab g_v4 g_v8 (side_d (by decide +kernel) T) (tt_name (by decide +kernel))) (laysP_cons badI_stab badR_stab (g_bad badI_stab g_cols1 g_rows0 (side_b (by decide +kernel)) (tt_cols (by decide +kernel))) laysP_nil)))
  refine ⟨W1, W2, _, _, rfl, rfl, s19 _ _ h18, h19, Nat.le_trans (show _ ≤ 10 by omega) (by decide), fun W3 nW3 => ?_⟩
  have s20 := same_upd (o := .lst (vs1 ++ vs2)) nW3
  have h20 : upd H19 W3 (.lst (vs1 ++ vs2)) W3 = some (.lst (vs1 ++ vs2)) := upd_same
  have w20 : ∀ v ∈ vs1 ++ vs2, BadR K (upd H19 W3 (.lst (vs1 ++ vs2))) v := fun v hv => by
    rcases List.mem_append.mp hv with hv | hv
    · exact badR_stab _ _ _ (s19.trans s20) (w18 v hv)
    · exact badR_stab _ _ _ s20 (w19 v hv)
  have l20 : (vs1 ++ vs2).length = 10 := by rw [List.length_append, l18, l19]
  have V4 := colsV_stab _ _ _ (s19.trans s20) V4'
  have V8 := rowsV_stab _ _ _ (s19.trans s20) V8'
  have c18' := colsV_stab _ _ _ (s19.trans s20) c18''
  have c19' := colsV_stab _ _ _ (s19.trans s20) c19''
  generalize upd H19 W3 (.lst (vs1 ++ vs2)) = H20 at h20 w20 V4 V8 c18' c19' ⊢
  generalize vs1 ++ vs2 = vsA at h20 w20 l20
  clear s19 s20 nW3 h19 h18 w19 w18 l18 l19 V4' V8' c18'' c19''
  refine seq_set ?_
  refine ⟨_, rfl, ?_⟩
  refine lst_ruleP (n := 3) (I := BadI K cs rows) (badR_stab (K := K)) ?_ (by decide) ⟨rfl, ⟨_, rfl, V4⟩, ⟨_, rfl, V8⟩, ⟨_, rfl, c18'⟩, ⟨_, rfl, c19'⟩⟩ fun W4 vs4 H21 s21 l21 w21 h21 => ?_
  · exact laysP_cons badI_stab badR_stab (g_bad badI_stab g_v19 (g_rows1 (x := .quo "x\ny") (fun σ H Q q => q)) (side_b (by decide +kernel)) (by decide +kernel)) (laysP_cons badI_stab badR_stab (g_bad badI_stab g_cols1 g_rows0 (side_b (by decide +kernel)) (tt_cols (by decide +kernel))) (laysP_cons badI_stab badR_stab (g_bad badI_stab (g_many (K := K) (fun σ H i => i.1) rfl) g_rows0 many_side (tt_cols many_bad)) laysP_nil))
  refine ⟨W3, W4, _, _, rfl, rfl, s21 _ _ h20, h21, Nat.le_trans (show _ ≤ 13 by omega) (by decide), fun W5 nW5 => ?_⟩
  have s22 := same_upd (o := .lst (vsA ++ vs4)) nW5
  have h22 : upd H21 W5 (.lst (vsA ++ vs4)) W5 = some (.lst (vsA ++ vs4)) := upd_same
  have w22 : ∀ v ∈ vsA ++ vs4, BadR K (upd H21 W5 (.lst (vsA ++ vs4))) v := fun v hv => by
    rcases List.mem_append.mp hv with hv | hv
    · exact badR_stab _ _ _ (s21.trans s22) (w20 v hv)
    · exact badR_stab _ _ _ s22 (w21 v hv)
  generalize upd H21 W5 (.lst (vsA ++ vs4)) = H22 at h22 w22 ⊢
  generalize vsA ++ vs4 = vsW2 at h22 w22
  clear s21 s22 nW5 h21 w21 w20 h20 l20 l21 V4 V8 c18' c19'
  refine seq_it ?_
  refine ⟨_, rfl, W5, rfl, ⟨_, SqL.of h22⟩, ?_⟩
  refine for_it (tb := fun D σ H => tSeq (tDrop (tCallS (spTT K CB) (WE (wOnly K (.ref CB) (fun a cls d => tAsg (tC (.str "")) (gName 11)) (fun _ _ _ _ => False) D)) (tCons (tVar 11) (tCons (tVar 21) (tCons (tVar 22) tNil))))) (tRet (tC (.bl false))) D σ H) (walk_list (K := K) (a := W5) (xs := vsW2)) (fun i σ G' => ∃ (y11 y21 y22 : Option V), σ = [some (.ref a), some (.ref d), some (.ref Dk), none, some (.ref c), none, none, some (.ref wd), some (.ref R), some (.str G), some (.ref Lz), y11, y12, y13, y14, some (.ref W7), y16, y17, some v18, some v19, some (.ref W5), y21, y22] ∧ Same H22 G') ⟨none, none, none, rfl, Same.refl _⟩ (fun i σ G' _ ⟨_, _, _, _, s'⟩ => Same.sqL s' (SqL.of h22)) ?_ ?_
  · rintro i v σ G5 G6 hi ⟨y11, y21, y22, rfl, s5⟩ ⟨rfl, hv⟩
    obtain ⟨q1, nm, vc, vr, cs', rows', rfl, hq, ⟨c', cx', rfl, k1, k2⟩, ⟨a', rx', rfl, k3, k4⟩, sd, hb⟩ := badR_stab _ _ _ s5 (w22 v (List.mem_of_getElem? hv))
    refine ⟨q1, _, rfl, hq, rfl, _, _, rfl, _, _, rfl, _, _, rfl, rfl, ?_⟩
    refine ⟨_, rfl, _, rfl, _, rfl, nm, c', cx', cs', a', rx', rows', rfl, sd.nm, k1, k2, sd.cl, sd.cw, k3, k4, sd.rl, sd.rw, fun e => absurd (hb.symm.trans e) Bool.false_ne_true, fun _ x dx G7 s7 hd => ?_⟩
    refine ⟨true, TB.te, fun _ aa haa => ?_, fun z => by cases z⟩
    exact ⟨_, _, _, rfl, s5.trans (s7.trans (same_upd hd))⟩
  rintro σ G5 ⟨y11, y21, y22, rfl, s5⟩
  exact q _
end
end Kx

namespace Kx
open PySem PySem.Spec PyProof.Rows L2
abbrev sLaw : Stmt := s_law
/-- an error of the class at S is what «except S» names -/
theorem exm_own {K : PySem.W.Frag} {S : Addr} (h1 : PySem.W.subIn K (.ref S) (.type "BaseException") = some true) (h2 : PySem.W.isClsIn K S = true) (h3 : PySem.W.typeIn K (.ref S) = some (.type "type")) (h4 : PySem.W.subIn K (.ref S) (.ref S) = some true) : PySem.W.exmOne K (.ref S) (.ref S) = some true := by
  have sub : (PySem.W.subIn K (.ref S) (.type "BaseException") == some true) = true := by rw [h1] <;> rfl
  have cls : ((PySem.W.clsIn K S).isSome && PySem.W.typeIn K (.ref S) == some (.type "type")) = true := by
    rw [show (PySem.W.clsIn K S).isSome = true from h2, h3] <;> rfl
  show (if (PySem.W.subIn K (.ref S) (.type "BaseException") == some true) = true then (if ((PySem.W.clsIn K S).isSome && PySem.W.typeIn K (.ref S) == some (.type "type")) = true then PySem.W.subIn K (.ref S) (.ref S) else none) else none) = some true
  rw [if_pos sub, if_pos cls, h4]
theorem any_val {P : Program} {w : World} {K : PySem.W.Frag} {mg : Str → Option Value} {base : Heap} {g C CL : Addr} {fd : FuncData} (F : Fun K "read_value" "read_value" s_read_value g fd) (Z : LnC K CL) (G_took : ReadyM P w K mg base CL 3 "took" ["self", "word"] (spTook CL)) (G_take : ReadyM P w K mg base CL 3 "take" ["self", "kind"] (spTake C CL)) : FnOk P w K mg base (L2.CX P w) 4 g fd ["line", "kind"] (fun vs H Q E => ∃ k, spVal C CL k vs H Q E) :=
  ⟨fun vs H Q E ⟨k, h⟩ => (ok_rval (k := k) F Z G_took G_take).1 vs H Q E h, fun A outer s H args us vs Q E h1 h2 h3 h4 ⟨k, h⟩ => (ok_rval (k := k) F Z G_took G_take).2 A outer s H args us vs Q E h1 h2 h3 h4 h⟩
theorem all_mk {l : PySem.W.OpenLaw} {w : World} {K : PySem.W.Frag} {h : Heap} {mg : Str → Option Value} {fa : Addr} (X : K.In h) (G : h.Ns mainGlobals mg) (hfa : mg "law" = some (.ref fa))
    {f1 f2 f3 f4 f5 f6 f7 f8 f9 f10 f11 f12 f13 f14 f15 f16 f17 f18 f19 f20 f21 f22 f23 f24 f25 f26 f27 f28 f29 f30 f31 : Addr} {od1 an1 od2 an2 od3 an3 od4 an4 od5 an5 od6 an6 od7 an7 od8 an8 od9 an9 od10 an10 od11 an11 od12 an12 od13 an13 od14 an14 od15 an15 od16 an16 od17 an17 od18 an18 od19 an19 od20 an20 od21 an21 od22 an22 od23 an23 od24 an24 od25 an25 od26 an26 od27 an27 od28 an28 od29 an29 od30 an30 od31 an31 : Option Addr} {sl1 sl2 sl3 sl4 sl5 sl6 sl7 sl8 sl9 sl10 sl11 sl12 sl13 sl14 sl15 sl16 sl17 sl18 sl19 sl20 sl21 sl22 sl23 sl24 sl25 sl26 sl27 sl28 sl29 sl30 sl31 : Array (Option Value)} {oc1 kV1 dc1 pm1 cd1 ct1 oc2 kV2 dc2 pm2 cd2 ct2 oc3 kV3 dc3 pm3 cd3 ct3 oc4 kV4 dc4 pm4 cd4 ct4 oc5 kV5 dc5 pm5 cd5 ct5 oc6 kV6 dc6 pm6 cd6 ct6 oc7 kV7 dc7 pm7 cd7 ct7 oc8 kV8 dc8 pm8 cd8 ct8 oc9 kV9 dc9 pm9 cd9 ct9 oc10 kV10 dc10 pm10 cd10 ct10 oc11 kV11 dc11 pm11 cd11 ct11 oc12 kV12 dc12 pm12 cd12 ct12 oc13 kV13 dc13 pm13 cd13 ct13 oc14 kV14 dc14 pm14 cd14 ct14 oc15 kV15 dc15 pm15 cd15 ct15 oc16 kV16 dc16 pm16 cd16 ct16 oc17 kV17 dc17 pm17 cd17 ct17 oc18 kV18 dc18 pm18 cd18 ct18 oc19 kV19 dc19 pm19 cd19 ct19 oc20 kV20 dc20 pm20 cd20 ct20 oc21 kV21 dc21 pm21 cd21 ct21 oc22 kV22 dc22 pm22 cd22 ct22 oc23 kV23 dc23 pm23 cd23 ct23 oc24 kV24 dc24 pm24 cd24 ct24 oc25 kV25 dc25 pm25 cd25 ct25 oc26 kV26 dc26 pm26 cd26 ct26 oc27 kV27 dc27 pm27 cd27 ct27 oc28 kV28 dc28 pm28 cd28 ct28 oc29 kV29 dc29 pm29 cd29 ct29 oc30 kV30 dc30 pm30 cd30 ct30 oc31 kV31 dc31 pm31 cd31 ct31 : Value} {u1 u2 u3 u4 u5 : PySem.Tok} {C fI N BE CL aO aG : Addr} {nm qn : Str} {bs : List Value} {sn : List Str} {sub : List Value} {ab : Bool} {col : Option Bool} {dd odI anI odO odG : Option Addr} {n0 n1 n2 n3 n5 : Option Value} {slI slO slG : Array (Option Value)} {itsO itsG : Array Value} {nO nG : Nat} {ocI dcI pmI cdI ctI : Value} {tS : PySem.Tok} {CB fB NB BEB : Addr} {nmB qnB : Str} {bsB : List Value} {snB : List Str} {subB : List Value} {abB : Bool} {colB : Option Bool} {ddB odB anB : Option Addr} {nB0 nB1 nB2 nB3 nB5 : Option Value} {slB : Array (Option Value)} {ocB dcB pmB cdB ctB : Value} {mf1 : Addr} {mod1 man1 : Option Addr} {msl1 : Array (Option Value)} {moc1 mkV1 mdc1 mpm1 mcd1 mct1 : Value} {mf2 : Addr} {mod2 man2 : Option Addr} {msl2 : Array (Option Value)} {moc2 mkV2 mdc2 mpm2 mcd2 mct2 : Value} {mf3 : Addr} {mod3 man3 : Option Addr} {msl3 : Array (Option Value)} {moc3 mkV3 mdc3 mpm3 mcd3 mct3 : Value} {mf4 : Addr} {mod4 man4 : Option Addr} {msl4 : Array (Option Value)} {moc4 mkV4 mdc4 mpm4 mcd4 mct4 : Value} {mf5 : Addr} {mod5 man5 : Option Addr} {msl5 : Array (Option Value)} {moc5 mkV5 mdc5 mpm5 mcd5 mct5 : Value} {mf6 : Addr} {mod6 man6 : Option Addr} {msl6 : Array (Option Value)} {moc6 mkV6 mdc6 mpm6 mcd6 mct6 : Value} {mf7 : Addr} {mod7 man7 : Option Addr} {msl7 : Array (Option Value)} {moc7 mkV7 mdc7 mpm7 mcd7 mct7 : Value} {mf8 : Addr} {mod8 man8 : Option Addr} {msl8 : Array (Option Value)} {moc8 mkV8 mdc8 mpm8 mcd8 mct8 : Value} {mf9 : Addr} {mod9 man9 : Option Addr} {msl9 : Array (Option Value)} {moc9 mkV9 mdc9 mpm9 mcd9 mct9 : Value}
    (a1 : PySem.W.nsIn K mainGlobals "is_of_kind" = some (some (.ref f1))) (l1 : K.lookup f1 = some ⟨oc1, od1, .func (PySem.W.fnOf "is_of_kind" "is_of_kind" (defArgs sOfKind) (defBody sOfKind) (defScope sOfKind) .none kV1 dc1 pm1 an1 cd1 ct1), sl1⟩) (c1 : PySem.W.codeIn K cd1 "is_of_kind" = true) (k1 : PySem.W.keepIn K (.ref f1) = true)
    (a2 : PySem.W.nsIn K mainGlobals "is_row" = some (some (.ref f2))) (l2 : K.lookup f2 = some ⟨oc2, od2, .func (PySem.W.fnOf "is_row" "is_row" (defArgs sIsRow) (defBody sIsRow) (defScope sIsRow) .none kV2 dc2 pm2 an2 cd2 ct2), sl2⟩) (c2 : PySem.W.codeIn K cd2 "is_row" = true) (k2 : PySem.W.keepIn K (.ref f2) = true)
    (a3 : PySem.W.nsIn K mainGlobals "are_rows" = some (some (.ref f3))) (l3 : K.lookup f3 = some ⟨oc3, od3, .func (PySem.W.fnOf "are_rows" "are_rows" (defArgs sAreRows) (defBody sAreRows) (defScope sAreRows) .none kV3 dc3 pm3 an3 cd3 ct3), sl3⟩) (c3 : PySem.W.codeIn K cd3 "are_rows" = true) (k3 : PySem.W.keepIn K (.ref f3) = true)
    (a4 : PySem.W.nsIn K mainGlobals "is_figure" = some (some (.ref f4))) (l4 : K.lookup f4 = some ⟨oc4, od4, .func (PySem.W.fnOf "is_figure" "is_figure" (defArgs s_is_figure) (defBody s_is_figure) (defScope s_is_figure) .none kV4 dc4 pm4 an4 cd4 ct4), sl4⟩) (c4 : PySem.W.codeIn K cd4 "is_figure" = true) (k4 : PySem.W.keepIn K (.ref f4) = true)
    (a5 : PySem.W.nsIn K mainGlobals "is_letter" = some (some (.ref f5))) (l5 : K.lookup f5 = some ⟨oc5, od5, .func (PySem.W.fnOf "is_letter" "is_letter" (defArgs s_is_letter) (defBody s_is_letter) (defScope s_is_letter) .none kV5 dc5 pm5 an5 cd5 ct5), sl5⟩) (c5 : PySem.W.codeIn K cd5 "is_letter" = true) (k5 : PySem.W.keepIn K (.ref f5) = true)
    (a6 : PySem.W.nsIn K mainGlobals "run_end" = some (some (.ref f6))) (l6 : K.lookup f6 = some ⟨oc6, od6, .func (PySem.W.fnOf "run_end" "run_end" (defArgs s_run_end) (defBody s_run_end) (defScope s_run_end) .none kV6 dc6 pm6 an6 cd6 ct6), sl6⟩) (c6 : PySem.W.codeIn K cd6 "run_end" = true) (k6 : PySem.W.keepIn K (.ref f6) = true)
    (a7 : PySem.W.nsIn K mainGlobals "is_name" = some (some (.ref f7))) (l7 : K.lookup f7 = some ⟨oc7, od7, .func (PySem.W.fnOf "is_name" "is_name" (defArgs s_is_name) (defBody s_is_name) (defScope s_is_name) .none kV7 dc7 pm7 an7 cd7 ct7), sl7⟩) (c7 : PySem.W.codeIn K cd7 "is_name" = true) (k7 : PySem.W.keepIn K (.ref f7) = true)
    (a8 : PySem.W.nsIn K mainGlobals "is_number" = some (some (.ref f8))) (l8 : K.lookup f8 = some ⟨oc8, od8, .func (PySem.W.fnOf "is_number" "is_number" (defArgs s_is_number) (defBody s_is_number) (defScope s_is_number) .none kV8 dc8 pm8 an8 cd8 ct8), sl8⟩) (c8 : PySem.W.codeIn K cd8 "is_number" = true) (k8 : PySem.W.keepIn K (.ref f8) = true)
    (a9 : PySem.W.nsIn K mainGlobals "piece_at" = some (some (.ref f9))) (l9 : K.lookup f9 = some ⟨oc9, od9, .func (PySem.W.fnOf "piece_at" "piece_at" (defArgs s_piece_at) (defBody s_piece_at) (defScope s_piece_at) .none kV9 dc9 pm9 an9 cd9 ct9), sl9⟩) (c9 : PySem.W.codeIn K cd9 "piece_at" = true) (k9 : PySem.W.keepIn K (.ref f9) = true)
    (a10 : PySem.W.nsIn K mainGlobals "is_bracket" = some (some (.ref f10))) (l10 : K.lookup f10 = some ⟨oc10, od10, .func (PySem.W.fnOf "is_bracket" "is_bracket" (defArgs s_is_bracket) (defBody s_is_bracket) (defScope s_is_bracket) .none kV10 dc10 pm10 an10 cd10 ct10), sl10⟩) (c10 : PySem.W.codeIn K cd10 "is_bracket" = true) (k10 : PySem.W.keepIn K (.ref f10) = true)
    (a11 : PySem.W.nsIn K mainGlobals "pieces_of" = some (some (.ref f11))) (l11 : K.lookup f11 = some ⟨oc11, od11, .func (PySem.W.fnOf "pieces_of" "pieces_of" (defArgs s_pieces_of) (defBody s_pieces_of) (defScope s_pieces_of) .none kV11 dc11 pm11 an11 cd11 ct11), sl11⟩) (c11 : PySem.W.codeIn K cd11 "pieces_of" = true) (k11 : PySem.W.keepIn K (.ref f11) = true)
    (a12 : PySem.W.nsIn K mainGlobals "read_list" = some (some (.ref f12))) (l12 : K.lookup f12 = some ⟨oc12, od12, .func (PySem.W.fnOf "read_list" "read_list" (defArgs s_read_list) (defBody s_read_list) (defScope s_read_list) .none kV12 dc12 pm12 an12 cd12 ct12), sl12⟩) (c12 : PySem.W.codeIn K cd12 "read_list" = true) (k12 : PySem.W.keepIn K (.ref f12) = true)
    (a13 : PySem.W.nsIn K mainGlobals "read_column" = some (some (.ref f13))) (l13 : K.lookup f13 = some ⟨oc13, od13, .func (PySem.W.fnOf "read_column" "read_column" (defArgs s_read_column) (defBody s_read_column) (defScope s_read_column) .none kV13 dc13 pm13 an13 cd13 ct13), sl13⟩) (c13 : PySem.W.codeIn K cd13 "read_column" = true) (k13 : PySem.W.keepIn K (.ref f13) = true)
    (a14 : PySem.W.nsIn K mainGlobals "read_table_head" = some (some (.ref f14))) (l14 : K.lookup f14 = some ⟨oc14, od14, .func (PySem.W.fnOf "read_table_head" "read_table_head" (defArgs s_read_table_head) (defBody s_read_table_head) (defScope s_read_table_head) .none kV14 dc14 pm14 an14 cd14 ct14), sl14⟩) (c14 : PySem.W.codeIn K cd14 "read_table_head" = true) (k14 : PySem.W.keepIn K (.ref f14) = true)
    (a15 : PySem.W.nsIn K mainGlobals "table_head" = some (some (.ref f15))) (l15 : K.lookup f15 = some ⟨oc15, od15, .func (PySem.W.fnOf "table_head" "table_head" (defArgs s_table_head) (defBody s_table_head) (defScope s_table_head) .none kV15 dc15 pm15 an15 cd15 ct15), sl15⟩) (c15 : PySem.W.codeIn K cd15 "table_head" = true) (k15 : PySem.W.keepIn K (.ref f15) = true)
    (a16 : PySem.W.nsIn K mainGlobals "is_column" = some (some (.ref f16))) (l16 : K.lookup f16 = some ⟨oc16, od16, .func (PySem.W.fnOf "is_column" "is_column" (defArgs s_is_column) (defBody s_is_column) (defScope s_is_column) .none kV16 dc16 pm16 an16 cd16 ct16), sl16⟩) (c16 : PySem.W.codeIn K cd16 "is_column" = true) (k16 : PySem.W.keepIn K (.ref f16) = true)
    (a17 : PySem.W.nsIn K mainGlobals "are_columns" = some (some (.ref f17))) (l17 : K.lookup f17 = some ⟨oc17, od17, .func (PySem.W.fnOf "are_columns" "are_columns" (defArgs s_are_columns) (defBody s_are_columns) (defScope s_are_columns) .none kV17 dc17 pm17 an17 cd17 ct17), sl17⟩) (c17 : PySem.W.codeIn K cd17 "are_columns" = true) (k17 : PySem.W.keepIn K (.ref f17) = true)
    (a18 : PySem.W.nsIn K mainGlobals "has_text" = some (some (.ref f18))) (l18 : K.lookup f18 = some ⟨oc18, od18, .func (PySem.W.fnOf "has_text" "has_text" (defArgs s_has_text) (defBody s_has_text) (defScope s_has_text) .none kV18 dc18 pm18 an18 cd18 ct18), sl18⟩) (c18 : PySem.W.codeIn K cd18 "has_text" = true) (k18 : PySem.W.keepIn K (.ref f18) = true)
    (a19 : PySem.W.nsIn K mainGlobals "value_text" = some (some (.ref f19))) (l19 : K.lookup f19 = some ⟨oc19, od19, .func (PySem.W.fnOf "value_text" "value_text" (defArgs s_value_text) (defBody s_value_text) (defScope s_value_text) .none kV19 dc19 pm19 an19 cd19 ct19), sl19⟩) (c19 : PySem.W.codeIn K cd19 "value_text" = true) (k19 : PySem.W.keepIn K (.ref f19) = true)
    (a20 : PySem.W.nsIn K mainGlobals "row_text" = some (some (.ref f20))) (l20 : K.lookup f20 = some ⟨oc20, od20, .func (PySem.W.fnOf "row_text" "row_text" (defArgs s_row_text) (defBody s_row_text) (defScope s_row_text) .none kV20 dc20 pm20 an20 cd20 ct20), sl20⟩) (c20 : PySem.W.codeIn K cd20 "row_text" = true) (k20 : PySem.W.keepIn K (.ref f20) = true)
    (a21 : PySem.W.nsIn K mainGlobals "table_text" = some (some (.ref f21))) (l21 : K.lookup f21 = some ⟨oc21, od21, .func (PySem.W.fnOf "table_text" "table_text" (defArgs s_table_text) (defBody s_table_text) (defScope s_table_text) .none kV21 dc21 pm21 an21 cd21 ct21), sl21⟩) (c21 : PySem.W.codeIn K cd21 "table_text" = true) (k21 : PySem.W.keepIn K (.ref f21) = true)
    (a22 : PySem.W.nsIn K mainGlobals "read_value" = some (some (.ref f22))) (l22 : K.lookup f22 = some ⟨oc22, od22, .func (PySem.W.fnOf "read_value" "read_value" (defArgs s_read_value) (defBody s_read_value) (defScope s_read_value) .none kV22 dc22 pm22 an22 cd22 ct22), sl22⟩) (c22 : PySem.W.codeIn K cd22 "read_value" = true) (k22 : PySem.W.keepIn K (.ref f22) = true)
    (a23 : PySem.W.nsIn K mainGlobals "read_row" = some (some (.ref f23))) (l23 : K.lookup f23 = some ⟨oc23, od23, .func (PySem.W.fnOf "read_row" "read_row" (defArgs s_read_row) (defBody s_read_row) (defScope s_read_row) .none kV23 dc23 pm23 an23 cd23 ct23), sl23⟩) (c23 : PySem.W.codeIn K cd23 "read_row" = true) (k23 : PySem.W.keepIn K (.ref f23) = true)
    (a24 : PySem.W.nsIn K mainGlobals "table_by" = some (some (.ref f24))) (l24 : K.lookup f24 = some ⟨oc24, od24, .func (PySem.W.fnOf "table_by" "table_by" (defArgs s_table_by) (defBody s_table_by) (defScope s_table_by) .none kV24 dc24 pm24 an24 cd24 ct24), sl24⟩) (c24 : PySem.W.codeIn K cd24 "table_by" = true) (k24 : PySem.W.keepIn K (.ref f24) = true)
    (a25 : PySem.W.nsIn K mainGlobals "_law_cell_at" = some (some (.ref f25))) (l25 : K.lookup f25 = some ⟨oc25, od25, .func (PySem.W.fnOf "_law_cell_at" "_law_cell_at" (defArgs sCell) (defBody sCell) (defScope sCell) .none kV25 dc25 pm25 an25 cd25 ct25), sl25⟩) (c25 : PySem.W.codeIn K cd25 "_law_cell_at" = true) (k25 : PySem.W.keepIn K (.ref f25) = true)
    (a26 : PySem.W.nsIn K mainGlobals "_law_draw" = some (some (.ref f26))) (l26 : K.lookup f26 = some ⟨oc26, od26, .func (PySem.W.fnOf "_law_draw" "_law_draw" (defArgs sDraw) (defBody sDraw) (defScope sDraw) .none kV26 dc26 pm26 an26 cd26 ct26), sl26⟩) (c26 : PySem.W.codeIn K cd26 "_law_draw" = true) (k26 : PySem.W.keepIn K (.ref f26) = true)
    (a27 : PySem.W.nsIn K mainGlobals "_law_number" = some (some (.ref f27))) (l27 : K.lookup f27 = some ⟨oc27, od27, .func (PySem.W.fnOf "_law_number" "_law_number" (defArgs sNumb) (defBody sNumb) (defScope sNumb) .none kV27 dc27 pm27 an27 cd27 ct27), sl27⟩) (c27 : PySem.W.codeIn K cd27 "_law_number" = true) (k27 : PySem.W.keepIn K (.ref f27) = true)
    (a28 : PySem.W.nsIn K mainGlobals "_law_next" = some (some (.ref f28))) (l28 : K.lookup f28 = some ⟨oc28, od28, .func (PySem.W.fnOf "_law_next" "_law_next" (defArgs sNext) (defBody sNext) (defScope sNext) .none kV28 dc28 pm28 an28 cd28 ct28), sl28⟩) (c28 : PySem.W.codeIn K cd28 "_law_next" = true) (k28 : PySem.W.keepIn K (.ref f28) = true)
    (a29 : PySem.W.nsIn K mainGlobals "_law_pick" = some (some (.ref f29))) (l29 : K.lookup f29 = some ⟨oc29, od29, .func (PySem.W.fnOf "_law_pick" "_law_pick" (defArgs sPick) (defBody sPick) (defScope sPick) .none kV29 dc29 pm29 an29 cd29 ct29), sl29⟩) (c29 : PySem.W.codeIn K cd29 "_law_pick" = true) (k29 : PySem.W.keepIn K (.ref f29) = true)
    (a30 : PySem.W.nsIn K mainGlobals "_law_place" = some (some (.ref f30))) (l30 : K.lookup f30 = some ⟨oc30, od30, .func (PySem.W.fnOf "_law_place" "_law_place" (defArgs s_law_place) (defBody s_law_place) (defScope s_law_place) .none kV30 dc30 pm30 an30 cd30 ct30), sl30⟩) (c30 : PySem.W.codeIn K cd30 "_law_place" = true) (k30 : PySem.W.keepIn K (.ref f30) = true)
    (a31 : PySem.W.nsIn K mainGlobals "law" = some (some (.ref f31))) (l31 : K.lookup f31 = some ⟨oc31, od31, .func (PySem.W.fnOf "law" "law" (defArgs s_law) (defBody s_law) (defScope s_law) .none kV31 dc31 pm31 an31 cd31 ct31), sl31⟩) (c31 : PySem.W.codeIn K cd31 "law" = true) (k31 : PySem.W.keepIn K (.ref f31) = true)
    (z1 : PySem.W.nsIn K mainGlobals "len" = some none)
    (z2 : PySem.W.nsIn K mainGlobals "int" = some none)
    (z3 : PySem.W.nsIn K mainGlobals "bool" = some none)
    (z4 : PySem.W.nsIn K mainGlobals "all" = some none)
    (z5 : PySem.W.nsIn K mainGlobals "range" = some none)
    (z6 : PySem.W.nsIn K mainGlobals "str" = some none)
    (z7 : PySem.W.nsIn K mainGlobals "list" = some none)
    (z8 : PySem.W.nsIn K mainGlobals "tuple" = some none)
    (z9 : PySem.W.nsIn K mainGlobals "isinstance" = some none)
    (z10 : PySem.W.nsIn K mainGlobals "enumerate" = some none)
    (z11 : PySem.W.nsIn K mainGlobals "zip" = some none)
    (z12 : PySem.W.nsIn K mainGlobals "abs" = some none)
    (g1 : PySem.W.nsIn K mainGlobals "LEAST_INT" = some (some (.int (-9223372036854775808) u1)))
    (g2 : PySem.W.nsIn K mainGlobals "GREATEST_INT" = some (some (.int (9223372036854775807) u2)))
    (g3 : PySem.W.nsIn K mainGlobals "MOST_PIECES" = some (some (.int (300) u3)))
    (g4 : PySem.W.nsIn K mainGlobals "MOST_FIGURES" = some (some (.int (18) u4)))
    (g5 : PySem.W.nsIn K mainGlobals "MOST_COLUMNS" = some (some (.int (60) u5)))
    (aL : PySem.W.nsIn K mainGlobals "Line" = some (some (.ref CL)))
    (ma1 : PySem.W.findIn K (.ref CL) "__init__" = some (some (.ref mf1))) (mi1 : PySem.W.isFn K (.ref mf1) = true) (ml1 : K.lookup mf1 = some ⟨moc1, mod1, .func (PySem.W.fnOf "__init__" "Line.__init__" (defArgs m_Line_init) (defBody m_Line_init) (defScope m_Line_init) .none mkV1 mdc1 mpm1 man1 mcd1 mct1), msl1⟩) (mc1 : PySem.W.codeIn K mcd1 "Line.__init__" = true) (mk1 : PySem.W.keepIn K (.ref mf1) = true)
    (ma2 : PySem.W.findIn K (.ref CL) "fail" = some (some (.ref mf2))) (mi2 : PySem.W.isFn K (.ref mf2) = true) (ml2 : K.lookup mf2 = some ⟨moc2, mod2, .func (PySem.W.fnOf "fail" "Line.fail" (defArgs m_Line_fail) (defBody m_Line_fail) (defScope m_Line_fail) .none mkV2 mdc2 mpm2 man2 mcd2 mct2), msl2⟩) (mc2 : PySem.W.codeIn K mcd2 "Line.fail" = true) (mk2 : PySem.W.keepIn K (.ref mf2) = true)
    (ma3 : PySem.W.findIn K (.ref CL) "is_kind" = some (some (.ref mf3))) (mi3 : PySem.W.isFn K (.ref mf3) = true) (ml3 : K.lookup mf3 = some ⟨moc3, mod3, .func (PySem.W.fnOf "is_kind" "Line.is_kind" (defArgs m_Line_is_kind) (defBody m_Line_is_kind) (defScope m_Line_is_kind) .none mkV3 mdc3 mpm3 man3 mcd3 mct3), msl3⟩) (mc3 : PySem.W.codeIn K mcd3 "Line.is_kind" = true) (mk3 : PySem.W.keepIn K (.ref mf3) = true)
    (ma4 : PySem.W.findIn K (.ref CL) "own_word" = some (some (.ref mf4))) (mi4 : PySem.W.isFn K (.ref mf4) = true) (ml4 : K.lookup mf4 = some ⟨moc4, mod4, .func (PySem.W.fnOf "own_word" "Line.own_word" (defArgs m_Line_own_word) (defBody m_Line_own_word) (defScope m_Line_own_word) .none mkV4 mdc4 mpm4 man4 mcd4 mct4), msl4⟩) (mc4 : PySem.W.codeIn K mcd4 "Line.own_word" = true) (mk4 : PySem.W.keepIn K (.ref mf4) = true)
    (ma5 : PySem.W.findIn K (.ref CL) "take" = some (some (.ref mf5))) (mi5 : PySem.W.isFn K (.ref mf5) = true) (ml5 : K.lookup mf5 = some ⟨moc5, mod5, .func (PySem.W.fnOf "take" "Line.take" (defArgs m_Line_take) (defBody m_Line_take) (defScope m_Line_take) .none mkV5 mdc5 mpm5 man5 mcd5 mct5), msl5⟩) (mc5 : PySem.W.codeIn K mcd5 "Line.take" = true) (mk5 : PySem.W.keepIn K (.ref mf5) = true)
    (ma6 : PySem.W.findIn K (.ref CL) "take_one_of" = some (some (.ref mf6))) (mi6 : PySem.W.isFn K (.ref mf6) = true) (ml6 : K.lookup mf6 = some ⟨moc6, mod6, .func (PySem.W.fnOf "take_one_of" "Line.take_one_of" (defArgs m_Line_take_one_of) (defBody m_Line_take_one_of) (defScope m_Line_take_one_of) .none mkV6 mdc6 mpm6 man6 mcd6 mct6), msl6⟩) (mc6 : PySem.W.codeIn K mcd6 "Line.take_one_of" = true) (mk6 : PySem.W.keepIn K (.ref mf6) = true)
    (ma7 : PySem.W.findIn K (.ref CL) "took" = some (some (.ref mf7))) (mi7 : PySem.W.isFn K (.ref mf7) = true) (ml7 : K.lookup mf7 = some ⟨moc7, mod7, .func (PySem.W.fnOf "took" "Line.took" (defArgs m_Line_took) (defBody m_Line_took) (defScope m_Line_took) .none mkV7 mdc7 mpm7 man7 mcd7 mct7), msl7⟩) (mc7 : PySem.W.codeIn K mcd7 "Line.took" = true) (mk7 : PySem.W.keepIn K (.ref mf7) = true)
    (ma8 : PySem.W.findIn K (.ref CL) "expect" = some (some (.ref mf8))) (mi8 : PySem.W.isFn K (.ref mf8) = true) (ml8 : K.lookup mf8 = some ⟨moc8, mod8, .func (PySem.W.fnOf "expect" "Line.expect" (defArgs m_Line_expect) (defBody m_Line_expect) (defScope m_Line_expect) .none mkV8 mdc8 mpm8 man8 mcd8 mct8), msl8⟩) (mc8 : PySem.W.codeIn K mcd8 "Line.expect" = true) (mk8 : PySem.W.keepIn K (.ref mf8) = true)
    (ma9 : PySem.W.findIn K (.ref CL) "expect_end" = some (some (.ref mf9))) (mi9 : PySem.W.isFn K (.ref mf9) = true) (ml9 : K.lookup mf9 = some ⟨moc9, mod9, .func (PySem.W.fnOf "expect_end" "Line.expect_end" (defArgs m_Line_expect_end) (defBody m_Line_expect_end) (defScope m_Line_expect_end) .none mkV9 mdc9 mpm9 man9 mcd9 mct9), msl9⟩) (mc9 : PySem.W.codeIn K mcd9 "Line.expect_end" = true) (mk9 : PySem.W.keepIn K (.ref mf9) = true)
    (aCB : PySem.W.nsIn K mainGlobals "BadThing" = some (some (.ref CB)))
    (xLB : K.lookup CB = some (excClassObj nmB qnB CB NB bsB [.ref BEB, .type "Exception", .type "BaseException", .type "object"] true snB subB abB colB ddB nB0 nB1 nB2 nB3 nB5 "Exception.__new__"))
    (saB : PySem.W.findIn K (.ref CB) "__setattr__" = some (some (.builtin "object.__setattr__"))) (gatB : PySem.W.findIn K (.ref CB) "__getattribute__" = some (some (.builtin "BaseException.__getattribute__"))) (ggB : PySem.W.findIn K (.ref CB) "__getattr__" = some none) (nbB : PySem.W.findIn K (.ref CB) "thing" = some none)
    (aiB : PySem.W.findIn K (.ref CB) "__init__" = some (some (.ref fB))) (tiB : PySem.W.typeIn K (.ref fB) = some (.type "function"))
    (liB : K.lookup fB = some ⟨ocB, odB, .func (PySem.W.fnOf "__init__" "BadThing.__init__" (PySem.BadX.iA ⟨6, 17, 6, 21⟩ ⟨6, 23, 6, 28⟩) (PySem.BadX.iB ⟨7, 8, 7, 12⟩ ⟨7, 8, 7, 18⟩ ⟨7, 21, 7, 26⟩ ⟨7, 8, 7, 26⟩) PySem.BadX.iS .none .none dcB pmB anB cdB ctB), slB⟩) (ciB : PySem.W.codeIn K cdB "BadThing.__init__" = true)
    (kCB : PySem.W.keepIn K (.ref CB) = true) (eCB : PySem.W.subIn K (.ref CB) (.type "BaseException") = some true) (tyCB : PySem.W.typeIn K (.ref CB) = some (.type "type")) (hCB : PySem.W.hasDictIn K CB = true) (iCB : PySem.W.isClsIn K CB = true) (sCB : PySem.W.subIn K (.ref CB) (.ref CB) = some true)
    (aC : PySem.W.nsIn K mainGlobals "BadText" = some (some (.ref C)))
    (xL : K.lookup C = some (excClassObj nm qn C N bs [.ref BE, .type "Exception", .type "BaseException", .type "object"] true sn sub ab col dd n0 n1 n2 n3 n5 "Exception.__new__"))
    (sa : PySem.W.findIn K (.ref C) "__setattr__" = some (some (.builtin "object.__setattr__"))) (gat : PySem.W.findIn K (.ref C) "__getattribute__" = some (some (.builtin "BaseException.__getattribute__"))) (gg : PySem.W.findIn K (.ref C) "__getattr__" = some none) (nb : PySem.W.findIn K (.ref C) "line" = some none) (nw : PySem.W.findIn K (.ref C) "column" = some none)
    (ai : PySem.W.findIn K (.ref C) "__init__" = some (some (.ref fI))) (ti : PySem.W.typeIn K (.ref fI) = some (.type "function"))
    (li : K.lookup fI = some ⟨ocI, odI, .func (PySem.W.fnOf "__init__" "BadText.__init__" (PySem.BadY.iA ⟨10, 17, 10, 21⟩ ⟨10, 23, 10, 27⟩ ⟨10, 29, 10, 35⟩) (PySem.BadY.iB ⟨11, 8, 11, 12⟩ ⟨11, 8, 11, 17⟩ ⟨11, 20, 11, 24⟩ ⟨11, 8, 11, 24⟩ ⟨12, 8, 12, 12⟩ ⟨12, 8, 12, 19⟩ ⟨12, 22, 12, 28⟩ ⟨12, 8, 12, 28⟩) PySem.BadY.iS .none .none dcI pmI anI cdI ctI), slI⟩) (ci : PySem.W.codeIn K cdI "BadText.__init__" = true)
    (kC : PySem.W.keepIn K (.ref C) = true) (eC : PySem.W.subIn K (.ref C) (.type "BaseException") = some true) (tyC : PySem.W.typeIn K (.ref C) = some (.type "type")) (hC : PySem.W.hasDictIn K C = true) (iC : PySem.W.isClsIn K C = true) (sC : PySem.W.subIn K (.ref C) (.ref C) = some true)
    (gO : PySem.W.nsIn K mainGlobals "OWN_WORDS" = some (some (.ref aO))) (lO : K.lookup aO = some ⟨.type "tuple", odO, .seq itsO nO, slO⟩) (vO : Vals (owns.map V.str) itsO.toList)
    (gG : PySem.W.nsIn K mainGlobals "LONG_SIGNS" = some (some (.ref aG))) (lG : K.lookup aG = some ⟨.type "tuple", odG, .seq itsG nG, slG⟩) (vG : Vals (longs.map V.str) itsG.toList)
    (gS : PySem.W.nsIn K mainGlobals "SHORT_SIGNS" = some (some (.str "(),=<>+-*/:" tS)))
    (pgL : PySem.W.plainGet K CL Str.empty = true) (hdL : PySem.W.hasDictIn K CL = true) (poL : PySem.W.plainOver K CL = true) (saL : PySem.W.findIn K (.ref CL) "__setattr__" = some (some (.builtin "object.__setattr__"))) (mkL : PySem.W.makesIn K CL = true) (kcL : PySem.W.keepIn K (.ref CL) = true)
    (y1 : PySem.W.findIn K (.ref CL) "number" = some none) (y2 : PySem.W.findIn K (.ref CL) "pieces" = some none) (y3 : PySem.W.findIn K (.ref CL) "place" = some none) :
    ∃ fd : FuncData, (∀ (s : Shared) (v : Value), BindsTo s fd ⟨[v], []⟩ [("script", v)]) ∧ ∀ base : Heap, K.In base → base.Ns mainGlobals mg → FnOk l.prog w K mg base CX0 10 fa fd ["script"] (spLaw K) := by
  have e := hfa.symm.trans (PySem.W.mg_of X G a31)
  cases e
  have F1 := fun_mk (st := sOfKind) l1 c1 k1
  have b1 := F1.binds (ps := ["thing", "kind"]) fun _ _ _ _ _ _ us hl => match us, hl with | [_, _], _ => rfl
  have m1 := PySem.W.mg_of X G a1
  have F2 := fun_mk (st := sIsRow) l2 c2 k2
  have b2 := F2.binds (ps := ["thing", "columns"]) fun _ _ _ _ _ _ us hl => match us, hl with | [_, _], _ => rfl
  have m2 := PySem.W.mg_of X G a2
  have F3 := fun_mk (st := sAreRows) l3 c3 k3
  have b3 := F3.binds (ps := ["thing", "columns"]) fun _ _ _ _ _ _ us hl => match us, hl with | [_, _], _ => rfl
  have m3 := PySem.W.mg_of X G a3
  have F4 := fun_mk (st := s_is_figure) l4 c4 k4
  have b4 := F4.binds (ps := ["sign"]) fun _ _ _ _ _ _ us hl => match us, hl with | [_], _ => rfl
  have m4 := PySem.W.mg_of X G a4
  have F5 := fun_mk (st := s_is_letter) l5 c5 k5
  have b5 := F5.binds (ps := ["sign"]) fun _ _ _ _ _ _ us hl => match us, hl with | [_], _ => rfl
  have m5 := PySem.W.mg_of X G a5
  have F6 := fun_mk (st := s_run_end) l6 c6 k6
  have b6 := F6.binds (ps := ["text", "at"]) fun _ _ _ _ _ _ us hl => match us, hl with | [_, _], _ => rfl
  have m6 := PySem.W.mg_of X G a6
  have F7 := fun_mk (st := s_is_name) l7 c7 k7
  have b7 := F7.binds (ps := ["thing"]) fun _ _ _ _ _ _ us hl => match us, hl with | [_], _ => rfl
  have m7 := PySem.W.mg_of X G a7
  have F8 := fun_mk (st := s_is_number) l8 c8 k8
  have b8 := F8.binds (ps := ["run"]) fun _ _ _ _ _ _ us hl => match us, hl with | [_], _ => rfl
  have m8 := PySem.W.mg_of X G a8
  have F9 := fun_mk (st := s_piece_at) l9 c9 k9
  have b9 := F9.binds (ps := ["text", "at"]) fun _ _ _ _ _ _ us hl => match us, hl with | [_, _], _ => rfl
  have m9 := PySem.W.mg_of X G a9
  have F10 := fun_mk (st := s_is_bracket) l10 c10 k10
  have b10 := F10.binds (ps := ["piece"]) fun _ _ _ _ _ _ us hl => match us, hl with | [_], _ => rfl
  have m10 := PySem.W.mg_of X G a10
  have F11 := fun_mk (st := s_pieces_of) l11 c11 k11
  have b11 := F11.binds (ps := ["text", "number"]) fun _ _ _ _ _ _ us hl => match us, hl with | [_, _], _ => rfl
  have m11 := PySem.W.mg_of X G a11
  have F12 := fun_mk (st := s_read_list) l12 c12 k12
  have b12 := F12.binds (ps := ["line", "read_one"]) fun _ _ _ _ _ _ us hl => match us, hl with | [_, _], _ => rfl
  have m12 := PySem.W.mg_of X G a12
  have F13 := fun_mk (st := s_read_column) l13 c13 k13
  have b13 := F13.binds (ps := ["line"]) fun _ _ _ _ _ _ us hl => match us, hl with | [_], _ => rfl
  have m13 := PySem.W.mg_of X G a13
  have F14 := fun_mk (st := s_read_table_head) l14 c14 k14
  have b14 := F14.binds (ps := ["line"]) fun _ _ _ _ _ _ us hl => match us, hl with | [_], _ => rfl
  have m14 := PySem.W.mg_of X G a14
  have F15 := fun_mk (st := s_table_head) l15 c15 k15
  have b15 := F15.binds (ps := ["name", "columns"]) fun _ _ _ _ _ _ us hl => match us, hl with | [_, _], _ => rfl
  have m15 := PySem.W.mg_of X G a15
  have F16 := fun_mk (st := s_is_column) l16 c16 k16
  have b16 := F16.binds (ps := ["thing"]) fun _ _ _ _ _ _ us hl => match us, hl with | [_], _ => rfl
  have m16 := PySem.W.mg_of X G a16
  have F17 := fun_mk (st := s_are_columns) l17 c17 k17
  have b17 := F17.binds (ps := ["thing"]) fun _ _ _ _ _ _ us hl => match us, hl with | [_], _ => rfl
  have m17 := PySem.W.mg_of X G a17
  have F18 := fun_mk (st := s_has_text) l18 c18 k18
  have b18 := F18.binds (ps := ["value"]) fun _ _ _ _ _ _ us hl => match us, hl with | [_], _ => rfl
  have m18 := PySem.W.mg_of X G a18
  have F19 := fun_mk (st := s_value_text) l19 c19 k19
  have b19 := F19.binds (ps := ["value"]) fun _ _ _ _ _ _ us hl => match us, hl with | [_], _ => rfl
  have m19 := PySem.W.mg_of X G a19
  have F20 := fun_mk (st := s_row_text) l20 c20 k20
  have b20 := F20.binds (ps := ["row"]) fun _ _ _ _ _ _ us hl => match us, hl with | [_], _ => rfl
  have m20 := PySem.W.mg_of X G a20
  have F21 := fun_mk (st := s_table_text) l21 c21 k21
  have b21 := F21.binds (ps := ["name", "columns", "rows"]) fun _ _ _ _ _ _ us hl => match us, hl with | [_, _, _], _ => rfl
  have m21 := PySem.W.mg_of X G a21
  have F22 := fun_mk (st := s_read_value) l22 c22 k22
  have b22 := F22.binds (ps := ["line", "kind"]) fun _ _ _ _ _ _ us hl => match us, hl with | [_, _], _ => rfl
  have m22 := PySem.W.mg_of X G a22
  have F23 := fun_mk (st := s_read_row) l23 c23 k23
  have b23 := F23.binds (ps := ["line", "columns"]) fun _ _ _ _ _ _ us hl => match us, hl with | [_, _], _ => rfl
  have m23 := PySem.W.mg_of X G a23
  have F24 := fun_mk (st := s_table_by) l24 c24 k24
  have b24 := F24.binds (ps := ["text"]) fun _ _ _ _ _ _ us hl => match us, hl with | [_], _ => rfl
  have m24 := PySem.W.mg_of X G a24
  have F25 := fun_mk (st := sCell) l25 c25 k25
  have b25 := F25.binds (ps := ["script", "k"]) fun _ _ _ _ _ _ us hl => match us, hl with | [_, _], _ => rfl
  have m25 := PySem.W.mg_of X G a25
  have F26 := fun_mk (st := sDraw) l26 c26 k26
  have b26 := F26.binds (ps := ["cell", "k", "bound"]) fun _ _ _ _ _ _ us hl => match us, hl with | [_, _, _], _ => rfl
  have m26 := PySem.W.mg_of X G a26
  have F27 := fun_mk (st := sNumb) l27 c27 k27
  have b27 := F27.binds (ps := ["cell", "k", "bound"]) fun _ _ _ _ _ _ us hl => match us, hl with | [_, _, _], _ => rfl
  have m27 := PySem.W.mg_of X G a27
  have F28 := fun_mk (st := sNext) l28 c28 k28
  have b28 := F28.binds (ps := ["draw", "bound"]) fun _ _ _ _ _ _ us hl => match us, hl with | [_, _], _ => rfl
  have m28 := PySem.W.mg_of X G a28
  have F29 := fun_mk (st := sPick) l29 c29 k29
  have b29 := F29.binds (ps := ["draw", "things"]) fun _ _ _ _ _ _ us hl => match us, hl with | [_, _], _ => rfl
  have m29 := PySem.W.mg_of X G a29
  have F30 := fun_mk (st := s_law_place) l30 c30 k30
  have b30 := F30.binds (ps := ["text"]) fun _ _ _ _ _ _ us hl => match us, hl with | [_], _ => rfl
  have m30 := PySem.W.mg_of X G a30
  have F31 := fun_mk (st := s_law) l31 c31 k31
  have m_len := PySem.W.mg_none_of X G z1
  have m_int := PySem.W.mg_none_of X G z2
  have m_bool := PySem.W.mg_none_of X G z3
  have m_all := PySem.W.mg_none_of X G z4
  have m_range := PySem.W.mg_none_of X G z5
  have m_str := PySem.W.mg_none_of X G z6
  have m_list := PySem.W.mg_none_of X G z7
  have m_tuple := PySem.W.mg_none_of X G z8
  have m_isinstance := PySem.W.mg_none_of X G z9
  have m_enumerate := PySem.W.mg_none_of X G z10
  have m_zip := PySem.W.mg_none_of X G z11
  have m_abs := PySem.W.mg_none_of X G z12
  have m_LEAST_INT := PySem.W.mg_of X G g1
  have m_GREATEST_INT := PySem.W.mg_of X G g2
  have m_MOST_PIECES := PySem.W.mg_of X G g3
  have m_MOST_FIGURES := PySem.W.mg_of X G g4
  have m_MOST_COLUMNS := PySem.W.mg_of X G g5
  have MF1 := fun_mk (st := m_Line_init) ml1 mc1 mk1
  have mb1 := MF1.binds (ps := ["self", "text", "number"]) fun _ _ _ _ _ _ us hl => match us, hl with | [_, _, _], _ => rfl
  have MF2 := fun_mk (st := m_Line_fail) ml2 mc2 mk2
  have mb2 := MF2.binds (ps := ["self"]) fun _ _ _ _ _ _ us hl => match us, hl with | [_], _ => rfl
  have MF3 := fun_mk (st := m_Line_is_kind) ml3 mc3 mk3
  have mb3 := MF3.binds (ps := ["self", "kind"]) fun _ _ _ _ _ _ us hl => match us, hl with | [_, _], _ => rfl
  have MF4 := fun_mk (st := m_Line_own_word) ml4 mc4 mk4
  have mb4 := MF4.binds (ps := ["self"]) fun _ _ _ _ _ _ us hl => match us, hl with | [_], _ => rfl
  have MF5 := fun_mk (st := m_Line_take) ml5 mc5 mk5
  have mb5 := MF5.binds (ps := ["self", "kind"]) fun _ _ _ _ _ _ us hl => match us, hl with | [_, _], _ => rfl
  have MF6 := fun_mk (st := m_Line_take_one_of) ml6 mc6 mk6
  have mb6 := MF6.binds (ps := ["self", "words"]) fun _ _ _ _ _ _ us hl => match us, hl with | [_, _], _ => rfl
  have MF7 := fun_mk (st := m_Line_took) ml7 mc7 mk7
  have mb7 := MF7.binds (ps := ["self", "word"]) fun _ _ _ _ _ _ us hl => match us, hl with | [_, _], _ => rfl
  have MF8 := fun_mk (st := m_Line_expect) ml8 mc8 mk8
  have mb8 := MF8.binds (ps := ["self", "word"]) fun _ _ _ _ _ _ us hl => match us, hl with | [_, _], _ => rfl
  have MF9 := fun_mk (st := m_Line_expect_end) ml9 mc9 mk9
  have mb9 := MF9.binds (ps := ["self"]) fun _ _ _ _ _ _ us hl => match us, hl with | [_], _ => rfl
  have bad : PySem.BadY.BadTxt K mg C fI :=
    { gC := PySem.W.mg_of X G aC, cls := ⟨nm, qn, N, bs, _, sn, sub, ab, col, dd, n0, n1, n2, n3, n5, xL, rfl⟩, sa := sa, ga := gat, gg := gg, noN := nb, noW := nw, iC := ai, tC := ti, kC := kC, exC := eC, tyC := tyC, hdC := hC, te := exm_own eC iC tyC sC,
      fn := ⟨_, _, _, _, _, _, _, _, _, _, _, _, _, _, _, _, _, _, _, li, ci⟩ }
  have Z : LnC K CL := ⟨⟨pgL, hdL, poL, saL⟩, y1, y2, y3⟩
  have Tb : Tbl K mg := ⟨⟨aO, PySem.W.mg_of X G gO, fun H => .inr ⟨_, itsO, nO, lO, rfl, rfl, by rw [← Array.length_toList, ← vO.length]; decide, vO⟩⟩, ⟨aG, PySem.W.mg_of X G gG, fun H => .inr ⟨_, itsG, nG, lG, rfl, rfl, by rw [← Array.length_toList, ← vG.length]; decide, vG⟩⟩, ⟨_, PySem.W.mg_of X G gS⟩⟩
  have badT : PySem.BadX.BadTxt K mg CB fB :=
    { gC := PySem.W.mg_of X G aCB, cls := ⟨nmB, qnB, NB, bsB, _, snB, subB, abB, colB, ddB, nB0, nB1, nB2, nB3, nB5, xLB, rfl⟩, sa := saB, ga := gatB, gg := ggB, noN := nbB, iC := aiB, tC := tiB, kC := kCB, exC := eCB, tyC := tyCB, hdC := hCB, te := exm_own eCB iCB tyCB sCB,
      fn := ⟨_, _, _, _, _, _, _, _, _, _, _, _, _, _, liB, ciB⟩ }
  refine ⟨PySem.W.fnOf "law" "law" (defArgs sLaw) (defBody sLaw) (defScope sLaw) .none kV31 dc31 pm31 an31 cd31 ct31, fun s v => .of_eq rfl, fun base _ _ => ?_⟩
  have R_ofkind : Ready l.prog w K mg base 1 "is_of_kind" ["thing", "kind"] spOfKind := ⟨⟨f1, _, ok_ofkind F1 m_isinstance m_str m_int m_bool ⟨_, m_LEAST_INT⟩ ⟨_, m_GREATEST_INT⟩, b1, m1, k1⟩⟩
  have R_isrow : Ready l.prog w K mg base 2 "is_row" ["thing", "columns"] (spIsRow K) := ⟨⟨f2, _, ok_isrow F2 m_isinstance m_tuple m_len m_all m_zip R_ofkind, b2, m2, k2⟩⟩
  have R_arerows : Ready l.prog w K mg base 3 "are_rows" ["thing", "columns"] (spAreRows K) := ⟨⟨f3, _, ok_arerows F3 m_isinstance m_tuple m_list m_all R_isrow, b3, m3, k3⟩⟩
  have R_fig : Ready l.prog w K mg base 1 "is_figure" ["sign"] spFig := ⟨⟨f4, _, ok_figure F4, b4, m4, k4⟩⟩
  have R_let : Ready l.prog w K mg base 1 "is_letter" ["sign"] spLet := ⟨⟨f5, _, ok_letter F5, b5, m5, k5⟩⟩
  have R_run : Ready l.prog w K mg base 2 "run_end" ["text", "at"] spRunEnd := ⟨⟨f6, _, ok_runend F6 m_len R_let R_fig, b6, m6, k6⟩⟩
  have R_num : Ready l.prog w K mg base 2 "is_number" ["run"] spNumber := ⟨⟨f8, _, ok_number F8 m_len m_all ⟨_, m_MOST_FIGURES⟩ R_fig, b8, m8, k8⟩⟩
  have R_isnm : Ready l.prog w K mg base 3 "is_name" ["thing"] spIsNm := ⟨⟨f7, _, ok_isnm F7 Tb m_isinstance m_str m_len R_let R_run, b7, m7, k7⟩⟩
  have R_piece : Ready l.prog w K mg base 3 "piece_at" ["text", "at"] spPiece := ⟨⟨f9, _, ok_piece F9 Tb m_int R_let R_fig R_run R_num, b9, m9, k9⟩⟩
  have R_br : Ready l.prog w K mg base 1 "is_bracket" ["piece"] spBr := ⟨⟨f10, _, ok_br F10, b10, m10, k10⟩⟩
  have R_pieces : ReadyX l.prog w K mg base 4 "pieces_of" ["text", "number"] (spPieces K C) := ⟨⟨f11, _, ok_pieces F11 bad m_len ⟨_, m_MOST_PIECES⟩ R_piece R_br, b11, m11, k11⟩⟩
  have M_kind : ReadyM l.prog w K mg base CL 1 "is_kind" ["self", "kind"] (spIsKind CL) := ⟨⟨mf3, _, ok_iskind MF3 Z, mb3, ⟨ma3, mi3, mk3⟩⟩⟩
  have M_fail : ReadyM l.prog w K mg base CL 2 "fail" ["self"] (spFail C CL) := ⟨⟨mf2, _, ok_fail MF2 bad Z, mb2, ⟨ma2, mi2, mk2⟩⟩⟩
  have M_own : ReadyM l.prog w K mg base CL 2 "own_word" ["self"] (spOwn CL) := ⟨⟨mf4, _, ok_own MF4 Z M_kind, mb4, ⟨ma4, mi4, mk4⟩⟩⟩
  have M_take : ReadyM l.prog w K mg base CL 3 "take" ["self", "kind"] (spTake C CL) := ⟨⟨mf5, _, ok_take MF5 Z M_kind M_fail, mb5, ⟨ma5, mi5, mk5⟩⟩⟩
  have M_took : ReadyM l.prog w K mg base CL 3 "took" ["self", "word"] (spTook CL) := ⟨⟨mf7, _, ok_took MF7 Z M_own, mb7, ⟨ma7, mi7, mk7⟩⟩⟩
  have M_expect : ReadyM l.prog w K mg base CL 4 "expect" ["self", "word"] (spExpect C CL) := ⟨⟨mf8, _, ok_expect MF8 Z M_took M_fail, mb8, ⟨ma8, mi8, mk8⟩⟩⟩
  have M_end : ReadyM l.prog w K mg base CL 3 "expect_end" ["self"] (spExpEnd C CL) := ⟨⟨mf9, _, ok_expend MF9 Z M_kind M_fail, mb9, ⟨ma9, mi9, mk9⟩⟩⟩
  have M_one : ReadyM l.prog w K mg base CL 4 "take_one_of" ["self", "words"] (spTakeOne K C CL) := ⟨⟨mf6, _, ok_takeone MF6 Z M_own M_fail M_take, mb6, ⟨ma6, mi6, mk6⟩⟩⟩
  have C_line : ReadyC l.prog w K mg base CL 5 "Line" ["self", "text", "number"] (spInit C CL) := ⟨⟨mf1, _, PySem.W.mg_of X G aL, ⟨mkL, ma1, mi1, kcL⟩, ok_init MF1 Z R_pieces, mb1⟩⟩
  have L_col : ReadyX l.prog w K mg base 6 "read_list" ["line", "read_one"] (spList C CL f13 TwoAt (rdTwo ["int", "text"])) := ⟨⟨f12, _, ok_list F12 Z m_tuple TwoAt.keep (two_fine (by decide +kernel)) M_took ⟨⟨_, _, ok_rcolumn F13 Z M_take M_one, k13, b13⟩⟩ (by decide), b12, m12, k12⟩⟩
  have R_head : ReadyX l.prog w K mg base 7 "read_table_head" ["line"] (spRd C CL HeadAt rdHead) := ⟨⟨f14, _, (ok_rhead F14 Z m13 M_take M_expect L_col).mono (by decide), b14, m14, k14⟩⟩
  have R_thead : Ready l.prog w K mg base 1 "table_head" ["name", "columns"] (spHdT K) := ⟨⟨f15, _, ok_thead F15, b15, m15, k15⟩⟩
  have R_iscol : Ready l.prog w K mg base 4 "is_column" ["thing"] (spIsCol K) := ⟨⟨f16, _, ok_iscol F16 m_isinstance m_tuple m_len R_isnm, b16, m16, k16⟩⟩
  have R_arecols : Ready l.prog w K mg base 5 "are_columns" ["thing"] (spAreCols K) := ⟨⟨f17, _, ok_arecols F17 m_isinstance m_tuple m_list m_len m_all ⟨_, m_MOST_COLUMNS⟩ R_iscol, b17, m17, k17⟩⟩
  have R_hast : Ready l.prog w K mg base 1 "has_text" ["value"] spHasT := ⟨⟨f18, _, ok_hast F18 m_isinstance m_str m_len m_abs ⟨_, m_MOST_FIGURES⟩, b18, m18, k18⟩⟩
  have R_vlt : Ready l.prog w K mg base 1 "value_text" ["value"] spVlT := ⟨⟨f19, _, ok_vlt F19 m_isinstance m_str, b19, m19, k19⟩⟩
  have R_rowt : Ready l.prog w K mg base 2 "row_text" ["row"] (spRowT K) := ⟨⟨f20, _, ok_rowt F20 R_vlt, b20, m20, k20⟩⟩
  have R_tt : ReadyX l.prog w K mg base 6 "table_text" ["name", "columns", "rows"] (spTT K CB) := ⟨⟨f21, _, ok_tt F21 badT m_all R_isnm R_arecols R_arerows R_hast R_thead R_rowt, b21, m21, k21⟩⟩
  have R_val : ReadyX l.prog w K mg base 4 "read_value" ["line", "kind"] (fun vs H Q E => ∃ k, spVal C CL k vs H Q E) := ⟨⟨f22, _, any_val F22 Z M_took M_take, b22, m22, k22⟩⟩
  have R_rrow : ReadyX l.prog w K mg base 5 "read_row" ["line", "columns"] (spRow C CL) := ⟨⟨f23, _, ok_rrow F23 Z m_tuple M_expect R_val, b23, m23, k23⟩⟩
  have R_by : ReadyX l.prog w K mg base 8 "table_by" ["text"] (spTabBy C) := ⟨⟨f24, _, ok_tab F24 bad Z m_isinstance m_str m_enumerate C_line M_kind M_end R_head R_rrow, b24, m24, k24⟩⟩
  have R_cell : Ready l.prog w K mg base 1 "_law_cell_at" ["script", "k"] (spCell K) := ⟨⟨f25, _, ok_cell F25 m_len, b25, m25, k25⟩⟩
  have R_draw : Ready l.prog w K mg base 1 "_law_draw" ["cell", "k", "bound"] spDraw := ⟨⟨f26, _, ok_draw F26 m_int, b26, m26, k26⟩⟩
  have R_numb : Ready l.prog w K mg base 2 "_law_number" ["cell", "k", "bound"] spNumb := ⟨⟨f27, _, ok_numb F27 m_int m_range R_draw, b27, m27, k27⟩⟩
  have R_next : Ready l.prog w K mg base 3 "_law_next" ["draw", "bound"] spNext := ⟨⟨f28, _, ok_next F28 m_int R_cell R_numb, b28, m28, k28⟩⟩
  have R_pick : Ready l.prog w K mg base 4 "_law_pick" ["draw", "things"] (spPick K) := ⟨⟨f29, _, ok_pick F29 m_len R_next, b29, m29, k29⟩⟩
  have R_place : Ready l.prog w K mg base 9 "_law_place" ["text"] (spPlace K) := ⟨⟨f30, _, ok_place F30 bad R_by, b30, m30, k30⟩⟩
  exact ok_law F31 badT m_range m_tuple m_str m_enumerate m_isinstance m_abs R_next R_pick R_by R_tt R_place
theorem walk {l : PySem.W.OpenLaw} {q : Program} {loose : List Str} {XP : (Str → Option Value) → Heap → Prop} {YP : World → Heap → Prop} {d : DefRec} {K : Params → PySem.W.Frag} (hn : l.most = some 63) (hdf : d.params.defaults = [])
    (hY : ∀ (w : World) (h : Heap), YP w h → (K w.params).In h)
    (F : ∀ (w : World) (mg : Str → Option Value) (fa : Addr) (h : Heap), (K w.params).In h → h.Ns mainGlobals mg → mg d.name = some (.ref fa) →
      ∃ fd : FuncData, (∀ (s : Shared) (u : Value), BindsTo s fd ⟨[u], []⟩ [("script", u)]) ∧ ∀ base : Heap, (K w.params).In base → base.Ns mainGlobals mg → FnOk l.prog w (K w.params) mg base CX0 10 fa fd ["script"] (spLaw (K w.params))) :
    PySem.W.WalkO q loose XP YP l.row.toRowW d [] (fun f vs => PySem.call f vs) :=
  L2.walk_of (n := 63) (k := 10) (x := "script") (CX := fun _ => CX0) (sp := fun w => spLaw (K w.params)) hn (by decide) hdf ⟨rfl, by decide, by decide⟩ hY F (fun _ _ a ns hl _ hS => ⟨a, ns, rfl, hS, fun _ => rfl⟩) fun _ _ _ _ _ z => z
end Kx
open PySem PySem.W PyProof.Rows
set_option maxRecDepth 100000 in
set_option maxHeartbeats 0 in
theorem PySem.Challenge.cw_countedonce_k35_tables_as_texts_holds : PySem.Challenge.rw_countedonce_k35_tables_as_texts.Holds := by
  w_on; o_law; k_head; (case hw => w_witness2)
  k_fill
  refine Kx.walk (l := PySem.Challenge.rw_countedonce_k35_tables_as_texts) rfl rfl (fun w h Y => PySem.W.kIn_of Y) ?F
  case F =>
    intro w mg fa h KX G hmg
    refine' Kx.all_mk KX G hmg ?a1 ?l1 ?c1 ?k1 ?a2 ?l2 ?c2 ?k2 ?a3 ?l3 ?c3 ?k3 ?a4 ?l4 ?c4 ?k4 ?a5 ?l5 ?c5 ?k5 ?a6 ?l6 ?c6 ?k6 ?a7 ?l7 ?c7 ?k7 ?a8 ?l8 ?c8 ?k8 ?a9 ?l9 ?c9 ?k9 ?a10 ?l10 ?c10 ?k10 ?a11 ?l11 ?c11 ?k11 ?a12 ?l12 ?c12 ?k12 ?a13 ?l13 ?c13 ?k13 ?a14 ?l14 ?c14 ?k14 ?a15 ?l15 ?c15 ?k15 ?a16 ?l16 ?c16 ?k16 ?a17 ?l17 ?c17 ?k17 ?a18 ?l18 ?c18 ?k18 ?a19 ?l19 ?c19 ?k19 ?a20 ?l20 ?c20 ?k20 ?a21 ?l21 ?c21 ?k21 ?a22 ?l22 ?c22 ?k22 ?a23 ?l23 ?c23 ?k23 ?a24 ?l24 ?c24 ?k24 ?a25 ?l25 ?c25 ?k25 ?a26 ?l26 ?c26 ?k26 ?a27 ?l27 ?c27 ?k27 ?a28 ?l28 ?c28 ?k28 ?a29 ?l29 ?c29 ?k29 ?a30 ?l30 ?c30 ?k30 ?a31 ?l31 ?c31 ?k31 ?z1 ?z2 ?z3 ?z4 ?z5 ?z6 ?z7 ?z8 ?z9 ?z10 ?z11 ?z12 ?g1 ?g2 ?g3 ?g4 ?g5 ?aL ?ma1 ?mi1 ?ml1 ?mc1 ?mk1 ?ma2 ?mi2 ?ml2 ?mc2 ?mk2 ?ma3 ?mi3 ?ml3 ?mc3 ?mk3 ?ma4 ?mi4 ?ml4 ?mc4 ?mk4 ?ma5 ?mi5 ?ml5 ?mc5 ?mk5 ?ma6 ?mi6 ?ml6 ?mc6 ?mk6 ?ma7 ?mi7 ?ml7 ?mc7 ?mk7 ?ma8 ?mi8 ?ml8 ?mc8 ?mk8 ?ma9 ?mi9 ?ml9 ?mc9 ?mk9 ?aCB ?xLB ?saB ?gatB ?ggB ?nbB ?aiB ?tiB ?liB ?ciB ?kCB ?eCB ?tyCB ?hCB ?iCB ?sCB ?aC ?xL ?sa ?gat ?gg ?nb ?nw ?ai ?ti ?li ?ci ?kC ?eC ?tyC ?hC ?iC ?sC ?gO ?lO ?vO ?gG ?lG ?vG ?gS ?pgL ?hdL ?poL ?saL ?mkL ?kcL ?y1 ?y2 ?y3
    (case a1 => k_is)
    (case l1 => k_is)
    (case c1 => k_is)
    (case k1 => k_is)
    (case a2 => k_is)
    (case l2 => k_is)
    (case c2 => k_is)
    (case k2 => k_is)
    (case a3 => k_is)
    (case l3 => k_is)
    (case c3 => k_is)
    (case k3 => k_is)
    (case a4 => k_is)
    (case l4 => k_is)
    (case c4 => k_is)
    (case k4 => k_is)
    (case a5 => k_is)
    (case l5 => k_is)
    (case c5 => k_is)
    (case k5 => k_is)
    (case a6 => k_is)
    (case l6 => k_is)
    (case c6 => k_is)
    (case k6 => k_is)
    (case a7 => k_is)
    (case l7 => k_is)
    (case c7 => k_is)
    (case k7 => k_is)
    (case a8 => k_is)
    (case l8 => k_is)
    (case c8 => k_is)
    (case k8 => k_is)
    (case a9 => k_is)
    (case l9 => k_is)
    (case c9 => k_is)
    (case k9 => k_is)
    (case a10 => k_is)
    (case l10 => k_is)
    (case c10 => k_is)
    (case k10 => k_is)
    (case a11 => k_is)
    (case l11 => k_is)
    (case c11 => k_is)
    (case k11 => k_is)
    (case a12 => k_is)
    (case l12 => k_is)
    (case c12 => k_is)
    (case k12 => k_is)
    (case a13 => k_is)
    (case l13 => k_is)
    (case c13 => k_is)
    (case k13 => k_is)
    (case a14 => k_is)
    (case l14 => k_is)
    (case c14 => k_is)
    (case k14 => k_is)
    (case a15 => k_is)
    (case l15 => k_is)
    (case c15 => k_is)
    (case k15 => k_is)
    (case a16 => k_is)
    (case l16 => k_is)
    (case c16 => k_is)
    (case k16 => k_is)
    (case a17 => k_is)
    (case l17 => k_is)
    (case c17 => k_is)
    (case k17 => k_is)
    (case a18 => k_is)
    (case l18 => k_is)
    (case c18 => k_is)
    (case k18 => k_is)
    (case a19 => k_is)
    (case l19 => k_is)
    (case c19 => k_is)
    (case k19 => k_is)
    (case a20 => k_is)
    (case l20 => k_is)
    (case c20 => k_is)
    (case k20 => k_is)
    (case a21 => k_is)
    (case l21 => k_is)
    (case c21 => k_is)
    (case k21 => k_is)
    (case a22 => k_is)
    (case l22 => k_is)
    (case c22 => k_is)
    (case k22 => k_is)
    (case a23 => k_is)
    (case l23 => k_is)
    (case c23 => k_is)
    (case k23 => k_is)
    (case a24 => k_is)
    (case l24 => k_is)
    (case c24 => k_is)
    (case k24 => k_is)
    (case a25 => k_is)
    (case l25 => k_is)
    (case c25 => k_is)
    (case k25 => k_is)
    (case a26 => k_is)
    (case l26 => k_is)
    (case c26 => k_is)
    (case k26 => k_is)
    (case a27 => k_is)
    (case l27 => k_is)
    (case c27 => k_is)
    (case k27 => k_is)
    (case a28 => k_is)
    (case l28 => k_is)
    (case c28 => k_is)
    (case k28 => k_is)
    (case a29 => k_is)
    (case l29 => k_is)
    (case c29 => k_is)
    (case k29 => k_is)
    (case a30 => k_is)
    (case l30 => k_is)
    (case c30 => k_is)
    (case k30 => k_is)
    (case a31 => k_is)
    (case l31 => k_is)
    (case c31 => k_is)
    (case k31 => k_is)
    (case z1 => k_is)
    (case z2 => k_is)
    (case z3 => k_is)
    (case z4 => k_is)
    (case z5 => k_is)
    (case z6 => k_is)
    (case z7 => k_is)
    (case z8 => k_is)
    (case z9 => k_is)
    (case z10 => k_is)
    (case z11 => k_is)
    (case z12 => k_is)
    (case g1 => k_is)
    (case g2 => k_is)
    (case g3 => k_is)
    (case g4 => k_is)
    (case g5 => k_is)
    (case aL => k_is)
    (case ma1 => k_is)
    (case mi1 => k_is)
    (case ml1 => k_is)
    (case mc1 => k_is)
    (case mk1 => k_is)
    (case ma2 => k_is)
    (case mi2 => k_is)
    (case ml2 => k_is)
    (case mc2 => k_is)
    (case mk2 => k_is)
    (case ma3 => k_is)
    (case mi3 => k_is)
    (case ml3 => k_is)
    (case mc3 => k_is)
    (case mk3 => k_is)
    (case ma4 => k_is)
    (case mi4 => k_is)
    (case ml4 => k_is)
    (case mc4 => k_is)
    (case mk4 => k_is)
    (case ma5 => k_is)
    (case mi5 => k_is)
    (case ml5 => k_is)
    (case mc5 => k_is)
    (case mk5 => k_is)
    (case ma6 => k_is)
    (case mi6 => k_is)
    (case ml6 => k_is)
    (case mc6 => k_is)
    (case mk6 => k_is)
    (case ma7 => k_is)
    (case mi7 => k_is)
    (case ml7 => k_is)
    (case mc7 => k_is)
    (case mk7 => k_is)
    (case ma8 => k_is)
    (case mi8 => k_is)
    (case ml8 => k_is)
    (case mc8 => k_is)
    (case mk8 => k_is)
    (case ma9 => k_is)
    (case mi9 => k_is)
    (case ml9 => k_is)
    (case mc9 => k_is)
    (case mk9 => k_is)
    (case aCB => k_is)
    (case xLB => k_is)
    (case saB => k_is)
    (case gatB => k_is)
    (case ggB => k_is)
    (case nbB => k_is)
    (case aiB => k_is)
    (case tiB => k_is)
    (case liB => k_is)
    (case ciB => k_is)
    (case kCB => k_is)
    (case eCB => k_is)
    (case tyCB => k_is)
    (case hCB => k_is)
    (case iCB => k_is)
    (case aC => k_is)
    (case xL => k_is)
    (case sa => k_is)
    (case gat => k_is)
    (case gg => k_is)
    (case nb => k_is)
    (case nw => k_is)
    (case ai => k_is)
    (case ti => k_is)
    (case li => k_is)
    (case ci => k_is)
    (case kC => k_is)
    (case eC => k_is)
    (case tyC => k_is)
    (case hC => k_is)
    (case iC => k_is)
    (case gO => k_is)
    (case lO => k_is)
    (case gG => k_is)
    (case lG => k_is)
    (case gS => k_is)
    (case pgL => k_is)
    (case hdL => k_is)
    (case poL => k_is)
    (case saL => k_is)
    (case mkL => k_is)
    (case kcL => k_is)
    (case y1 => k_is)
    (case y2 => k_is)
    (case y3 => k_is)
    (case sC => first | rfl | k_is)
    (case sCB => first | rfl | k_is)
    (case vO => repeat (first | exact .nil | refine .cons ⟨_, rfl⟩ ?_))
    (case vG => repeat (first | exact .nil | refine .cons ⟨_, rfl⟩ ?_))
#print axioms PySem.Challenge.cw_countedonce_k35_tables_as_texts_holds

