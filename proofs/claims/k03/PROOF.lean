import PyProof.Rows.All
import Wide.All
import OpenK.AllK
import Wide.FinOn
import HandS.Base
import HandS.Call
import HandS.List
import HandS.Comp
import HandS.Ends
import HandS.Words
import HandS.WordsList
import HandS.Wide
import HandS.TupAny
import HandS.Style
import HandS.ForSpec
import KE.KExcInit
import HandS.ExcInit
import HandS.TryElse
import HandS.Text
import HandS.Walk
import KE.Datum
import HandS.Exc
import HandS.More
import HandS.IsInst
import HandS.StrMore
import HandS.Codes
import HandS.Small
import HandS.HeadHook3
import HandS.Dict
import HandS.Set
import HandS.Strs
import HandS.TupSets
import HandS.Deep
import KE.KDictPairs
import PySem.Challenge.RW_countedonce_k03_whole_read
set_option Elab.async false
set_option linter.all false
set_option maxRecDepth 100000
set_option maxHeartbeats 4000000
namespace Kx
open PySem PySem.Spec PyProof.Rows L2
def topS (i : Nat) : Stmt := PySem.Challenge.pw_countedonce_k03_whole_read.main.body.getD i (.Pass ⟨0, 0, 0, 0⟩)
abbrev sCell : Stmt := topS 58
abbrev sDraw : Stmt := topS 59
abbrev sNumb : Stmt := topS 60
abbrev sNext : Stmt := topS 61
abbrev sPick : Stmt := topS 62
section
variable {P : Program} {w : World} {K : PySem.W.Frag} {mg : Str → Option Value} {base : Heap}
/-- a def of the top that keeps a promise, and may be called by its name -/
structure Ready (P : Program) (w : World) (K : PySem.W.Frag) (mg : Str → Option Value) (base : Heap) (k : Nat) (x : Str) (ps : List Str) (sp : Sp) : Prop where
  ex : ∃ f fd, FnOk P w K mg base CX0 k f fd ps sp ∧ Binds K fd ps [] ∧ mg x = some (.ref f) ∧ PySem.W.keepIn K (.ref f) = true
end
theorem pe_fn {X : Cx} {k : Nat} {x : Str} {ps : List Str} {sp : Sp} {p pos : Pos} {e : Expr} {es : List Expr} {t : TA} (G : Ready X.prog X.w X.K X.mg X.base k x ps sp) (hr : Room k X.A) (ha : PA X (e :: es) t) (hg : Gl X x := by rfl)
    (hdb : (x == ("__debug__" : Str)) = false := by decide) (he : starEach (e :: es) X.env = (false, eval e X.env) :: starEach es X.env := by rfl) (hpl : (backTo pos (starEach es X.env)).any (·.1) = false := by rfl) :
    PE X (.Call (.Name x p) (e :: es) [] pos) (tCall sp [] E0 t) := by
  obtain ⟨f, fd, h, hb, hm, hk⟩ := G.ex
  exact pe_call h hr hg hm hk hb .nil pass0 ha hdb he hpl
/-- all that was tracked is as it was, but what stands at d -/
def But (d : Addr) (H H' : Hp) : Prop := ∀ b o, b ≠ d → H b = some o → H' b = some o
theorem But.refl (d : Addr) (H : Hp) : But d H H := fun _ _ _ h => h
theorem But.trans {d : Addr} {H H1 H2 : Hp} (a : But d H H1) (b : But d H1 H2) : But d H H2 := fun c o n h => b c o n (a c o n h)
theorem same_but {d : Addr} {H H' : Hp} (a : Same H H') : But d H H' := fun c o _ h => a c o h
theorem same_upd {H : Hp} {p : Addr} {o : HO} (h : H p = none) : Same H (upd H p o) := fun b x e => by
  rw [upd_ne (ne_of_none e h)]
  exact e
section
variable {P : Program} {w : World} {K : PySem.W.Frag} {mg : Str → Option Value} {base : Heap}
/-! ### the law's draws -/
def spCell (K : PySem.W.Frag) : Sp := fun vs H Q _ => ∃ (a : Addr) (ns : List Int) (k : Int), vs = [.ref a, .int k] ∧ SqL K H a (ns.map V.int) ∧ 0 ≤ k ∧ ∀ c : Int, Q (.int c) H
theorem sc_cell : FnScope ["script", "k"] ["script", "k"] (defScope sCell) := ⟨rfl, rfl, rfl, by decide +kernel, rfl, by decide +kernel, by decide +kernel⟩
theorem ok_cell {f : Addr} {fd : FuncData} (F : Fun K "_law_cell_at" "_law_cell_at" sCell f fd) (m_len : mg "len" = none) : FnOk P w K mg base CX0 1 f fd ["script", "k"] (spCell K) := by
  refine F.ok sc_cell (fun vs H Q E h => ?_) (fun cdv A outer s H vs Q E hr h => ?_)
  · obtain ⟨a, ns, k, rfl, _⟩ := h
    rfl
  obtain ⟨a, ns, k, rfl, hS, h0, q⟩ := h
  refine ⟨_, pss_cons (ps_if (pt_cmpR op_lt (pv 1) (pe_callB call_len_seq (by rfl) m_len PySem.boot_len (pa_cons (pv 0) pa_nil)) (nomark _)) (pss_one (ps_ret (pe_ix ix_list (pv 0) (pv 1) (fun _ _ => rfl)))) (pss_nil))
      (pss_one (ps_ret pe_int)), ?_⟩
  refine ⟨_, rfl, _, rfl, a, _, rfl, .inl hS, _, _, rfl, rfl, _, rfl, ?_⟩
  refine ite2 (fun c => ?_) (fun c => q 0)
  have c' : k < ((ns.map V.int).length : Int) := of_decide_eq_true c
  have ek : k = ((k.toNat : Nat) : Int) := by omega
  have hk : k.toNat < ns.length := by rw [List.length_map] at c'; omega
  have ha : atI (ns.map V.int) ((k.toNat : Nat) : Int) = some (.int ns[k.toNat]) := atI_nat (by rw [List.getElem?_map, List.getElem?_eq_getElem hk] <;> rfl)
  rw [← ek] at ha
  exact ⟨_, rfl, _, rfl, a, _, _, _, rfl, rfl, hS, ha, q _⟩
def spDraw : Sp := fun vs H Q _ => ∃ (c k b : Int), vs = [.int c, .int k, .int b] ∧ 0 < b ∧ ∀ (r : Int) (H' : Hp), 0 ≤ r → r < b → Same H H' → Q (.int r) H'
theorem sc_draw : FnScope ["cell", "k", "bound", "primes"] ["cell", "k", "bound"] (defScope sDraw) := ⟨rfl, rfl, rfl, by decide +kernel, rfl, by decide +kernel, by decide +kernel⟩
def primesL : List Int := [1000003, 1000033, 1000037, 1000039, 1000081, 1000099, 1000117, 1000121, 1000133, 1000151, 1000159, 1000171, 1000183, 1000187, 1000193, 1000199]
theorem primes_at {i : Int} (h0 : 0 ≤ i) (h : i < 16) : ∃ p : Int, 0 < p ∧ atI (primesL.map V.int) i = some (.int p) := by
  have ei : i = ((i.toNat : Nat) : Int) := by omega
  have hk : i.toNat < primesL.length := by show i.toNat < 16; omega
  refine ⟨primesL[i.toNat], ?_, ?_⟩
  · have : ∀ x ∈ primesL, (0 : Int) < x := by decide
    exact this _ (List.getElem_mem hk)
  · have q : atI (primesL.map V.int) ((i.toNat : Nat) : Int) = some (.int primesL[i.toNat]) := atI_nat (by rw [List.getElem?_map, List.getElem?_eq_getElem hk] <;> rfl)
    rw [← ei] at q
    exact q
theorem ok_draw {f : Addr} {fd : FuncData} (F : Fun K "_law_draw" "_law_draw" sDraw f fd) (m_int : mg "int" = none) : FnOk P w K mg base CX0 1 f fd ["cell", "k", "bound"] spDraw := by
  refine F.ok sc_draw (fun vs H Q E h => ?_) (fun cdv A outer s H vs Q E hr h => ?_)
  · obtain ⟨c, k, b, rfl, _⟩ := h
    rfl
  obtain ⟨c, k, b, rfl, hb, q⟩ := h
  have nd := sc_draw.nd
  refine ⟨_, pss_cons (ps_set (i := 3) nd rfl (.inl rfl) (pe_tup (pa_cons pe_int (pa_cons pe_int (pa_cons pe_int (pa_cons pe_int (pa_cons pe_int (pa_cons pe_int (pa_cons pe_int (pa_cons pe_int (pa_cons pe_int (pa_cons pe_int (pa_cons pe_int (pa_cons pe_int (pa_cons pe_int (pa_cons pe_int (pa_cons pe_int (pa_cons pe_int pa_nil))))))))))))))))))
      (pss_one (ps_ret (pe_op op_mod (pe_op op_mod (pe_callTy call_int1 (by rfl) m_int boot_int (pa_cons (pe_op op_add (pe_op op_mul (pv 0) pe_int) (pe_op op_mul (pv 1) pe_int)) pa_nil)) (pe_ix ix_tup (pv 3) (pe_op op_mod (pe_callTy call_int1 (by rfl) m_int boot_int (pa_cons (pv 1) pa_nil)) pe_int) (fun _ _ => rfl))) (pv 2)))), ?_⟩
  refine ⟨by show 16 ≤ sizeLine; decide, fun t ht => ?_⟩
  obtain ⟨p, hp, hat⟩ := primes_at (i := k % 16) (by omega) (by omega)
  refine ⟨_, rfl, _, _, rfl, rfl, .inr (by show _ ∧ _; decide), _, rfl, _, _, rfl, rfl, .inr (by show _ ∧ _; decide), _, _, rfl, rfl, .inl ⟨_, rfl, ?_⟩⟩
  refine ⟨_, rfl, _, rfl, .inl ⟨_, rfl, _, _, rfl, rfl, (by show (0 : Int) < 16; decide), ?_⟩⟩
  refine ⟨t, primesL.map V.int, _, _, rfl, rfl, SqT.of upd_same, hat, _, _, rfl, rfl, hp, _, rfl, _, _, rfl, rfl, hb, ?_⟩
  exact q _ _ (Int.emod_nonneg _ (by omega)) (Int.emod_lt_of_pos _ hb) (same_upd ht)
end
end Kx

namespace Kx
open PySem PySem.Spec PyProof.Rows L2
section
variable {P : Program} {w : World} {K : PySem.W.Frag} {mg : Str → Option Value} {base : Heap}
theorem pow_lt : ∀ i : Nat, i < 24 → (1009 ^ i : Nat) < 2 ^ 240 := by decide +kernel
theorem sc_numb : FnScope ["cell", "k", "bound", "power", "lap", "remains", "small"] ["cell", "k", "bound"] (defScope sNumb) := ⟨rfl, rfl, rfl, by decide +kernel, rfl, by decide +kernel, by decide +kernel⟩
def spNumb : Sp := fun vs H Q _ => ∃ (c k b : Int), vs = [.int c, .int k, .int b] ∧ 0 ≤ k ∧ k ≤ 100 ∧ 0 < b ∧ ∀ (r : Int) (H' : Hp), 0 ≤ r → r < b → Same H H' → Q (.int r) H'
theorem ok_numb {f : Addr} {fd : FuncData} (F : Fun K "_law_number" "_law_number" sNumb f fd) (m_int : mg "int" = none) (m_range : mg "range" = none) (G_law_draw : Ready P w K mg base 1 "_law_draw" ["cell", "k", "bound"] spDraw) :
    FnOk P w K mg base CX0 2 f fd ["cell", "k", "bound"] spNumb := by
  refine F.ok sc_numb (fun vs H Q E h => ?_) (fun cdv A outer s H vs Q E hr h => ?_)
  · obtain ⟨c, k, b, rfl, _⟩ := h
    rfl
  obtain ⟨c, k, b, rfl, k0, k1, hb, q⟩ := h
  have nd := sc_numb.nd
  refine ⟨_, pss_cons (ps_set (i := 3) nd rfl (.inl rfl) pe_int)
      (pss_cons (ps_for PassesOwn.never rfl (pi_range1 rfl m_range (pa_cons (pe_op op_mod (pe_callTy call_int1 (by rfl) m_int boot_int (pa_cons (pv 1) pa_nil)) pe_int) pa_nil)) (pg_name (i := 4) nd rfl (.inl rfl)) (pss_one (ps_set (i := 3) nd rfl (.inl rfl) (pe_op op_mul (pv 3) pe_int))))
      (pss_cons (ps_set (i := 5) nd rfl (.inl rfl) (pe_op op_fdivW (pe_op op_sub (pv 0) (pe_op op_pow pe_int pe_int)) (pv 3)))
      (pss_cons (ps_if (pt_cmpR op_gt (pv 5) pe_int (nomark _)) (pss_one (ps_ret (pe_op op_mod (pe_op op_mod (pe_callTy call_int1 (by rfl) m_int boot_int (pa_cons (pv 5) pa_nil)) pe_int) (pv 2)))) (pss_nil))
      (pss_cons (ps_set (i := 6) nd rfl (.inl rfl) (pe_op op_mod (pe_callTy call_int1 (by rfl) m_int boot_int (pa_cons (pv 0) pa_nil)) pe_int))
      (pss_one (ps_ret (pe_op op_mod (pe_fn (G_law_draw) (hr.mono (by decide)) (pa_cons (pe_op op_mul (pe_op op_add (pv 6) (pe_op op_mul pe_int (pv 1))) (pe_op op_add (pe_op op_add (pv 6) (pe_op op_mul pe_int (pv 1))) pe_int)) (pa_cons (pe_op op_add (pe_op op_mod (pe_callTy call_int1 (by rfl) m_int boot_int (pa_cons (pv 1) pa_nil)) pe_int) pe_int) (pa_cons pe_int pa_nil)))) (pv 2)))))))), ?_⟩
  refine ⟨_, rfl, .inl ⟨_, rfl, _, _, rfl, rfl, (by show (0 : Int) < 24; decide), _, rfl, by omega, by omega, ?_⟩⟩
  have m0 : 0 ≤ k % 24 := Int.emod_nonneg _ (by omega)
  have m1 : k % 24 < 24 := Int.emod_lt_of_pos _ (by omega)
  refine for_range (fun i σ H' => ∃ y4, σ = [some (.int c), some (.int k), some (.int b), some (.int ((1009 ^ i : Nat) : Int)), y4, none, none] ∧ H' = H) ⟨none, rfl, rfl⟩ ?_ ?_
  · rintro i σ H' hi ⟨y4, rfl, rfl⟩
    refine ⟨_, rfl, _, _, rfl, rfl, .inr (by show _ ∧ _; decide), ?_⟩
    refine ⟨some (.int (0 + (i : Nat))), ?_, rfl⟩
    rw [Nat.pow_succ, Int.natCast_mul]
    rfl
  · rintro σ H' ⟨y4, rfl, rfl⟩
    have hj : (k % 24).toNat < 24 := by omega
    have hp := pow_lt _ hj
    have hp0 : 0 < (1009 ^ (k % 24).toNat : Nat) := Nat.pow_pos (by decide)
    generalize (1009 ^ (k % 24).toNat : Nat) = pw at hp hp0
    refine ⟨_, rfl, _, _, rfl, rfl, (by show _ ∧ _ ∧ _; decide), _, _, rfl, rfl, _, rfl, _, _, rfl, rfl, wide_div (b := 240) (by omega) (by omega) (by decide) (by decide), ?_⟩
    refine ⟨_, rfl, _, _, rfl, rfl, _, rfl, ?_⟩
    refine ite2 (fun _ => ?_) (fun _ => ?_)
    · refine ⟨_, rfl, .inl ⟨_, rfl, _, _, rfl, rfl, (by show (0 : Int) < 1009; decide), _, rfl, _, _, rfl, rfl, hb, ?_⟩⟩
      exact q _ _ (Int.emod_nonneg _ (by omega)) (Int.emod_lt_of_pos _ hb) (Same.refl _)
    · refine ⟨_, rfl, .inl ⟨_, rfl, _, _, rfl, rfl, (by show (0 : Int) < 1000003; decide), ?_⟩⟩
      have s0 : 0 ≤ c % 1000003 := Int.emod_nonneg _ (by omega)
      have s1 : c % 1000003 < 1000003 := Int.emod_lt_of_pos _ (by omega)
      refine ⟨_, rfl, _, rfl, _, _, rfl, rfl, .inl (by show _ ∧ _; decide), _, _, rfl, rfl, ?_⟩
      refine ⟨_, rfl, _, rfl, _, _, rfl, rfl, .inl (by show _ ∧ _; decide), _, _, rfl, rfl, _, _, rfl, rfl, _, _, rfl, rfl, .inl (by show _ ∧ _; omega), ?_⟩
      refine ⟨_, rfl, .inl ⟨_, rfl, _, _, rfl, rfl, (by show (0 : Int) < 9; decide), _, _, rfl, rfl, _, _, _, rfl, by decide, fun r H2 r0 r1 sm => ?_⟩⟩
      refine ⟨_, rfl, _, _, rfl, rfl, hb, ?_⟩
      exact q _ _ (Int.emod_nonneg _ (by omega)) (Int.emod_lt_of_pos _ hb) sm
/-- the three things of a draw: the script's first cells, where it begins, how many were drawn -/
structure DrawAt (H : Hp) (d s : Addr) (ns : List Int) (n : Int) : Prop where
  at_d : H d = some (.lst [.ref s, .int 0, .int n])
  at_s : H s = some (.lst (ns.map V.int))
  n0 : 0 ≤ n
theorem DrawAt.ne {H : Hp} {d s : Addr} {ns : List Int} {n : Int} (D : DrawAt H d s ns n) : s ≠ d := fun e => by
  have a := D.at_s
  rw [e, D.at_d] at a
  cases ns with
  | nil => cases a
  | cons x r => cases a
theorem DrawAt.keep {H H' : Hp} {d s : Addr} {ns : List Int} {n : Int} (D : DrawAt H d s ns n) (h : Same H H') : DrawAt H' d s ns n := ⟨h _ _ D.at_d, h _ _ D.at_s, D.n0⟩
def spNext : Sp := fun vs H Q _ => ∃ (d s : Addr) (ns : List Int) (n b : Int), vs = [.ref d, .int b] ∧ DrawAt H d s ns n ∧ 0 < b ∧ ∀ (r : Int) (H' : Hp), 0 ≤ r → r < b → But d H H' → DrawAt H' d s ns (n + 1) → Q (.int r) H'
theorem sc_next : FnScope ["draw", "bound", "at", "cell"] ["draw", "bound"] (defScope sNext) := ⟨rfl, rfl, rfl, by decide +kernel, rfl, by decide +kernel, by decide +kernel⟩
theorem ok_next {f : Addr} {fd : FuncData} (F : Fun K "_law_next" "_law_next" sNext f fd) (m_int : mg "int" = none) (G_law_cell_at : Ready P w K mg base 1 "_law_cell_at" ["script", "k"] (spCell K)) (G_law_number : Ready P w K mg base 2 "_law_number" ["cell", "k", "bound"] spNumb) :
    FnOk P w K mg base CX0 3 f fd ["draw", "bound"] spNext := by
  refine F.ok sc_next (fun vs H Q E h => ?_) (fun cdv A outer s H vs Q E hr h => ?_)
  · obtain ⟨d, s, ns, n, b, rfl, _⟩ := h
    rfl
  obtain ⟨d, s, ns, n, b, rfl, D, hb, q⟩ := h
  have nd := sc_next.nd
  refine ⟨_, pss_cons (ps_asg (pe_op op_add (pe_ix ix_list (pv 0) pe_int (fun _ _ => rfl)) pe_int) (pg_sub (pv 0) pe_int set_list))
      (pss_cons (ps_set (i := 2) nd rfl (.inl rfl) (pe_op op_fdiv (pe_ix ix_list (pv 0) pe_int (fun _ _ => rfl)) pe_int))
      (pss_cons (ps_set (i := 3) nd rfl (.inl rfl) (pe_op op_add (pe_fn (G_law_cell_at) (hr.mono (by decide)) (pa_cons (pe_ix ix_list (pv 0) pe_int (fun _ _ => rfl)) (pa_cons (pe_op op_add (pe_ix ix_list (pv 0) pe_int (fun _ _ => rfl)) (pv 2)) pa_nil))) (pe_op op_mul pe_int (pv 2))))
      (pss_one (ps_ret (pe_fn (G_law_number) (hr.mono (by decide)) (pa_cons (pv 3) (pa_cons (pe_op op_add (pe_op op_mod (pe_callTy call_int1 (by rfl) m_int boot_int (pa_cons (pe_ix ix_list (pv 0) pe_int (fun _ _ => rfl)) pa_nil)) pe_int) pe_int) (pa_cons (pv 1) pa_nil)))))))), ?_⟩
  refine ⟨_, rfl, d, _, 2, _, rfl, rfl, SqL.of D.at_d, rfl, _, _, rfl, rfl, _, rfl, d, _, _, _, rfl, rfl, D.at_d, rfl, ?_⟩
  have D1 : DrawAt (upd H d (.lst [.ref s, .int 0, .int (n + 1)])) d s ns (n + 1) := ⟨upd_same, by rw [upd_ne D.ne]; exact D.at_s, by have := D.n0; omega⟩
  have b1 : But d H (upd H d (.lst [.ref s, .int 0, .int (n + 1)])) := fun c o hc e => by rw [upd_ne hc]; exact e
  have n0 := D1.n0
  refine ⟨_, rfl, d, _, 2, _, rfl, rfl, SqL.of D1.at_d, rfl, _, _, rfl, rfl, (by show _ ∧ _; decide), ?_⟩
  refine ⟨_, rfl, d, _, 0, _, rfl, rfl, SqL.of D1.at_d, rfl, _, rfl, d, _, 1, _, rfl, rfl, SqL.of D1.at_d, rfl, _, rfl, _, _, rfl, rfl, s, ns, _, rfl, SqL.of D1.at_s, by omega, fun c => ?_⟩
  refine ⟨_, rfl, _, _, rfl, rfl, .inl (by show _ ∧ _; decide), _, _, rfl, rfl, ?_⟩
  refine ⟨_, rfl, _, rfl, d, _, 2, _, rfl, rfl, SqL.of D1.at_d, rfl, .inl ⟨_, rfl, _, _, rfl, rfl, (by show (0 : Int) < 12; decide), _, _, rfl, rfl, _, rfl, ?_⟩⟩
  refine ⟨_, _, _, rfl, by omega, by omega, hb, fun r H' r0 r1 sm => ?_⟩
  exact q r H' r0 r1 (b1.trans (same_but sm)) (D1.keep sm)
/-- a list or a tuple of values -/
def Seq (K : PySem.W.Frag) (H : Hp) (a : Addr) (xs : List V) : Prop := SqL K H a xs ∨ SqT K H a xs
theorem nth {xs : List V} {r : Int} (h0 : 0 ≤ r) (h1 : r < (xs.length : Int)) : ∃ v, v ∈ xs ∧ atI xs r = some v := by
  have er : r = ((r.toNat : Nat) : Int) := by omega
  have hk : r.toNat < xs.length := by omega
  have q : atI xs ((r.toNat : Nat) : Int) = some xs[r.toNat] := atI_nat (List.getElem?_eq_getElem hk)
  rw [← er] at q
  exact ⟨_, List.getElem_mem hk, q⟩
theorem But.sqT {H H' : Hp} {d a : Addr} {xs : List V} (h : But d H H') (hd : ∃ l, H d = some (.lst l)) (q : SqT K H a xs) : SqT K H' a xs := by
  rcases q with (q | ⟨o, q⟩) | q
  · refine .inl (.inl (h _ _ (fun e => ?_) q))
    obtain ⟨l, hl⟩ := hd
    rw [e, hl] at q
    cases q
  · refine .inl (.inr ⟨o, h _ _ (fun e => ?_) q⟩)
    obtain ⟨l, hl⟩ := hd
    rw [e, hl] at q
    cases q
  · exact .inr q
def spPick (K : PySem.W.Frag) : Sp := fun vs H Q _ => ∃ (d s t : Addr) (ns : List Int) (n : Int) (xs : List V), vs = [.ref d, .ref t] ∧ DrawAt H d s ns n ∧ t ≠ d ∧ Seq K H t xs ∧ xs ≠ [] ∧ ∀ (v : V) (H' : Hp), v ∈ xs → But d H H' → DrawAt H' d s ns (n + 1) → Q v H'
theorem sc_pick : FnScope ["draw", "things"] ["draw", "things"] (defScope sPick) := ⟨rfl, rfl, rfl, by decide +kernel, rfl, by decide +kernel, by decide +kernel⟩
theorem But.seq {H H' : Hp} {d a : Addr} {xs : List V} (h : But d H H') (hd : a ≠ d) (q : Seq K H a xs) : Seq K H' a xs := by
  rcases q with ((q | ⟨o, q⟩) | q) | ((q | ⟨o, q⟩) | q)
  · exact .inl (.inl (.inl (h _ _ hd q)))
  · exact .inl (.inl (.inr ⟨o, h _ _ hd q⟩))
  · exact .inl (.inr q)
  · exact .inr (.inl (.inl (h _ _ hd q)))
  · exact .inr (.inl (.inr ⟨o, h _ _ hd q⟩))
  · exact .inr (.inr q)
theorem ok_pick {f : Addr} {fd : FuncData} (F : Fun K "_law_pick" "_law_pick" sPick f fd) (m_len : mg "len" = none) (G_law_next : Ready P w K mg base 3 "_law_next" ["draw", "bound"] spNext) :
    FnOk P w K mg base CX0 4 f fd ["draw", "things"] (spPick K) := by
  refine F.ok sc_pick (fun vs H Q E h => ?_) (fun cdv A outer s H vs Q E hr h => ?_)
  · obtain ⟨d, s, t, ns, n, xs, rfl, _⟩ := h
    rfl
  obtain ⟨d, s, t, ns, n, xs, rfl, D, td, hS, hne, q⟩ := h
  have nd := sc_pick.nd
  refine ⟨_, pss_one (ps_ret (pe_ix ix_seq (pv 1) (pe_fn (G_law_next) (hr.mono (by decide)) (pa_cons (pv 0) (pa_cons (pe_callB call_len_seq (by rfl) m_len PySem.boot_len (pa_cons (pv 1) pa_nil)) pa_nil))) (fun _ _ => rfl))), ?_⟩
  have hl : 0 < (xs.length : Int) := by
    have := List.length_pos_iff.mpr hne
    omega
  refine ⟨_, rfl, _, rfl, _, rfl, t, xs, rfl, hS, d, s, ns, n, _, rfl, D, hl, fun r H' r0 r1 bt D' => ?_⟩
  obtain ⟨v, hv, hat⟩ := nth r0 r1
  rcases bt.seq td hS with hL | hT
  · exact .inl ⟨t, xs, _, _, rfl, rfl, hL, hat, q _ _ hv bt D'⟩
  · exact .inr (.inl ⟨t, xs, _, _, rfl, rfl, hT, hat, q _ _ hv bt D'⟩)
end
end Kx

namespace PySem
namespace BadY
open PySem.W PySem.Calls PyProof.Rows PySem.HandSPX
/-! ### self.thing = v on an exception that has no dict yet -/
abbrev exT : List Value := [.type "Exception", .type "BaseException", .type "object"]
section
open Builtin Builtin.ObjectAttr
variable {prog : Program} {w : World} {A : Around} {R : Result → Shared → Prop} {hp : Heap} {g : Array GenState} {d : Drawn} {t : Nat} {os : OsState}
theorem osa_first {K : Frag} {name : Str} {tk : Tok} {v : Value} {x C : Addr} {fv : Array Value} {cd : ClassData} {bm : List Value}
    (X : K.In hp) (ho : hp.get? x = some { cls := .ref C, data := .fields fv }) (hc : clsIn K C = some cd) (ht : excTail exT bm = true) (hm : cd.mro = .ref C :: bm) (hh : cd.hasDict = true) (hn : findIn K (.ref C) name = some none)
    (q : ∀ h' tk' dx, (∀ b o, b ≠ x → hp.get? b = some o → h'.get? b = some o) → hp.objs.size ≤ dx → dx ≠ x → h'.get? x = some { cls := .ref C, dict := some dx, data := .fields fv } → h'.Ns1 dx (fun y => if y = name then some v else none) → R (.ok (.ret .none)) ⟨h', g, d, tk', os⟩) :
    codeAny (model prog w) A (.call (.builtin "object.__setattr__") ⟨[.ref x, .str name tk, v], []⟩) R ⟨hp, g, d, t, os⟩ := by
  have over : excOver K C exT = true := by
    unfold excOver
    rw [hc]
    show (match cd.mro with | .ref C' :: bm => C' == C && excTail exT bm | _ => false) = true
    rw [hm]
    show (C == C && excTail exT bm) = true
    rw [ht, beq_self_eq_true] <;> rfl
  have free : takerIn K C name = some none := by
    unfold takerIn
    rw [hn] <;> rfl
  have apart : hp.objs.size ≠ x := fun z => absurd (Heap.lt_size ho) (by rw [z]; exact Nat.lt_irrefl _)
  refine osa_openX (s := ⟨hp, g, d, t, os⟩) F.store_Exception X (ox := { cls := .ref C, data := .fields fv }) (od := none) ⟨ho, rfl, rfl, trivial⟩ over free fun b => ?_
  have look : Looks (model prog w) hp (classData C) cd := looks_clsIn X hc
  obtain ⟨c1, c2, c3, c4, c5, c6, c7, c8, c9, c10, c11⟩ := cd
  dsimp only at hh
  subst hh
  show wpAny _ _ (storeInOwnDict (.ref x) (.ref C) (.str name tk) name v b) _ _ _
  unfold storeInOwnDict ownDictForStores
  repeat (first | with_reducible refine look.at ?_ | with_reducible refine wpAny_loadPart_at ho ?_ | with_reducible refine store_in_new ?_ ?_ | wp_step)
  · exact ⟨_, #[], _, (Heap.get?_update_ne _ _ _ _ apart).trans (Heap.get?_push_at rfl rfl), rfl, (by intro e he; simp at he), (fun _ => rfl)⟩
  intro h2 tk2 n2 sb
  have mid : (hp.push { cls := .type "dict", data := .dict #[] }).get? x = some { cls := .ref C, data := .fields fv } := Heap.get?_push_of_some _ ho
  refine q h2 tk2 _ (fun c o hc e => ?_) (Nat.le_refl _) apart ((sb.2 x apart.symm).trans (Heap.get?_update_self _ mid rfl)) n2
  have far : c ≠ hp.objs.size := fun z => absurd (Heap.lt_size e) (by rw [z]; exact Nat.lt_irrefl _)
  rw [sb.2 c far, Heap.get?_update_ne _ _ _ _ hc]
  exact Heap.get?_push_of_some _ e
theorem osa_second {K : Frag} {name : Str} {tk : Tok} {v : Value} {x C dx : Addr} {fv : Array Value} {cd : ClassData} {bm : List Value} {m0 : Str → Option Value} {nl : List Str}
    (X : K.In hp) (ho : hp.get? x = some { cls := .ref C, dict := some dx, data := .fields fv }) (hns : hp.Ns1 dx m0) (hw : Within m0 nl) (hz : nl.length ≤ 1000) (hc : clsIn K C = some cd) (ht : excTail exT bm = true) (hm : cd.mro = .ref C :: bm) (hh : cd.hasDict = true) (hn : findIn K (.ref C) name = some none)
    (q : ∀ h' tk', (∀ b o, b ≠ dx → hp.get? b = some o → h'.get? b = some o) → h'.Ns1 dx (fun y => if y = name then some v else m0 y) → R (.ok (.ret .none)) ⟨h', g, d, tk', os⟩) :
    codeAny (model prog w) A (.call (.builtin "object.__setattr__") ⟨[.ref x, .str name tk, v], []⟩) R ⟨hp, g, d, t, os⟩ := by
  have over : excOver K C exT = true := by
    unfold excOver
    rw [hc]
    show (match cd.mro with | .ref C' :: bm => C' == C && excTail exT bm | _ => false) = true
    rw [hm]
    show (C == C && excTail exT bm) = true
    rw [ht, beq_self_eq_true] <;> rfl
  have free : takerIn K C name = some none := by
    unfold takerIn
    rw [hn] <;> rfl
  obtain ⟨oD, esD, epD, hoD, hdD, _⟩ := hns.count hw
  refine osa_openX (s := ⟨hp, g, d, t, os⟩) F.store_Exception X (ox := { cls := .ref C, dict := some dx, data := .fields fv }) (od := some oD) ⟨ho, rfl, rfl, hoD⟩ over free fun b => ?_
  have look : Looks (model prog w) hp (classData C) cd := looks_clsIn X hc
  obtain ⟨c1, c2, c3, c4, c5, c6, c7, c8, c9, c10, c11⟩ := cd
  dsimp only at hh
  subst hh
  show wpAny _ _ (storeInOwnDict (.ref x) (.ref C) (.str name tk) name v b) _ _ _
  unfold storeInOwnDict ownDictForStores
  repeat (first | with_reducible refine OEX.store_in_old hns hw hz ?_ | with_reducible refine wpAny_loadPart_at ho ?_ | with_reducible refine look.at ?_ | wp_step)
  intro h2 tk2 n2 sb
  exact q h2 tk2 (fun b o hb e => (sb.2 b hb).trans e) n2
end
/-! ### the text of __init__ -/
def iA (p1 p2 p3 : Pos) : Arguments := { posonlyargs := [], args := [{ arg := "self", annotation := none, pos := p1 }, { arg := "line", annotation := none, pos := p2 }, { arg := "column", annotation := none, pos := p3 }], vararg := none, kwonlyargs := [], kw_defaults := [], kwarg := none, defaults := [] }
def iB (q1 q2 q3 q4 q5 q6 q7 q8 : Pos) : List Stmt := [.Assign [.Attribute (.Name "self" q1) "line" q2] (.Name "line" q3) q4, .Assign [.Attribute (.Name "self" q5) "column" q6] (.Name "column" q7) q8]
def iS : Scope := { kind := .function, names := [(PySem.Str.ofString "self", .local), (PySem.Str.ofString "line", .local), (PySem.Str.ofString "column", .local)], isGenerator := false, isCoroutine := false, more := [] }
/-- what the written part says of BadThing, at C, and of its __init__, at fI -/
structure BadTxt (K : Frag) (mg : Str → Option Value) (C fI : Addr) : Prop where
  gC : mg "BadText" = some (.ref C)
  cls : ∃ nm q N bs bm sn sub ab col dd k0 k1 k2 k3 k5, K.lookup C = some (excClassObj nm q C N bs bm true sn sub ab col dd k0 k1 k2 k3 k5 "Exception.__new__") ∧ excTail exT bm = true
  sa : findIn K (.ref C) "__setattr__" = some (some (.builtin "object.__setattr__"))
  ga : findIn K (.ref C) "__getattribute__" = some (some (.builtin "BaseException.__getattribute__"))
  gg : findIn K (.ref C) "__getattr__" = some none
  noN : findIn K (.ref C) "line" = some none
  noW : findIn K (.ref C) "column" = some none
  iC : findIn K (.ref C) "__init__" = some (some (.ref fI))
  tC : typeIn K (.ref fI) = some (.type "function")
  kC : keepIn K (.ref C) = true
  exC : subIn K (.ref C) (.type "BaseException") = some true
  tyC : typeIn K (.ref C) = some (.type "type")
  hdC : hasDictIn K C = true
  te : exmOne K (.ref C) (.ref C) = some true
  fn : ∃ (oc : Value) (od : Option Addr) (doc pm : Value) (an : Option Addr) (cdv ct : Value) (osl : Array (Option Value)) (p1 p2 p3 q1 q2 q3 q4 q5 q6 q7 q8 : Pos),
    K.lookup fI = some ⟨oc, od, .func (fnOf "__init__" "BadText.__init__" (iA p1 p2 p3) (iB q1 q2 q3 q4 q5 q6 q7 q8) iS .none .none doc pm an cdv ct), osl⟩ ∧ codeIn K cdv "BadText.__init__" = true
theorem two_size (v u : Value) : [v, u].length ≤ sizeLine := by
  rw [sizeLine_eq]
  exact (by decide : 2 ≤ 16777216)
theorem kept_but {K : Frag} {h h' : Heap} {x : Addr} (X : K.In h) (hx : K.lookup x = none) (k : ∀ b o, b ≠ x → h.get? b = some o → h'.get? b = some o) : K.In h' := fun a o e =>
  k a o (fun z => by rw [z, hx] at e; cases e) (X a o e)
theorem ldC {M : Model} {s : Shared} {name : Str} {scope : Scope} {L a : Addr} {cd : Value} {m : Str → Option Value} {x : Str} {pos : Pos} {v : Value} {Q : Value → Shared → Prop} {A : Around} {E : Value → Shared → Prop} (hn : s.heap.Ns L m) (hv : m x = some v) (h : Q v s)
    (hk : scope.kind = .function := by rfl) (hl : (envOfC name scope L a cd).kindOf x = some .local := by rfl) (hd : (x == ("__debug__" : Str)) = false := by decide) :
    wpAny M A (eval (.Name x pos) (envOfC name scope L a cd)) Q E s := wpAny_Name (wpAny_loadName_local hk hl hn hv h) hd
/-- what __init__ leaves of a fresh exception at x -/
structure InitEnd (h h' : Heap) (x C dx t1 : Addr) (v u : Value) : Prop where
  keep : ∀ b o, b ≠ x → h.get? b = some o → h'.get? b = some o
  obj : h'.get? x = some { cls := .ref C, dict := some dx, data := .fields #[.ref t1, .none, .none, .none, .bool false, .none] }
  dbig : h.objs.size ≤ dx
  dne : dx ≠ x
  ns : h'.Ns1 dx (fun y => if y = "column" then some u else if y = "line" then some v else none)
/-- a made BadThing -/
structure OwnMade (h h' : Heap) (e C d : Addr) (v u : Value) : Prop where
  keep : ∀ b o, h.get? b = some o → h'.get? b = some o
  new : h.objs.size ≤ e
  obj : ∃ oe vs, h'.get? e = some oe ∧ oe.cls = .ref C ∧ oe.dict = some d ∧ oe.data = .fields vs ∧ vs[1]? = some .none
  dbig : h.objs.size ≤ d
  dne : d ≠ e
  ns : h'.Ns1 d (fun y => if y = "column" then some u else if y = "line" then some v else none)
section
variable {prog : Program} {w : World} {A : Around} {E : Value → Shared → Prop} {R : Result → Shared → Prop} {s : Shared} {K : Frag} {mg : Str → Option Value} {C fI : Addr}
theorem within_one {v : Value} : Within (fun y => if y = ("line" : Str) then some v else none) ["line"] := fun y hy => by
  by_cases h : y = ("line" : Str)
  · rw [h]
    exact List.mem_cons_self
  · exact absurd (if_neg h) hy
theorem bad_init (T : BadTxt K mg C fI) {x t0 : Addr} {v u : Value} (X : K.In s.heap) (hlim : s.heap.NoLimit) (hx : s.heap.get? x = some (excO C t0)) (hnx : K.lookup x = none) (hroom : A.depth < recursionLimit)
    (hq : ∀ h' tk dx, InitEnd s.heap h' x C dx t0 v u → R (.ok (.ret .none)) { s with heap := h', toks := tk }) :
    codeAny (model prog w) A (.call (.ref fI) ⟨[.ref x, v, u], []⟩) R s := by
  obtain ⟨oc, od, doc, pm, an, cdv, ct, osl, p1, p2, p3, q1, q2, q3, q4, q5, q6, q7, q8, ho, hcd⟩ := T.fn
  obtain ⟨nm, q, N, bs, bm, sn, sub, ab, col, dd, k0, k1, k2, k3, k5, hC, hbm⟩ := T.cls
  have hcl : clsIn K C = some { name := nm, bases := bs, mro := .ref C :: bm, ns := N, qualname := q, hasDict := true, slotNames := sn, subclasses := sub, abstract := ab, collection := col, hasDel := false } := by unfold clsIn; rw [hC] <;> rfl
  refine Att.call_fn (binds := [("self", .ref x), ("line", v), ("column", u)]) X hlim ho hcd hroom (BindsTo.of_eq (by first | rfl | with_unfolding_all rfl)) (by first | rfl | decide | with_unfolding_all rfl) (fun s₁ IC => ?_) rfl rfl rfl
  obtain ⟨h₁, tk₁, rfl⟩ := IC.toInCall.same
  have k : ∀ b o, s.heap.get? b = some o → h₁.get? b = some o := IC.toInCall.keep
  have hn := IC.toInCall.ns
  have hxL : s.heap.objs.size ≠ x := Nat.ne_of_gt (Heap.lt_size hx)
  have X₁ : K.In h₁ := X.keeps k
  have hx₁ := k _ _ hx
  -- self.by = by
  show wpAny _ _ (execs _ _) _ _ _
  refine wpAny_execs_cons (plainObj_wpAny_Assign_Attribute ?_)
  refine ldC (v := v) hn (by first | rfl | with_unfolding_all rfl | kernel_rfl) (ldC (v := .ref x) hn (by first | rfl | with_unfolding_all rfl | kernel_rfl) ?_)
  refine set_plain X₁ (ox := excO C t0) (od := none) ⟨hx₁, rfl, rfl, trivial⟩ T.sa ?_
  refine osa_first X₁ hx₁ hcl (show excTail exT bm = true from hbm) rfl rfl T.noN (fun h₃ tk₃ dx k₃ dn dne hx₃ hn₃ => ?_)
  have xL : s.heap.objs.size ≠ x := hxL
  have z : s.heap.objs.size < h₁.objs.size := hn.lt
  have X₃ : K.In h₃ := kept_but X₁ hnx k₃
  have hn₃' := hn.at fun o e => k₃ _ o xL e
  -- self.why = why
  show wpAny _ _ (execs _ _) _ _ _
  refine wpAny_execs_cons (plainObj_wpAny_Assign_Attribute ?_)
  refine ldC (v := u) hn₃' (by first | rfl | with_unfolding_all rfl | kernel_rfl) (ldC (v := .ref x) hn₃' (by first | rfl | with_unfolding_all rfl | kernel_rfl) ?_)
  have cnt : Within (fun y => if y = "line" then some v else none) ["line"] := within_one
  obtain ⟨oD, esD, epD, hoD, hdD, _⟩ := hn₃.count cnt
  refine set_plain X₃ (ox := { cls := .ref C, dict := some dx, data := .fields #[.ref t0, .none, .none, .none, .bool false, .none] }) (od := some oD) ⟨hx₃, rfl, rfl, hoD⟩ T.sa ?_
  refine osa_second X₃ hx₃ hn₃ cnt (by decide) hcl (show excTail exT bm = true from hbm) rfl rfl T.noW (fun h₄ tk₄ k₄ hn₄ => ?_)
  show wpAny _ _ (execs _ _) _ _ _
  have hdx : s.heap.objs.size ≤ dx := Nat.le_of_lt (Nat.lt_of_lt_of_le z dn)
  exact wpAny_execs_nil (hq h₄ tk₄ dx ⟨fun b o hb e => k₄ b o (Nat.ne_of_lt (Nat.lt_of_lt_of_le (Heap.lt_size e) hdx)) (k₃ b o hb (k b o e)), k₄ _ _ (Ne.symm dne) hx₃, hdx, dne, hn₄⟩)
theorem bad_made (T : BadTxt K mg C fI) {v u : Value} (X : K.In s.heap) (hlim : s.heap.NoLimit) (hroom : A.depth + 1 < recursionLimit)
    (hq : ∀ h' tk e d, OwnMade s.heap h' e C d v u → R (.ok (.ret (.ref e))) { s with heap := h', toks := tk }) :
    codeAny (model prog w) A (.call (.ref C) ⟨[v, u], []⟩) R s := by
  obtain ⟨nm, q, N, bs, bm, sn, sub, ab, col, dd, k0, k1, k2, k3, k5, hC, hbm⟩ := T.cls
  obtain ⟨hp, g, dr, tk, os⟩ := s
  have k : ∀ b o, hp.get? b = some o → ((hp.push (kdv_tup [v, u])).push (excO C hp.objs.size)).get? b = some o := fun b o e => Heap.get?_push_of_some _ (Heap.get?_push_of_some _ e)
  have hget : ((hp.push (kdv_tup [v, u])).push (excO C hp.objs.size)).get? (hp.objs.size + 1) = some (excO C hp.objs.size) := by heap_get
  have hnx : K.lookup (hp.objs.size + 1) = none := by
    cases e : K.lookup (hp.objs.size + 1) with
    | none => rfl
    | some o =>
      have z : hp.get? (hp.objs.size + 1) = some o := X _ _ e
      exact absurd (Nat.lt_of_succ_lt (Heap.lt_size z)) (Nat.lt_irrefl _)
  refine call_own F.excBase_Exception (fun X => excTail_contains X bm hbm) (X _ _ hC) (looks_findIn X T.iC) (fun self => bind_fn X self T.tC) (two_size v u) ?_
  refine bad_init (s := ⟨(hp.push (kdv_tup [v, u])).push (excO C hp.objs.size), g, dr, tk, os⟩) T (X.keeps k) (hlim.keeps k) hget hnx ?_ fun h' tk' dx ⟨k', hx, dn, dne, hns⟩ => ?_
  · show A.depth + 1 < recursionLimit
    exact hroom
  · have old : ∀ b o, hp.get? b = some o → h'.get? b = some o := fun b o e => k' b o (Nat.ne_of_lt (Nat.lt_succ_of_lt (Heap.lt_size e))) (k b o e)
    have z : hp.objs.size + 1 + 1 ≤ dx := by
      first
        | (simpa only [Heap.size_push] using dn)
        | exact dn
        | (have q := dn; rw [Heap.size_push, Heap.size_push] at q; exact q)
    exact ⟨rfl, hq h' tk' (hp.objs.size + 1) dx ⟨old, Nat.le_succ _, ⟨_, _, hx, rfl, rfl, rfl, rfl⟩, Nat.le_trans (Nat.le_trans (Nat.le_succ _) (Nat.le_succ _)) z, dne, hns⟩⟩
end
end BadY
end PySem
namespace Kx
open PySem PySem.Spec PyProof.Rows L2
theorem relO_bad {v u : V} {v' u' : Value} (r : RelV v v') (ru : RelV u u') (f : Str) : RelO (List.lookup f [(("line" : Str), v), ("column", u)]) (if f = "column" then some u' else if f = "line" then some v' else none) := by
  by_cases hw : f = "column"
  · subst hw
    rw [if_pos rfl]
    exact ru
  · rw [if_neg hw]
    by_cases hn : f = "line"
    · subst hn
      rw [if_pos rfl]
      exact r
    · rw [if_neg hn]
      have q1 : (f == ("line" : Str)) = false := by simpa using hn
      have q2 : (f == ("column" : Str)) = false := by simpa using hw
      have q3 : List.lookup f [(("line" : Str), v), ("column", u)] = none := by simp [List.lookup, q1, q2]
      rw [q3]
      trivial
section
variable {X : Cx} {C fI : Addr}
/-- BadText(e, f) -/
def tMkBad2 (C : Addr) (ta : TA) : L2.St → Hp → XK → Prop := fun σ H Q => ta σ H fun vs H1 => ∃ v u, vs = [v, u] ∧ ∀ d, H1 d = none → Q (.ref C) (some d) (upd H1 d (.xd [(("line" : Str), v), ("column", u)]))
theorem pmk_bad2 {a b : Expr} {ta : TA} {p pos : Pos} {k : Nat} (T : PySem.BadY.BadTxt X.K X.mg C fI) (hr : Room k X.A) (ha : PA X [a, b] ta) (hg : Gl X "BadText" := by rfl)
    (he : starEach (a :: [b]) X.env = (false, eval a X.env) :: starEach [b] X.env := by rfl) (hpl : (backTo pos (starEach [b] X.env)).any (·.1) = false := by rfl) :
    PMk X (.Call (.Name "BadText" p) [a, b] [] pos) (tMkBad2 C ta) := by
  intro pins s σ H Q I h
  refine wpAny_Call_Name_kw (ld_glob I hg T.gC ?_)
  refine PySem.W.callWith_K (h₀ := X.base) I.ok.mod.kin T.kC (thn (ha.run pos pins s σ H _ I h) fun us s1 hh => ?_) he hpl
  obtain ⟨vs, H1, I1, r1, v, u, ev, q1⟩ := hh
  subst ev
  refine ⟨I1.kIn, ?_⟩
  cases r1 with
  | cons rv rn =>
    rename_i v' us'
    cases rn with
    | cons ru rn =>
      rename_i u' us2
      cases rn
      show wpAny _ _ (call (.ref C) [v', u']) _ _ _
      have hlim := I1.nolimit
      obtain ⟨hp, g, dr, tk, os⟩ := s1
      refine wpAny_call (PySem.BadY.bad_made T I1.kIn hlim (by have := hr.dp; omega) fun h' tk' e d M => ?_)
      show MkP X pins σ Q (.ref e) ⟨h', g, dr, tk', os⟩
      obtain ⟨oe, fv, hoe, hc, hd, hdat, h1⟩ := M.obj
      have hns := M.ns
      obtain ⟨G', g1, g2⟩ := restrict h' fun b => decide (b ≠ e)
      have gk : ∀ b, b ≠ e → G'.get? b = h'.get? b := fun b hb => g1 b (decide_eq_true hb)
      have ge : G'.get? e = none := g2 e (by simp)
      have old : ∀ b o, hp.get? b = some o → G'.get? b = some o := fun b o q => (gk b (Nat.ne_of_lt (Nat.lt_of_lt_of_le (Heap.lt_size q) M.new))).trans (M.keep b o q)
      have ob : ObjOk X.prog X.w (upd H1 d (.xd [(("line" : Str), v), ("column", u)])) G' d (.xd [(("line" : Str), v), ("column", u)]) :=
        ⟨_, hns.at (fun o q => (gk d M.dne).trans q), fun f => relO_bad rv ru f⟩
      have J : Inv X pins σ (upd H1 d (.xd [(("line" : Str), v), ("column", u)])) ⟨G', g, dr, tk', os⟩ := I1.laid (t' := tk') old M.dbig ob
      refine ⟨e, oe, fv, ⟨G', g, dr, tk', os⟩, _, .ref C, some d, rfl, J, fun b o q => ?_, ge, hoe, ⟨hc, hd⟩, hdat, h1, ?_, rfl, I1.bare, raises_own T.exC T.tyC, q1 d (I1.hok.fresh M.dbig)⟩
      · by_cases hb : b = e
        · have q' : G'.get? b = some o := q
          rw [hb, ge] at q'; cases q'
        · exact (gk b hb).symm.trans q
      · rw [upd_ne (Ne.symm M.dne)]
        exact I1.hok.fresh M.new
/-- raise BadText(e, f) -/
def tRaiseBad2 (C : Addr) (W : WX) (ta : TA) : TS := fun _ σ H => tMkBad2 C ta σ H fun cls d H' => W cls d σ H'
theorem ps_raiseBad2 {a b : Expr} {ta : TA} {W : WX} {p pos pos2 : Pos} {k : Nat} (hc : X.calm = true) (T : PySem.BadY.BadTxt X.K X.mg C fI) (hr : Room k X.A) (tk : Takes X W) (ha : PA X [a, b] ta) (hg : Gl X "BadText" := by rfl)
    (he : starEach (a :: [b]) X.env = (false, eval a X.env) :: starEach [b] X.env := by rfl) (hpl : (backTo pos (starEach [b] X.env)).any (·.1) = false := by rfl) :
    PS X (.Raise (some (.Call (.Name "BadText" p) [a, b] [] pos)) none pos2) (tRaiseBad2 C W ta) := ps_raise hc tk (pmk_bad2 T hr ha hg he hpl)
/-- error.name, low the exception that the suite holds (at a; its class cls, its dict d) -/
def tByName (C : Addr) (a : Addr) (cls : Value) (d : Option Addr) (te : TE) : TE := fun σ H Q => te σ H fun x H1 => x = .ref a ∧ cls = .ref C ∧ ∃ (dd : Addr) (v u : V), d = some dd ∧ H1 dd = some (.xd [(("line" : Str), v), ("column", u)]) ∧ Q v H1
theorem pe_byName {a : Addr} {oe : Obj} {cls : Value} {d : Option Addr} {pn : List (Addr × Obj)} {e : Expr} {te : TE} {pos : Pos} (T : PySem.BadY.BadTxt X.K X.mg C fI) (hz : Zc cls d oe) (hf : ∃ vs, oe.data = .fields vs) (he : PE (X.suite a ((a, oe) :: pn)) e te)
    (hb : attributeBase e "line" X.env (eval e X.env) = eval e X.env := by rfl) :
    PE (X.suite a ((a, oe) :: pn)) (.Attribute e "line" pos) (tByName C a cls d te) := by
  refine ⟨fun pins s σ H Q I h => ?_⟩
  refine attr_of hb (thn (he.run pins s σ H _ I h) fun ue s1 hh => ?_)
  obtain ⟨x, H1, I1, rx, ex, ec, dd, v, u, ed, ea, q⟩ := hh
  subst ex
  obtain rfl : ue = Value.ref a := rx
  subst ec
  subst ed
  obtain ⟨ha, _⟩ := I1.pin (a, oe) (List.mem_append_left _ List.mem_cons_self)
  obtain ⟨vs, hd⟩ := hf
  have hx : ObjOk X.prog X.w H1 s1.heap dd (.xd [(("line" : Str), v), ("column", u)]) := I1.hok dd _ ea
  obtain ⟨mA, hns, hr⟩ := hx
  obtain ⟨od, ho, hl⟩ := lookIn_ns hns
  have l : List.lookup ("line" : Str) [(("line" : Str), v), ("column", u)] = some v := by simp [List.lookup]
  obtain ⟨u1, hu, ru⟩ := RelO.some_of (v := v) (o := mA "line") (by rw [← l]; exact hr "line")
  have J : PySem.W.InstAt s1.heap a oe C (some od) := ⟨ha, hz.1, by unfold PySem.W.notCls; rw [hd] <;> rfl, by rw [hz.2]; exact ho⟩
  exact HandSPX.exc_get I1.kIn J T.ga T.gg T.exC (PySem.W.findObj_own T.hdC T.noN rfl (by rw [hl, hu])) (handed_of ru) ⟨v, H1, I1.tok _, ru, q⟩
/-- error.name, low the exception that the suite holds (at a; its class cls, its dict d) -/
def tByColumn (C : Addr) (a : Addr) (cls : Value) (d : Option Addr) (te : TE) : TE := fun σ H Q => te σ H fun x H1 => x = .ref a ∧ cls = .ref C ∧ ∃ (dd : Addr) (v u : V), d = some dd ∧ H1 dd = some (.xd [(("line" : Str), v), ("column", u)]) ∧ Q u H1
theorem pe_byColumn {a : Addr} {oe : Obj} {cls : Value} {d : Option Addr} {pn : List (Addr × Obj)} {e : Expr} {te : TE} {pos : Pos} (T : PySem.BadY.BadTxt X.K X.mg C fI) (hz : Zc cls d oe) (hf : ∃ vs, oe.data = .fields vs) (he : PE (X.suite a ((a, oe) :: pn)) e te)
    (hb : attributeBase e "column" X.env (eval e X.env) = eval e X.env := by rfl) :
    PE (X.suite a ((a, oe) :: pn)) (.Attribute e "column" pos) (tByColumn C a cls d te) := by
  refine ⟨fun pins s σ H Q I h => ?_⟩
  refine attr_of hb (thn (he.run pins s σ H _ I h) fun ue s1 hh => ?_)
  obtain ⟨x, H1, I1, rx, ex, ec, dd, v, u, ed, ea, q⟩ := hh
  subst ex
  obtain rfl : ue = Value.ref a := rx
  subst ec
  subst ed
  obtain ⟨ha, _⟩ := I1.pin (a, oe) (List.mem_append_left _ List.mem_cons_self)
  obtain ⟨vs, hd⟩ := hf
  have hx : ObjOk X.prog X.w H1 s1.heap dd (.xd [(("line" : Str), v), ("column", u)]) := I1.hok dd _ ea
  obtain ⟨mA, hns, hr⟩ := hx
  obtain ⟨od, ho, hl⟩ := lookIn_ns hns
  have l : List.lookup ("column" : Str) [(("line" : Str), v), ("column", u)] = some u := by
    have q1 : (("column" : Str) == ("line" : Str)) = false := by decide +kernel
    simp [List.lookup, q1]
  obtain ⟨u1, hu, ru⟩ := RelO.some_of (v := u) (o := mA "column") (by rw [← l]; exact hr "column")
  have J : PySem.W.InstAt s1.heap a oe C (some od) := ⟨ha, hz.1, by unfold PySem.W.notCls; rw [hd] <;> rfl, by rw [hz.2]; exact ho⟩
  exact HandSPX.exc_get I1.kIn J T.ga T.gg T.exC (PySem.W.findObj_own T.hdC T.noW rfl (by rw [hl, hu])) (handed_of ru) ⟨u, H1, I1.tok _, ru, q⟩
end
end Kx


namespace Kx
open PySem PySem.Spec PyProof.Rows L2
/-! ### try: .. except C as n: .. else: .., every error of the body being C's -/
/-- behind the suite the name is gone -/
def bare (D : Ends) (i : Nat) : Ends := { nx := fun τ G => D.nx (τ.set i none) G, rt := D.rt, bk := fun τ G => D.bk (τ.set i none) G, ct := fun τ G => D.ct (τ.set i none) G }
def wAll (K : PySem.W.Frag) (c : Value) (i : Nat) (ts : Addr → Value → Option Addr → TS) (D : Ends) : WX := fun cls d σ H => PySem.W.exmOne K cls c = some true ∧ ∀ a, H a = none → ts a cls d (bare D i) (σ.set i (some (.ref a))) H
section
variable {X : Cx} {x n : Str} {c : Value} {i : Nat} {body suite orelse : List Stmt} {b₀ : Stmt} {np pos pos' : Pos} {tb : WX → TS} {ts : Addr → Value → Option Addr → TS} {u : TS}
/-- an object of an exception is no frame's -/
theorem no_frame {B h : Heap} {l : List Env} {a : Addr} {o : Obj} {vs : Array Value} (F : h.FunFrames B l) (e : h.get? a = some o) (k : o.data = .fields vs) : a ∉ frs l := fun m => by
  obtain ⟨_, o2, e2, no⟩ := F.mem m
  rw [e] at e2
  cases e2
  exact no _ k
theorem ps_try_asE (ho : PSs X orelse u) (hst : X.stack = X.env :: X.outer) (hfl : X.env.frame = some X.env.locals) (hnd : X.N.Nodup) (hix : X.N[i]? = some n) (hlc : X.env.kindOf n = some .local) (hnm : Names X x c)
    (hbd : ∀ (W : WX) (pn : List (Addr × Obj)) (xe : Value → Shared → Prop), Takes (X.tr pn xe) W → PassesOwn (model X.prog X.w) X.A X.env xe → PSs (X.tr pn xe) body (tb W))
    (hsu : ∀ (a : Addr) (oe : Obj) (cls : Value) (d : Option Addr) (pn : List (Addr × Obj)), Zc cls d oe → (∃ vs, oe.data = .fields vs) → PSs (X.suite a ((a, oe) :: pn)) (b₀ :: suite) (ts a cls d)) :
    PS X (.Try body [.ExceptHandler (some (.Name x np)) (some n) (b₀ :: suite) pos'] orelse [] pos) (fun D σ H => tb (wAll X.K c i ts D) { D with nx := u D } σ H) := by
  constructor
  intro pins s σ H D I h
  have okX := I.ok
  have frames : X.A.frames = some (X.env :: X.outer) := okX.frames.trans (congrArg some hst)
  -- what is done with an error of the body
  let land : Value → Shared → Prop := fun e t1 => wpAny (model X.prog X.w) X.A (noteFrame e X.env) (fun _ t2 => wpAny (model X.prog X.w) X.A (setFlight e none) (fun _ t3 =>
    wpAny (model X.prog X.w) X.A (handleBy e X.env [.ExceptHandler (some (.Name x np)) (some n) (b₀ :: suite) pos']) (SP X pins D) X.xe t3) X.xe t2) X.xe t1
  have caught : Takes (X.tr (X.pn ++ pins) land) (wAll X.K c i ts D) := by
    rintro e t ⟨a, B, sI, ps, τ, G, cls, d, rfl, J0, nb, up, sky, na, os, ag, isC, go⟩
    have J := J0.ofTry okX
    have sky2 : Sky B (X.env :: X.outer) a (Zc cls d) X.env.locals t.heap := hst ▸ sky
    refine Sky.land Zc.steady frames hfl sky2 fun g1 f1 u1 => ?_
    have J1 : Inv X pins τ G { t with heap := g1 } := J.landed nb f1.1 (up.trans u1) os ag
    obtain ⟨o1, v1, e1, z1', d1⟩ := f1.there
    have far := no_frame f1.2.2.1 e1 d1
    have farL : a ≠ X.env.locals := fun z => far (List.mem_filterMap.mpr ⟨X.env, List.mem_cons_self, hfl.trans (congrArg some z.symm)⟩)
    have farF : a ∉ X.fs := fun m => by
      obtain ⟨y, hy, k⟩ := List.mem_filterMap.mp m
      exact far (List.mem_filterMap.mpr ⟨y, List.mem_cons_of_mem _ hy, k⟩)
    have S1 := J1.suite e1 d1 na farL farF
    have kind : PySem.W.Looks (model X.prog X.w) g1 (typeOf (.ref a)) cls := fun A Q E t' k q => wpAny_typeOf_ref (k _ _ e1) (z1'.1 ▸ q)
    have named : ∀ {Q E : Value → Shared → Prop}, Q c { t with heap := g1 } → wpAny (model X.prog X.w) (X.A.mark (some (.ref a))) (eval (.Name x np) X.env) Q E { t with heap := g1 } := fun {Q E} q => by
      rcases hnm with ⟨gl, nod, own | ⟨non, bt, nn⟩⟩
      · exact ld_glob (X := X.suite a ((a, o1) :: (X.pn ++ pins))) S1 gl own q nod
      · exact ld_blt (X := X.suite a ((a, o1) :: (X.pn ++ pins))) S1 gl non bt q nn nod
    refine wpAny_handleBy_cons (codeAny_handlers_test (named ((PySem.W.exm_one (M := model X.prog X.w) J1.kIn kind isC).here ?_))) (by intro z; cases z)
    refine codeAny_handlers_suite_as (HandSPX.lands_againZ f1 fun g2 f2 u2 => ?_)
    have J2 : Inv X pins τ G { t with heap := g2 } := J.landed nb f2.1 ((up.trans u1).trans u2) os ag
    obtain ⟨o2, v2, e2, z2', d2⟩ := f2.there
    refine store_ok (X := X.suite a ((a, o2) :: (X.pn ++ pins))) (v := .ref a) (J2.suite e2 d2 na farL farF) hnd hix (.inl hlc) rfl (fun t5 I5 => ?_) (.inr hlc)
    refine wpAny_mono ((hsu a o2 cls d (X.pn ++ pins) z2' ⟨_, d2⟩).run [] t5 _ G _ I5 (go a na)) (fun fl t6 r => ?_) fun _ _ z => z.elim
    have drop : ∀ {τ6 : L2.St} {G6 : Hp} {Q : Shared → Prop}, Inv (X.suite a ((a, o2) :: (X.pn ++ pins))) [] τ6 G6 t6 → (∀ t7, Inv X pins (τ6.set i none) G6 t7 → Q t7) →
        wpAny (model X.prog X.w) X.A (do bindName X.env n .none; unbindBehindTheSuite X.env n pos') (fun _ t7 => Q t7) X.xe t6 := fun k q => gone_ok (k.unsuite okX) hnd hix hlc q
    rcases fl with _ | _ | _ | v
    · obtain ⟨τ6, G6, K6, r⟩ := r
      exact drop K6 fun t7 J7 => ⟨_, _, J7, r⟩
    · obtain ⟨τ6, G6, K6, r⟩ := r
      exact drop K6 fun t7 J7 => ⟨_, _, J7, r⟩
    · obtain ⟨τ6, G6, K6, r⟩ := r
      exact drop K6 fun t7 J7 => ⟨_, _, J7, r⟩
    · obtain ⟨w6, τ6, G6, K6, r6, r⟩ := r
      exact drop K6 fun t7 J7 => ⟨_, _, _, J7, r6, r⟩
  refine wpAny_Try_except (wpAny_mono ((hbd _ _ land caught PassesOwn.looking).run [] s σ H { D with nx := u D } (I.toTry _) h) (fun fl t1 r => ?_) fun _ _ z => z)
  rcases fl with _ | _ | _ | v
  · obtain ⟨τ, G, J, r⟩ := r
    exact ho.run pins t1 τ G D (J.ofTry okX) r
  · obtain ⟨τ, G, J, r⟩ := r
    exact ⟨τ, G, J.ofTry okX, r⟩
  · obtain ⟨τ, G, J, r⟩ := r
    exact ⟨τ, G, J.ofTry okX, r⟩
  · obtain ⟨v1, τ, G, J, r1, r⟩ := r
    exact ⟨v1, τ, G, J.ofTry okX, r1, r⟩
end
end Kx

namespace Kx
open PySem PySem.Spec PyProof.Rows L2 TL
/-! ### texts: words, lines, figures -/
def mkS (l : List Nat) : Str := ⟨l.toArray⟩
theorem tl_mkS (l : List Nat) : tl (mkS l) = l := rfl
def wordsOf (z : Str) : List Str := (spl [32] 0 [] (tl z)).map mkS
def linesOf (z : Str) : List Str := (spl [10] 0 [] (tl z)).map mkS
theorem map_mkS (ls : List (List Nat)) : (ls.map mkS).map tl = ls := by
  rw [List.map_map]
  exact (List.map_congr_left fun a _ => rfl).trans (List.map_id ls)
theorem tl_blank : tl (" " : Str) = [32] := by decide +kernel
theorem tl_feed : tl ("\n" : Str) = [10] := by decide +kernel
theorem low_blank : (" " : Str).cps.all (· < 256) = true := by decide +kernel
theorem low_feed : ("\n" : Str).cps.all (· < 256) = true := by decide +kernel
theorem split_words (z : Str) : Txt.split z " " = wordsOf z := by
  refine map_tl_inj ?_
  rw [split_spl _ _ (by rw [tl_blank]; simp) (kind_ok low_blank), tl_blank]
  exact (map_mkS _).symm
theorem split_lines (z : Str) : Txt.split z "\n" = linesOf z := by
  refine map_tl_inj ?_
  rw [split_spl _ _ (by rw [tl_feed]; simp) (kind_ok low_feed), tl_feed]
  exact (map_mkS _).symm
theorem spl_ne (S : List Nat) : ∀ (k : Nat) (acc l : List Nat), spl S k acc l ≠ []
  | k, acc, [] => by cases k <;> simp [spl]
  | 0, acc, c :: r => by
    unfold spl
    split
    · simp
    · exact spl_ne S 0 _ r
  | k + 1, acc, _ :: r => by
    unfold spl
    exact spl_ne S k acc r
theorem wordsOf_ne (z : Str) : wordsOf z ≠ [] := fun e => spl_ne _ _ _ _ (List.map_eq_nil_iff.mp e)
theorem linesOf_ne (z : Str) : linesOf z ≠ [] := fun e => spl_ne _ _ _ _ (List.map_eq_nil_iff.mp e)
theorem spl_sum (s : Nat) : ∀ (acc l : List Nat), ((spl [s] 0 acc l).map List.length).sum + (spl [s] 0 acc l).length = acc.length + l.length + 1
  | acc, [] => by simp [spl]
  | acc, c :: r => by
    unfold spl
    split
    · show acc.length + ((spl [s] 0 [] r).map List.length).sum + ((spl [s] 0 [] r).length + 1) = _
      have := spl_sum s [] r
      simp only [List.length_cons, List.length_nil] at this ⊢
      omega
    · have := spl_sum s (acc ++ [c]) r
      simp only [List.length_append, List.length_cons, List.length_nil] at this ⊢
      omega
theorem len_mkS (l : List Nat) : (mkS l).length = l.length := by rw [len_tl, tl_mkS]
theorem words_sum (z : Str) : ((wordsOf z).map (·.length)).sum + (wordsOf z).length = z.length + 1 := by
  have h := spl_sum 32 [] (tl z)
  unfold wordsOf
  rw [List.map_map, List.length_map, len_tl]
  have e : (spl [32] 0 [] (tl z)).map ((·.length) ∘ mkS) = (spl [32] 0 [] (tl z)).map List.length := List.map_congr_left fun a _ => len_mkS a
  rw [e]
  simpa using h
theorem lines_sum (z : Str) : ((linesOf z).map (·.length)).sum + (linesOf z).length = z.length + 1 := by
  have h := spl_sum 10 [] (tl z)
  unfold linesOf
  rw [List.map_map, List.length_map, len_tl]
  have e : (spl [10] 0 [] (tl z)).map ((·.length) ∘ mkS) = (spl [10] 0 [] (tl z)).map List.length := List.map_congr_left fun a _ => len_mkS a
  rw [e]
  simpa using h
theorem mem_sum {z : Str} {ws : List Str} (h : z ∈ ws) : z.length ≤ (ws.map (·.length)).sum := by
  induction ws with
  | nil => cases h
  | cons a r ih =>
    rw [List.map_cons, List.sum_cons]
    rcases List.mem_cons.mp h with rfl | h
    · omega
    · have := ih h
      omega
theorem lt_one (a b : Nat) : decide (([a] : List Nat) < [b]) = decide (a < b) := by
  by_cases h : a < b
  · rw [decide_eq_true h]
    exact decide_eq_true (by simpa [List.cons_lt_cons_iff] using h)
  · rw [decide_eq_false h]
    exact decide_eq_false (by simpa [List.cons_lt_cons_iff] using h)
def isFig (c : Nat) : Bool := decide (48 ≤ c) && decide (c ≤ 57)
def numS (n : Nat) : Str := Str.ofString (toString (n : Int))
theorem tl_numS (n : Nat) : tl (numS n) = numL n := tl_num n
theorem numL_head {n : Nat} (h : 0 < n) : (numL n).head? ≠ some 48 := by
  induction n using Nat.strongRecOn with
  | ind n ih =>
    by_cases hn : n < 10
    · rw [numL_lt hn]
      simp
      omega
    · rw [numL_step (by omega)]
      have h1 : 0 < n / 10 := by omega
      have := ih (n / 10) (by omega) h1
      cases e : numL (n / 10) with
      | nil => exact absurd e (numL_ne _)
      | cons a r =>
        rw [e] at this
        exact this
theorem numL_figs (n : Nat) : (numL n).all isFig = true := by
  refine List.all_eq_true.mpr fun c hc => ?_
  unfold isFig
  by_cases h : c < 48 ∨ 57 < c
  · exact absurd hc (numL_free h)
  · have h1 : 48 ≤ c := by omega
    have h2 : c ≤ 57 := by omega
    simp [h1, h2]
end Kx

namespace Kx
open PySem PySem.Spec PyProof.Rows L2 TL
theorem Same.sqT {K : PySem.W.Frag} {H H' : Hp} (h : Same H H') {a : Addr} {xs : List V} (q : SqT K H a xs) : SqT K H' a xs := by
  rcases q with (q | ⟨o, q⟩) | q
  · exact .inl (.inl (h _ _ q))
  · exact .inl (.inr ⟨o, h _ _ q⟩)
  · exact .inr q
theorem Same.sqL {K : PySem.W.Frag} {H H' : Hp} (h : Same H H') {a : Addr} {xs : List V} (q : SqL K H a xs) : SqL K H' a xs := by
  rcases q with (q | ⟨o, q⟩) | q
  · exact .inl (.inl (h _ _ q))
  · exact .inl (.inr ⟨o, h _ _ q⟩)
  · exact .inr q
theorem same_none {H H' : Hp} {b : Addr} (h : Same H H') (e : H' b = none) : H b = none := by
  cases k : H b with
  | none => rfl
  | some o => rw [h _ _ k] at e; cases e
/-- t[lo:hi]: somewhere stands the part -/
theorem cut_any {K : PySem.W.Frag} {H : Hp} {a : Addr} {xs ys : List V} {lo hi : Option Int} {Q : VK} (ha : SqT K H a xs) (e : cutV xs lo hi = ys) (q : ∀ p H', Same H H' → SqT K H' p ys → Q (.ref p) H') : rSlA K (.ref a) lo hi H Q := by
  refine ⟨a, xs, rfl, ha, fun h => ?_, fun _ p hp => ?_⟩
  · refine q a H (fun _ _ h => h) ?_
    have : ys = xs := by
      rw [← e]
      unfold cutV
      rw [h.1, h.2, List.drop_zero, Nat.sub_zero, List.take_length]
    rw [this]
    exact ha
  · subst e
    refine q p _ (fun b x e => ?_) (SqT.of upd_same)
    rw [upd_ne (ne_of_none e hp)]
    exact e
theorem take_cut (xs : List V) (k : Nat) : cutV xs none (some (k : Int)) = xs.take k := by
  unfold cutV
  rw [HT.sIx_none, HT.sIx_nat, List.drop_zero, Nat.sub_zero]
  by_cases h : k ≤ xs.length
  · rw [Nat.min_eq_left h]
  · rw [Nat.min_eq_right (by omega), List.take_of_length_le (Nat.le_refl _), List.take_of_length_le (by omega)]
theorem drop_cut (xs : List V) (k : Nat) : cutV xs (some (k : Int)) none = xs.drop k := by
  unfold cutV
  rw [HT.sIx_none, HT.sIx_nat]
  by_cases h : k ≤ xs.length
  · rw [Nat.min_eq_left h, List.take_of_length_le (by rw [List.length_drop]; omega)]
  · rw [Nat.min_eq_right (by omega), Nat.sub_self, List.take_zero, List.drop_eq_nil_of_le (by omega)]
theorem dp_strs {K : PySem.W.Frag} {H : Hp} : ∀ ws : List Str, DpAll K H (ws.map V.str) (ws.map PyData.str)
  | [] => .nil
  | z :: r => .cons (.str z) (dp_strs r)
theorem lay_strs : ∀ {ws : List Str}, (∀ z ∈ ws, PyData.strOk z = true) → PyData.canLayAll0 (ws.map PyData.str) = true
  | [], _ => by simp [PyData.canLayAll0]
  | z :: r, h => by
    rw [List.map_cons, PyData.canLayAll0, lay_strs fun y hy => h y (List.mem_cons_of_mem _ hy), Bool.and_true, PyData.canLay0]
    exact h z List.mem_cons_self
theorem depth_strs : ∀ ws : List Str, PyData.depthAll (ws.map PyData.str) = 0
  | [] => by simp [PyData.depthAll]
  | z :: r => by rw [List.map_cons, PyData.depthAll, depth_strs r, PyData.depth]; rfl
theorem shaped_strs {ws : List Str} (h : ∀ z ∈ ws, PyData.strOk z = true) : SeqAt.shaped (.list (ws.map PyData.str)) = true := by
  unfold SeqAt.shaped
  rw [PyData.canLay0, lay_strs h, PyData.depth, depth_strs]
  rfl
theorem eqv_strs (a b : List Str) : PyData.eqv (.list (a.map PyData.str)) (.list (b.map PyData.str)) = decide (a = b) := PySem.W.eqvAll_map (α := Str) a b
/-! ### texts whose signs are signs -/
def okL (l : List Nat) : Bool := l.all (· < 0x110000)
theorem strOk_tl (z : Str) : PyData.strOk z = okL (tl z) := by
  unfold PyData.strOk okL
  first
    | exact Array.all_toList.symm
    | simp
theorem okL_spl (S : List Nat) : ∀ (k : Nat) (acc l : List Nat), okL acc = true → okL l = true → ∀ p ∈ spl S k acc l, okL p = true
  | k, acc, [], h, _, p, hp => by
    rw [spl_nil] at hp
    rw [List.mem_singleton.mp hp]
    exact h
  | 0, acc, c :: r, h, hl, p, hp => by
    have hr : okL r = true := by
      unfold okL at hl ⊢
      rw [List.all_cons, Bool.and_eq_true] at hl
      exact hl.2
    have hc : okL (acc ++ [c]) = true := by
      unfold okL at hl h ⊢
      rw [List.all_cons, Bool.and_eq_true] at hl
      rw [List.all_append, h, List.all_cons, hl.1]
      rfl
    unfold spl at hp
    split at hp
    · rcases List.mem_cons.mp hp with e | hp
      · rw [e]
        exact h
      · exact okL_spl S _ [] r rfl hr p hp
    · exact okL_spl S 0 _ r hc hr p hp
  | k + 1, acc, c :: r, h, hl, p, hp => by
    have hr : okL r = true := by
      unfold okL at hl ⊢
      rw [List.all_cons, Bool.and_eq_true] at hl
      exact hl.2
    unfold spl at hp
    exact okL_spl S k acc r h hr p hp
theorem ok_words {z : Str} (h : PyData.strOk z = true) : ∀ y ∈ wordsOf z, PyData.strOk y = true := fun y hy => by
  obtain ⟨p, hp, rfl⟩ := List.mem_map.mp hy
  rw [strOk_tl, tl_mkS]
  exact okL_spl _ 0 [] (tl z) rfl (by rw [← strOk_tl]; exact h) p hp
theorem ok_lines {z : Str} (h : PyData.strOk z = true) : ∀ y ∈ linesOf z, PyData.strOk y = true := fun y hy => by
  obtain ⟨p, hp, rfl⟩ := List.mem_map.mp hy
  rw [strOk_tl, tl_mkS]
  exact okL_spl _ 0 [] (tl z) rfl (by rw [← strOk_tl]; exact h) p hp
theorem len_append (a b : Str) : (a ++ b).length = a.length + b.length := by rw [len_tl, tl_append, List.length_append, len_tl, len_tl]
theorem okL_append {a b : List Nat} (h : okL a = true) (k : okL b = true) : okL (a ++ b) = true := by
  unfold okL at *
  rw [List.all_append, h, k]
  rfl
theorem ok_append {a b : Str} (h : PyData.strOk a = true) (k : PyData.strOk b = true) : PyData.strOk (a ++ b) = true := by
  rw [strOk_tl] at *
  rw [tl_append]
  exact okL_append h k
theorem ok_numS (n : Nat) : PyData.strOk (numS n) = true := by
  rw [strOk_tl, tl_numS]
  refine List.all_eq_true.mpr fun c hc => ?_
  have h := List.all_eq_true.mp (numL_figs n) c hc
  unfold isFig at h
  have h2 : c ≤ 57 := by
    have := (Bool.and_eq_true_iff.mp h).2
    exact of_decide_eq_true this
  exact decide_eq_true (by omega)
end Kx

namespace Kx
open PySem PySem.Spec PyProof.Rows L2
/-! ### a list comprehension whose item may raise -/
section
variable {M : Model} {A : Around} {E : Value → Shared → Prop} {s : Shared} {env : Env}
/-- behind the block: as the library's, but the frame of the block's names is told -/
def cpX (M : Model) (A : Around) (E : Value → Shared → Prop) (use : Option (Value → Sem Unit)) (Q : Value → Shared → Prop) (acc : Value) (cenv : Env) (r : Result) (s' : Shared) : Prop :=
  match r, use with
  | .ok _, none => ∃ m, s'.heap.Ns cenv.locals m ∧ ∀ h', Heap.SameBut cenv.locals s'.heap h' → Q acc { s' with heap := h' }
  | .ok _, some u => wpAny M A (u acc) (fun _ s'' => ∃ m, s''.heap.Ns cenv.locals m ∧ ∀ h', Heap.SameBut cenv.locals s''.heap h' → Q .none { s'' with heap := h' }) E s'
  | .error x, _ => ∃ m, s'.heap.Ns cenv.locals m ∧ ∀ h', Heap.SameBut cenv.locals s'.heap h' → ∀ e' : Env, e'.frame = cenv.frame → wpAny M A (passOn "comprehension.variables-let-go" x e' : Sem Value) (fun _ _ => False) E { s' with heap := h' }
theorem comprehension_X {e : Expr} {scope : Scope} {pos : Pos} {newAcc first : Sem Value} {g : Comprehension} {gs : List Comprehension} {cl : List (Str × Addr)} {use : Option (Value → Sem Unit)}
    {Q : Value → Shared → Prop}
    (hcl : clausesOf e = g :: gs) (hs : ∀ x, foldedSetIterable g.iter env x = pure x) (hclos : closureFor scope env = pure cl)
    (hkind : scope.kind = .function) (hnames : ∀ x ∈ scope.names, x.2 = .local → scope.names.lookup x.1 = some .local)
    (h : wpAny M A first (fun x s₁ => wpAny M A (pyIter x) (fun it s₂ => wpAny M A newAcc (fun acc s₃ =>
      wpAny M A (newFunctionEnv scope env.globals cl [] env.qual none .none (some env)) (fun cenv s₄ =>
        codeAny M A (.compStart e 0 it acc { cenv with scope := relabel scope env }) (cpX M A E use Q acc cenv) s₄) E s₃) E s₂) E s₁) E s) :
    wpAny M A (comprehension e scope env pos newAcc false first use) Q E s := by
  unfold comprehension
  rw [hclos, hcl]
  refine wpAny_bind (wpAny_mono h (fun x s₁ h₁ => wpAny_bind (wpAny_standAt (wpAny_bind (wpAny_of_eq (hs x) (wpAny_bind (wpAny_holding (wpAny_mono h₁ (fun it s₂ h₂ =>
    wpAny_standIf (wpAny_bind (wpAny_mono h₂ (fun acc s₃ h₃ => wpAny_bind (wpAny_pure (wpAny_bind (wpAny_mono h₃ (fun cenv s₄ h₄ => ?_) fun _ _ h' => h')))) fun _ _ h' => h')))
      fun _ _ h' => h'))))))) fun _ _ h' => h')
  dsimp only
  have hv : ∀ x ∈ (scope.names.filter fun x => (x.2 == .local || x.2 == .cell) && x.1 != (".0" : Str)).reverse, x.2 = .local →
      Env.kindOf { cenv with scope := relabel scope env } x.1 = some .local := fun x hx hl => lookup_relabel_local (hnames x (List.mem_filter.mp (List.mem_reverse.mp hx)).1 hl)
  have hv' : ∀ x ∈ (scope.names.filter fun x => (x.2 == .local || x.2 == .cell) && x.1 != (".0" : Str)).reverse.drop 1 ++ (scope.names.filter fun x => (x.2 == .local || x.2 == .cell) && x.1 != (".0" : Str)).reverse.take 1,
      x.2 = .local → Env.kindOf { cenv with scope := relabel scope env } x.1 = some .local := fun x hx hl => by
    rcases List.mem_append.mp hx with h1 | h1
    · exact hv x (List.mem_of_mem_drop h1) hl
    · exact hv x (List.mem_of_mem_take h1) hl
  refine wpAny_holding (wpAny_bind (wpAny_attempt (wpAny_holding (wpAny_run (codeAny_mono h₄ fun r s' hr => ?_)))))
  cases r with
  | ok f =>
    cases use with
    | none =>
      obtain ⟨m, hn, hr⟩ := hr
      exact wpAny_bind (wpAny_holding (wpAny_comp_letGo (cenv := { cenv with scope := relabel scope env }) hkind _ s' m hv hn fun h' m' _ hs' => wpAny_pure (hr h' hs')))
    | some u =>
      refine wpAny_bind (wpAny_rule (wpAny_bind (wpAny_holding (wpAny_mono hr (fun _ s'' hr' => ?_) fun _ _ h' => h'))))
      obtain ⟨m, hn, hr'⟩ := hr'
      exact wpAny_bind (wpAny_comp_letGo (cenv := { cenv with scope := relabel scope env }) hkind _ s'' m hv' hn fun h' m' _ hs' => wpAny_pure (hr' h' hs'))
  | error x =>
    have hr' : ∃ m, s'.heap.Ns cenv.locals m ∧ ∀ h', Heap.SameBut cenv.locals s'.heap h' → ∀ e' : Env, e'.frame = cenv.frame → wpAny M A (passOn "comprehension.variables-let-go" x e' : Sem Value) (fun _ _ => False) E { s' with heap := h' } := by cases use <;> exact hr
    obtain ⟨m, hn, hr⟩ := hr'
    exact wpAny_bind (wpAny_holding (wpAny_comp_letGo (cenv := { cenv with scope := relabel scope env }) hkind _ s' m hv hn fun h' m' _ hs' => wpAny_mono (hr h' hs' _ rfl) (fun _ _ f => f.elim) fun _ _ y => y))
/-- noting depends on the frame alone -/
theorem note_frame {e : Value} {env' : Env} (h : env'.frame = env.frame) : noteFrame e env' = noteFrame e env := by
  unfold noteFrame PySem.frameOf
  rw [h]
theorem frames_but {B B' h h' : Heap} {C : Addr} (k : ∀ b, b ≠ C → h'.get? b = h.get? b) (g : ∀ b, B.get? b = none → B'.get? b = none) : ∀ {l : List Env}, (∀ L ∈ frs l, L ≠ C) → h.FunFrames B l → h'.FunFrames B' l
  | [], _, _ => trivial
  | env :: l, hn, hl => by
    obtain ⟨hk, ⟨L, o, hf, hb, ho, hd⟩, hr⟩ := hl
    exact ⟨hk, ⟨L, o, hf, g L hb, (k L (hn L (List.mem_filterMap.mpr ⟨env, List.mem_cons_self, hf⟩))).trans ho, hd⟩,
      frames_but k g (fun b hb => by
        obtain ⟨e, he, q⟩ := List.mem_filterMap.mp hb
        exact hn b (List.mem_filterMap.mpr ⟨e, List.mem_cons_of_mem _ he, q⟩)) hr⟩
theorem frames_up {B h h' : Heap} (up : h.UpToSlots h') : ∀ {l : List Env}, h.FunFrames B l → h'.FunFrames B l
  | [], _ => trivial
  | env :: l, hl => by
    obtain ⟨hk, ⟨L, o, hf, hb, ho, hd⟩, hr⟩ := hl
    obtain ⟨sl, e⟩ := up L o ho hd
    exact ⟨hk, ⟨L, _, hf, hb, e, hd⟩, frames_up up hr⟩
end
section
variable {X : Cx}
/-- what a block lets out: an exception of a call in it -/
abbrev bxe (X : Cx) (s : Shared) (H : Hp) (scope : Scope) (cenv : Env) (fp : List Addr) (E : XK) : Value → Shared → Prop := fun u s' =>
  ∃ σ9 H9 s9, Inv (X.blk s H scope cenv fp) [] σ9 H9 s9 ∧ CX X.prog X.w X.stack H9 s9 E u s'
abbrev blkX (X : Cx) (s : Shared) (H : Hp) (scope : Scope) (cenv : Env) (fp : List Addr) (E : XK) : Cx := (X.blk s H scope cenv fp).tr [] (bxe X s H scope cenv fp E)
theorem toX {pins : List (Addr × Obj)} {σ : L2.St} {H H1 : Hp} {s s1 : Shared} {scope : Scope} {cenv : Env} {fp : List Addr} {E : XK} (I : Inv (X.blk s H scope cenv fp) [] σ H1 s1) : Inv (blkX X s H scope cenv fp E) [] σ H1 s1 := I.toTry _
theorem ofX {pins : List (Addr × Obj)} {σ : L2.St} {H H1 : Hp} {s s1 : Shared} {scope : Scope} {cenv : Env} {fp : List Addr} {E : XK} (I : Inv (blkX X s H scope cenv fp E) pins σ H1 s1) : Inv (X.blk s H scope cenv fp) [] σ H1 s1 :=
  Inv.ofTry (X := X.blk s H scope cenv fp) (pins := []) (pn' := pins) I I.ok.ofTry
/-- a def that may raise, called in such a block -/
theorem passes_blk {s : Shared} {H : Hp} {scope : Scope} {cenv : Env} {fp : List Addr} {E : XK} : Passes (CX X.prog X.w) (blkX X s H scope cenv fp E) E := fun _ σ H1 s1 _ _ I c => ⟨σ, H1, s1, ofX I, c⟩
theorem hide_ne {h : Heap} {C b : Addr} {o : Obj} (n : b ≠ C) (e : h.get? b = some o) : (PySem.W.hideAll h [C]).get? b = some o := PySem.W.hideAll_get _ e fun hm => n (by simpa using hm)
theorem hide_none {h : Heap} {C b : Addr} (e : h.get? b = none) : (PySem.W.hideAll h [C]).get? b = none := by
  cases q : (PySem.W.hideAll h [C]).get? b with
  | none => rfl
  | some o =>
    have z := PySem.W.of_hideAll _ q
    rw [e] at z; cases z
theorem hide_self {h : Heap} {C : Addr} {o : Obj} (e : h.get? C = some o) : (PySem.W.hideAll h [C]).get? C = none := by
  cases q : (PySem.W.hideAll h [C]).get? C with
  | none => rfl
  | some o' => rw [PySem.W.hideAll_none [C] (by simp)] at q; cases q
theorem blk_out {pins : List (Addr × Obj)} {σ : L2.St} {H3 : Hp} {s3 s' : Shared} {scope : Scope} {cenv : Env} {fp : List Addr} {W : WX} {use : Option (Value → Sem Unit)} {Qf : Value → Shared → Prop} {acc u : Value}
    (I3 : Inv X pins σ H3 s3) (hst : X.stack = X.env :: X.outer) (hfl : X.env.frame = some X.env.locals) (tk : Takes X W) (f3 : ∀ b ∈ fp, FpOk X pins H3 b ∧ b < s3.heap.objs.size)
    (cL : cenv.locals = s3.heap.objs.size) (cF : cenv.frame = X.env.frame) (x : bxe X s3 H3 scope cenv fp (fun cls d H' => W cls d σ H') u s') :
    notedBy (model X.prog X.w) X.A cenv (fun e s'' => cpX (model X.prog X.w) X.A X.xe use Qf acc cenv (.error e) s'') u s' := by
  obtain ⟨σ9, H9, s9, I9, a, B, H', cls, d, rfl, fl, hok, ub, na, os, ag, hE⟩ := x
  have I7 : Inv X pins σ H9 s9 := I3.call' (ch := fp) I9.os I9.base I9.hok I9.bare fun b hb => ⟨(f3 b hb).1.2.2.2.1, (f3 b hb).1.2.1, (f3 b hb).1.2.2.2.2.1, (f3 b hb).1.2.2.2.2.2⟩
  have nC : H9 cenv.locals = none := I9.free
  obtain ⟨m, hnC, _⟩ := id I9.loc
  have hnC : s9.heap.Ns cenv.locals m := hnC
  have fC : FpOk X pins H9 cenv.locals := I3.fpOk (Nat.le_of_eq cL.symm) nC
  generalize hCC : cenv.locals = C at nC hnC fC
  obtain ⟨f0, f1, f2, f3', f4, f5⟩ := fC
  have hfr : X.A.frames = some (X.env :: X.outer) := by rw [I3.ok.frames, hst]
  have nCs : C ∉ frs X.stack := fun hm => by
    rcases List.mem_cons.mp (I3.stkSub C hm) with z | z
    · exact f1 z
    · exact f2 z
  show wpAny _ _ (noteFrame (.ref a) cenv) _ _ _
  rw [note_frame cF]
  rw [hst] at fl
  refine HandSPX.looks_onZ Zc.steady hfr hfl fl fun h1 hh1 up1 => ?_
  obtain ⟨oC, esC, epC, hoC, hdC, rC⟩ := id hnC
  have bC : B.get? C = some oC := ub.keep C oC hoC nC nCs
  obtain ⟨k1, k2, k3, k4⟩ := hh1
  have h1C : h1.get? C = some oC := k1 _ _ bC
  have hn1 : h1.Ns C m := hnC.at fun o e => by rw [hoC] at e; cases e; exact h1C
  refine ⟨m, by rw [hCC]; exact hn1, fun h2 sb e' he' => ?_⟩
  rw [hCC] at sb
  have kk : ∀ b, b ≠ C → h2.get? b = h1.get? b := sb.2
  obtain ⟨oe, vs, T, oT, ts, he, hz, hd, hv1, hnT, hTe, hT, hdT, ht3⟩ := k4
  have aC : a ≠ C := fun z => by
    rw [z, h1C] at he; cases he
    rw [hdC] at hd; cases hd
  have TC : T ≠ C := fun z => by
    rw [z, h1C] at hT; cases hT
    rw [hdC] at hdT; cases hdT
  have g1 : ∀ b o, (PySem.W.hideAll B [C]).get? b = some o → B.get? b = some o := fun b o e => PySem.W.of_hideAll _ e
  have g3 : (PySem.W.hideAll B [C]).get? C = none := hide_self bC
  have gn : ∀ b o, (PySem.W.hideAll B [C]).get? b = some o → b ≠ C := fun b o e z => by rw [z, g3] at e; cases e
  have fne : ∀ L ∈ frs (X.env :: X.outer), L ≠ C := fun L hL z => nCs (by rw [hst, ← z]; exact hL)
  have hh2 : HandSPX.HeldZ (PySem.W.hideAll B [C]) (X.env :: X.outer) a (Zc cls d) X.env.locals h2 :=
    ⟨fun b o e => (kk b (gn b o e)).trans (k1 b o (g1 b o e)), hide_none k2, frames_but kk (fun b e => hide_none e) fne k3, ⟨oe, vs, T, oT, ts, (kk a aC).trans he, hz, hd, hv1, hide_none hnT, hTe, (kk T TC).trans hT, hdT, ht3⟩⟩
  have fin : ∀ h4, HandSPX.HeldZ (PySem.W.hideAll B [C]) (X.env :: X.outer) a (Zc cls d) X.env.locals h4 → h2.UpToSlots h4 → X.xe (.ref a) { s' with heap := h4 } := fun h4 hh4 up4 => by
    refine tk _ _ ?_
    have I8 : Inv X pins σ H9 { s9 with heap := PySem.W.hideAll s9.heap [C], toks := s9.toks } := I7.turned (fun b o hb e => hide_ne hb e) nC f1 f3' f4 f5
    obtain ⟨G, r1, r2⟩ := restrict h4 fun b => ((PySem.W.hideAll B [C]).get? b).isSome || decide (b ∈ frs X.stack)
    have st : (PySem.W.hideAll B [C]).StaysIn h4 := hh4.1
    have gB : ∀ b o, (PySem.W.hideAll B [C]).get? b = some o → G.get? b = some o := fun b o e => by
      rw [r1 b (by simp [e])]
      exact st b o e
    have gF : ∀ b, b ∈ frs X.stack → G.get? b = h4.get? b := fun b hb => r1 b (by simp [hb])
    have og : ∀ b o, G.get? b = some o → h4.get? b = some o ∧ (((PySem.W.hideAll B [C]).get? b).isSome = true ∨ b ∈ frs X.stack) := fun b o e => by
      cases q : (((PySem.W.hideAll B [C]).get? b).isSome || decide (b ∈ frs X.stack)) with
      | false => rw [r2 b q] at e; cases e
      | true =>
        rw [r1 b q] at e
        exact ⟨e, by simpa [Bool.or_eq_true] using q⟩
    have s9of : ∀ b o, (PySem.W.hideAll s9.heap [C]).get? b = some o → s9.heap.get? b = some o ∧ b ≠ C := fun b o e => ⟨PySem.W.of_hideAll _ e, fun z => by
      rw [z, hide_self hoC] at e; cases e⟩
    have slots : ∀ b o, s9.heap.get? b = some o → b ∈ frs X.stack → ∃ sl, h4.get? b = some { o with slots := sl } := fun b o e hb => by
      have nb : b ≠ C := fun z => nCs (z ▸ hb)
      obtain ⟨sl, q⟩ := ub.slot b o e hb
      obtain ⟨_, o₀, e₀, hnf⟩ := I7.stack.mem hb
      rw [e] at e₀; cases e₀
      obtain ⟨sl2, q2⟩ := up1 b _ q hnf
      obtain ⟨sl3, q3⟩ := up4 b _ ((kk b nb).trans q2) hnf
      exact ⟨sl3, q3⟩
    have hokB : HOk X.prog X.w H' (PySem.W.hideAll B [C]) := fun b o q => (hok b o q).stay (fun c u hc r => hide_ne (fun z => by
        have nC' : H' C = none := ub.free C oC hoC nC
        rcases hc with hc | hc
        · rw [← hc, z, nC'] at q; cases q
        · rw [z, nC'] at hc; cases hc) r) (fun _ r => r) fun _ _ r => r
    refine ⟨a, PySem.W.hideAll B [C], { s9 with heap := G, gens := s'.gens, drawn := s'.drawn, toks := s'.toks }, pins, σ, H', cls, d, rfl, ?_, fun b o e hb => ?_, Heap.UpToSlots.of_keeps fun b o e => (og b o e).1, .inr (.inr (by rw [hst]; exact hh4)), na, os, ag, hE⟩
    · have un : Un (frs X.stack) [] H9 H' (PySem.W.hideAll s9.heap [C]) G := by
        refine ⟨fun b o e n hb _ => ?_, fun b o e n hb _ => ?_, fun b o e n _ => ub.free b o (s9of b o e).1 n, fun b o e _ => ?_, ub.tups, ub.frzs, ub.tbls⟩
        · obtain ⟨e1, n1⟩ := s9of b o e
          exact gB b o (hide_ne n1 (ub.keep b o e1 n hb))
        · obtain ⟨sl, q⟩ := slots b o (s9of b o e).1 hb
          exact ⟨sl, by rw [gF b hb]; exact q⟩
        · obtain ⟨e1, n1⟩ := s9of b o e
          by_cases hb : b ∈ frs X.stack
          · obtain ⟨sl, q⟩ := slots b o e1 hb
            exact ⟨_, by rw [gF b hb]; exact q⟩
          · obtain ⟨o', q⟩ := ub.there b o e1 hb
            exact ⟨o', gB b o' (hide_ne n1 q)⟩
      have J := I8.call (ch := []) (h' := G) (g' := s'.gens) (t' := s'.toks) (d' := s'.drawn) un (hokB.kept gB) ag (fun _ z => nomatch z)
      exact J
    · obtain ⟨e', h⟩ := og b o e
      rcases h with h | h
      · obtain ⟨o', q⟩ := Option.isSome_iff_exists.mp h
        have z := st b o' q
        rw [e'] at z; cases z
        exact q
      · exact absurd h hb
  unfold PySem.passOn
  refine wpAny_bind (wpAny_field ((kk a aC).trans he) hd hv1 ?_)
  rw [if_neg (show ¬ ((Value.ref T == Value.none) = true) from by simp)]
  rw [he', cF, hfl]
  first
    | exact wpAny_bind (HandSPX.setFlight_onZ hh2 fun h4 hh4 up4 => wpAny_throw (fin h4 hh4 up4))
    | exact wpAny_bind (wpAny_pure (wpAny_bind (HandSPX.setFlight_onZ hh2 fun h4 hh4 up4 => wpAny_throw (fin h4 hh4 up4))))
theorem thnX {α : Type} {t : Sem α} {Q Q' : α → Shared → Prop} {M : Model} {A : Around} {E E' : Value → Shared → Prop} {s : Shared} (e : ∀ u s, E' u s → E u s) (h : wpAny M A t Q E' s) (hQ : ∀ a s, Q a s → Q' a s) : wpAny M A t Q' E s := wpAny_mono h hQ e
theorem lc_coreX {pins : List (Addr × Obj)} {s : Shared} {σ : L2.St} {H : Hp} {Q : VK} {elt tg iter : Expr} {ifs : List Expr} {scope : Scope} {own : List (Str × Nat)} {pos pos' : Pos} {wi : TI} {g : TG} {tt : TT} {te : XK → TE} {Wx : WX} {use : Option (Value → Sem Unit)} {Qf : Value → Shared → Prop}
    (hst : X.stack = X.env :: X.outer) (hfl : X.env.frame = some X.env.locals) (tk : Takes X Wx) (hc : X.calm = true) (hN : X.N.Nodup) (I : Inv X pins σ H s) (hi : PI X tg iter wi) (ok : BlkOk X.N X.env.scope scope own)
    (hg : ∀ (s : Shared) (H : Hp) (C : Addr) (cl : List (Str × Addr)) (fp : List Addr) (E : XK), PG (blkX X s H scope (compEnvC scope cl C X.env) fp E) tg g) (ht : ∀ (s : Shared) (H : Hp) (C : Addr) (cl : List (Str × Addr)) (fp : List Addr) (E : XK), PTs (blkX X s H scope (compEnvC scope cl C X.env) fp E) ifs tt)
    (he : ∀ (s : Shared) (H : Hp) (C : Addr) (cl : List (Str × Addr)) (fp : List Addr) (E : XK), PE (blkX X s H scope (compEnvC scope cl C X.env) fp E) elt (te E)) (hs : ∀ x, foldedSetIterable iter X.env x = pure x)
    (h : tLc wi g tt (te fun cls d H' => Wx cls d σ H') (own.map (·.2)) σ H Q)
    (hRR : ∀ D C s' m H', Inv X pins σ H' s' → Q (.ref D) H' → s'.heap.Ns C m → FpOk X pins H' C → ∀ cenv : Env, cenv.locals = C → cpX (model X.prog X.w) X.A X.xe use Qf (.ref D) cenv (.ok .next) s') :
    wpAny (model X.prog X.w) X.A (comprehension (.ListComp elt [⟨tg, iter, ifs, 0⟩] scope pos) scope X.env pos' (newList []) false (eval iter X.env) use) Qf X.xe s := by
  have hfree : ∀ y ∈ scope.names, y.2 = .free → ∃ c, X.env.cells.lookup y.1 = some c := fun y hy e => by
    rcases ok.free y hy e with k | k
    · exact I.ok.has _ (.inl k)
    · exact I.ok.has _ (.inr k)
  refine comprehension_X (use := use) rfl hs (closure_ok hfree) ok.kind (fun y hy e => by rw [ok.uniq y hy, e])
    (thn (hi.run pins s σ H _ I h) fun xv s1 hx => thn hx fun itv s2 h2 => ?_)
  obtain ⟨it, fp, tn, J, H2, e, I2, T, st2, f2, q⟩ := h2
  subst e
  refine wpAny_newObj_type (newEnv_comp ?_) (by show 0 ≤ sizeLine; decide)
  generalize hD : s2.heap.objs.size = D
  have hDn : H2 D = none := I2.hok.fresh (Nat.le_of_eq hD)
  obtain ⟨W, ⟨m0, w0⟩, turn⟩ := q D hDn
  -- the new list
  generalize hs3 : ({ s2 with heap := s2.heap.push { cls := .type "list", data := .seq ([] : List Value).toArray } } : Shared) = s3
  have I3 : Inv X pins σ (upd H2 D (.lst [])) s3 := by
    rw [← hs3]
    refine I2.laid (t' := s2.toks) (fun b o e => Heap.get?_push_of_some _ e) (Nat.le_of_eq hD) ⟨Nat.zero_le _, [], 0, .nil, ?_⟩
    rw [← hD]
    exact Heap.get?_push_size _ rfl
  have h3 : s3.heap = s2.heap.push { cls := .type "list", data := .seq ([] : List Value).toArray } := by rw [← hs3]
  have sz : ∀ b ∈ fp, b < s2.heap.objs.size := fun b hb => by
    obtain ⟨o, e, _⟩ := T.obj _ _ st2 b hb
    exact Heap.lt_size e
  have f3 : ∀ b ∈ fp, FpOk X pins (upd H2 D (.lst [])) b ∧ b < s3.heap.objs.size := fun b hb => by
    have hlt := sz b hb
    refine ⟨⟨?_, (f2 b hb).2⟩, by rw [h3, Heap.size_push]; exact Nat.lt_succ_of_lt hlt⟩
    rw [upd_ne (by rw [← hD]; exact Nat.ne_of_lt hlt)]
    exact (f2 b hb).1
  have st3 : tn 0 s3.heap := T.keep _ _ _ st2 fun b _ o e => by rw [h3]; exact Heap.get?_push_of_some _ e
  have I4 := toX (pins := pins) (σ := wipe σ (own.map (·.2))) (E := fun cls d H' => Wx cls d σ H') (block_start I3 ok hN f3)
  have pg := hg s3 (upd H2 D (.lst [])) s3.heap.objs.size (cellsFrom (s3.heap.objs.size + 1) scope.names (cloFrom X.env.cells scope.names [])) fp fun cls d H' => Wx cls d σ H'
  have pt := ht s3 (upd H2 D (.lst [])) s3.heap.objs.size (cellsFrom (s3.heap.objs.size + 1) scope.names (cloFrom X.env.cells scope.names [])) fp fun cls d H' => Wx cls d σ H'
  have pe := he s3 (upd H2 D (.lst [])) s3.heap.objs.size (cellsFrom (s3.heap.objs.size + 1) scope.names (cloFrom X.env.cells scope.names [])) fp fun cls d H' => Wx cls d σ H'
  show codeAny _ _ (.compStart (.ListComp elt [⟨tg, iter, ifs, 0⟩] scope pos) 0 (.ref it) (.ref D) (compEnvC scope (cellsFrom (s3.heap.objs.size + 1) scope.names (cloFrom X.env.cells scope.names [])) s3.heap.objs.size X.env)) (cpX (model X.prog X.w) X.A X.xe use Qf (.ref D) (compEnvC scope (cellsFrom (s3.heap.objs.size + 1) scope.names (cloFrom X.env.cells scope.names [])) s3.heap.objs.size X.env)) { s3 with heap := pushCells (s3.heap.push { cls := .type "dict", data := .dict #[] }) scope.names }
  have nfp : ∀ b ∈ fp, (upd H2 D (.lst [])) b = none := fun b hb => (f3 b hb).1.1
  generalize hce : compEnvC scope (cellsFrom (s3.heap.objs.size + 1) scope.names (cloFrom X.env.cells scope.names [])) s3.heap.objs.size X.env = ce at I4 pg pt pe ⊢
  have cL : ce.locals = s3.heap.objs.size := by subst hce; rfl
  have cF : ce.frame = X.env.frame := by subst hce; rfl
  generalize hH3 : upd H2 D (.lst []) = H3 at I3 I4 pg pt pe w0 nfp f3
  generalize hs4 : ({ s3 with heap := pushCells (s3.heap.push { cls := .type "dict", data := .dict #[] }) scope.names } : Shared) = s4 at I4 ⊢
  have st4 : tn 0 s4.heap := T.keep _ _ _ st3 fun b _ o e => by rw [← hs4]; exact pushCells_keeps _ _ _ _ (Heap.get?_push_of_some _ e)
  have stat : ∀ {σ' : L2.St} {H' : Hp} {s' : Shared}, Inv (blkX X s3 H3 scope ce fp fun cls d H' => Wx cls d σ H') [] σ' H' s' → (∀ b ∈ fp, H' b = none) → ∀ b ∈ fp, FpOk (blkX X s3 H3 scope ce fp fun cls d H' => Wx cls d σ H') [] H' b := fun {σ' H' s'} I' hn b hb =>
    ⟨hn b hb, (I'.ok.exf b hb).1, I'.ok.exfs b hb, .inl hb, fun x c e => (I'.ok.exf b hb).2 x c e, fun p hp => absurd (show p ∈ ([] : List (Addr × Obj)) ++ [] from hp) (by simp)⟩
  have err : ∀ u s', bxe X s3 H3 scope ce fp (fun cls d H' => Wx cls d σ H') u s' → notedBy (model X.prog X.w) X.A ce (fun e s'' => cpX (model X.prog X.w) X.A X.xe use Qf (.ref D) ce (.error e) s'') u s' := fun u s' x => blk_out I3 hst hfl tk f3 cL cF x
  have loop : codeAny (model X.prog X.w) X.A (.compLoop (.ListComp elt [⟨tg, iter, ifs, 0⟩] scope pos) 0 (.ref it) (.ref D) ce) (cpX (model X.prog X.w) X.A X.xe use Qf (.ref D) ce) s4 := by
    refine compLoop_any (fun n s' => ∃ i H', Inv (blkX X s3 H3 scope ce fp fun cls d H' => Wx cls d σ H') [] (wipe σ (own.map (·.2))) H' s' ∧ tn i s'.heap ∧ (∀ b ∈ fp, H' b = none) ∧ W i n H') ?_ m0 ⟨0, H3, I4, st4, nfp, w0⟩
    rintro n s5 ⟨i, H5, I5, st5, n5, w5⟩
    rcases turn i n H5 w5 with ⟨stop, qq⟩ | ⟨go, Nx, hNx, step⟩
    · have td := T.done (blkX X s3 H3 scope ce fp fun cls d H' => Wx cls d σ H') rfl rfl rfl hc i [] s5 _ H5 (fun _ _ => False) I5 (stat I5 n5) st5 stop
      refine thnF td fun r s6 ⟨hr, I6⟩ => ?_
      subst hr
      -- back in the def's context
      have I7 : Inv X pins σ H5 s6 := I3.call' (ch := fp) I6.os I6.base I6.hok I6.bare fun b hb => ⟨(f3 b hb).1.2.2.2.1, (f3 b hb).1.2.1, (f3 b hb).1.2.2.2.2.1, (f3 b hb).1.2.2.2.2.2⟩
      have nC : H5 s3.heap.objs.size = none := by
        have z : H5 ce.locals = none := I6.free
        rw [cL] at z
        exact z
      obtain ⟨m, hn, _⟩ := I6.loc
      have hn : s6.heap.Ns ce.locals m := hn
      rw [cL] at hn
      exact hRR D s3.heap.objs.size s6 m H5 I7 qq hn (I3.fpOk (Nat.le_refl _) nC) ce cL
    · have ti := T.item (blkX X s3 H3 scope ce fp fun cls d H' => Wx cls d σ H') rfl rfl rfl hc i [] s5 _ H5 (fun _ _ => False) I5 (stat I5 n5) st5 go
      refine thnF ti fun r s6 ⟨u, hr, h6⟩ => ?_
      subst hr
      refine thnF h6 fun _ s7 ⟨x, H7, I7, r7, y7, st7, n7⟩ => ?_
      have I7' := I7.pinned (stat I7 n7) (T.obj _ _ st7)
      refine thnX err (pg.run _ s7 _ H7 x u _ I7' r7 (step x H7 y7)) fun _ s8 ⟨σ8, H8, I8, hw8, q8⟩ => ?_
      refine thnX err (pt.run _ s8 σ8 H8 _ I8 q8) fun b s9 ⟨H9, I9, q9⟩ => ?_
      -- the turn's end
      have fin : ∀ {s' : Shared} {H' : Hp}, Inv (blkX X s3 H3 scope ce fp fun cls d H' => Wx cls d σ H') ([] ++ pinsAt fp s7.heap) σ8 H' s' → Nx H' → ∃ m, m < n ∧ ∃ i H', Inv (blkX X s3 H3 scope ce fp fun cls d H' => Wx cls d σ H') [] (wipe σ (own.map (·.2))) H' s' ∧ tn i s'.heap ∧ (∀ b ∈ fp, H' b = none) ∧ W i m H' := fun {s' H'} I' nx => by
        obtain ⟨m', hm, w'⟩ := hNx H' nx
        have pin' : ∀ b ∈ fp, ∀ o, s7.heap.get? b = some o → s'.heap.get? b = some o ∧ H' b = none := fun b hb o e =>
          let z := I'.pin (b, o) (List.mem_append_right _ (List.mem_append_right _ (mem_pinsAt hb e)))
          ⟨z.1, z.2.1⟩
        have hl : (wipe σ (own.map (·.2))).length = σ8.length := by rw [← hw8, wipe_length]
        refine ⟨m', hm, i + 1, H', (I'.unpinned (pins := [])).weak hl (fun j v e => ?_), T.keep _ _ _ st7 fun b hb o e => (pin' b hb o e).1, fun b hb => ?_, w'⟩
        · rw [← hw8] at e
          exact (wipe_some e).1
        · obtain ⟨o, e, _⟩ := T.obj _ _ st7 b hb
          exact (pin' b hb o e).2
      cases b with
      | false =>
        simp only [Bool.false_eq_true, if_false] at q9 ⊢
        exact fin I9 q9
      | true =>
        simp only [if_true] at q9 ⊢
        refine thnX err (pe.run _ s9 σ8 H9 _ I9 q9) fun z s10 ⟨yv, H10, I10, r10, acc, hD10, hz10, nx⟩ => ?_
        exact app_ok (X := blkX X s3 H3 scope ce fp fun cls d H' => Wx cls d σ H') I10 hD10 hz10 r10 fun s11 I11 => fin I11 nx
  exact codeAny_compStart_list loop (T.self X.A 0 _ _ _ st4 loop)
/-- [e for x in xs if ..], where e may raise; te tells what e asks, given what is wished of an exception -/
theorem pe_lcX {elt tg iter : Expr} {ifs : List Expr} {scope : Scope} {own : List (Str × Nat)} {pos : Pos} {wi : TI} {g : TG} {tt : TT} {te : XK → TE} {Wx : WX} (hst : X.stack = X.env :: X.outer) (hfl : X.env.frame = some X.env.locals) (tk : Takes X Wx) (hc : X.calm = true) (hN : X.N.Nodup) (hi : PI X tg iter wi) (ok : BlkOk X.N X.env.scope scope own)
    (hg : ∀ (s : Shared) (H : Hp) (C : Addr) (cl : List (Str × Addr)) (fp : List Addr) (E : XK), PG (blkX X s H scope (compEnvC scope cl C X.env) fp E) tg g) (ht : ∀ (s : Shared) (H : Hp) (C : Addr) (cl : List (Str × Addr)) (fp : List Addr) (E : XK), PTs (blkX X s H scope (compEnvC scope cl C X.env) fp E) ifs tt)
    (he : ∀ (s : Shared) (H : Hp) (C : Addr) (cl : List (Str × Addr)) (fp : List Addr) (E : XK), PE (blkX X s H scope (compEnvC scope cl C X.env) fp E) elt (te E)) (hs : ∀ x, foldedSetIterable iter X.env x = pure x := by intro _; rfl) :
    PE X (.ListComp elt [⟨tg, iter, ifs, 0⟩] scope pos) (fun σ H Q => tLc wi g tt (te fun cls d H' => Wx cls d σ H') (own.map (·.2)) σ H Q) := by
  refine ⟨fun pins s σ H Q I h => ?_⟩
  rw [eval_ListComp]
  refine lc_coreX hst hfl tk hc hN I hi ok hg ht he hs h fun D C s' m H' I' q hn f cenv cl => ⟨m, by rw [cl]; exact hn, fun h'' sb => ?_⟩
  rw [cl] at sb
  obtain ⟨f0, f1, f2, f3, f4, f5⟩ := f
  exact ⟨.ref D, H', I'.turned (t' := s'.toks) (fun b o hb e => (sb.2 b hb).trans e) f0 f1 f3 f4 f5, rfl, q⟩
/-- name = [..] on one line, the name a local -/
theorem ps_setLcX {i : Nat} {y : Str} {py : Pos} {elt tg iter : Expr} {ifs : List Expr} {scope : Scope} {own : List (Str × Nat)} {pos spos : Pos} {wi : TI} {g : TG} {tt : TT} {te : XK → TE} {Wx : WX} (hst : X.stack = X.env :: X.outer) (hfl : X.env.frame = some X.env.locals) (tk : Takes X Wx) (hc : X.calm = true) (hN : X.N.Nodup) (hy : X.N[i]? = some y) (hyl : X.env.scope.names.lookup y = some .local)
    (hsw : swapsWith (.ListComp elt [⟨tg, iter, ifs, 0⟩] scope pos) (some (.Name y py)) spos.line X.env = pure true) (hi : PI X tg iter wi) (ok : BlkOk X.N X.env.scope scope own)
    (hg : ∀ (s : Shared) (H : Hp) (C : Addr) (cl : List (Str × Addr)) (fp : List Addr) (E : XK), PG (blkX X s H scope (compEnvC scope cl C X.env) fp E) tg g) (ht : ∀ (s : Shared) (H : Hp) (C : Addr) (cl : List (Str × Addr)) (fp : List Addr) (E : XK), PTs (blkX X s H scope (compEnvC scope cl C X.env) fp E) ifs tt)
    (he : ∀ (s : Shared) (H : Hp) (C : Addr) (cl : List (Str × Addr)) (fp : List Addr) (E : XK), PE (blkX X s H scope (compEnvC scope cl C X.env) fp E) elt (te E)) (hs : ∀ x, foldedSetIterable iter X.env x = pure x := by intro _; rfl) :
    PS X (.Assign [.Name y py] (.ListComp elt [⟨tg, iter, ifs, 0⟩] scope pos) spos) (tAsg (fun σ H Q => tLc wi g tt (te fun cls d H' => Wx cls d σ H') (own.map (·.2)) σ H Q) (gName i)) := by
  refine ⟨fun pins s σ H D I h => ?_⟩
  rw [exec_Assign_Name_used _ _ _ _ hsw]
  refine wpAny_bind (wpAny_standAt (wpAny_bind ?_))
  show wpAny _ X.A (do let _ ← comprehension (.ListComp elt [⟨tg, iter, ifs, 0⟩] scope pos) scope X.env (firstIterPos [⟨tg, iter, ifs, 0⟩] pos) (newList []) false (eval iter X.env) (some (assign (.Name y py) X.env))) _ _ s
  have h : tLc wi g tt (te fun cls d H' => Wx cls d σ H') (own.map (·.2)) σ H (fun x H1 => gName i x σ H1 D.nx) := h
  refine wpAny_bind (thn (lc_coreX (Qf := fun _ s' => SP X pins D .next s') hst hfl tk hc hN I hi ok hg ht he hs h fun L C s' m H' I' q hn f cenv cl => ?_) fun _ s' hq => wpAny_pure (wpAny_pure hq))
  show wpAny _ _ (assign (.Name y py) X.env (.ref L)) _ _ _
  refine wpAny_assign_Name (store_ok2 (v := V.ref L) I' hN hy (.inl hyl) rfl (fun s2 I2 ⟨a, sb, ha⟩ => ?_) (.inr hyl))
  obtain ⟨f0, f1, f2, f3, f4, f5⟩ := f
  have haC : C ≠ a := by
    rcases ha with z | z
    · rw [z]; exact f1
    · exact fun e => f4 y a z e.symm
  refine ⟨m, by rw [cl]; exact hn.sameBut sb haC, fun h3 sb3 => ?_⟩
  rw [cl] at sb3
  exact ⟨_, H', I2.turned (t' := s2.toks) (fun b o hb e => (sb3.2 b hb).trans e) f0 f1 f3 f4 f5, q⟩
end
end Kx

namespace Kx
open PySem PySem.Spec PyProof.Rows L2 TL
structure ReadyX (P : Program) (w : World) (K : PySem.W.Frag) (mg : Str → Option Value) (base : Heap) (k : Nat) (x : Str) (ps : List Str) (sp : Sp) : Prop where
  ex : ∃ f fd, FnOk P w K mg base (L2.CX P w) k f fd ps sp ∧ Binds K fd ps [] ∧ mg x = some (.ref f) ∧ PySem.W.keepIn K (.ref f) = true
theorem pe_fnX {X : Cx} {W : WX} {k : Nat} {x : Str} {ps : List Str} {sp : Sp} {p pos : Pos} {e : Expr} {es : List Expr} {t : TA} (G : ReadyX X.prog X.w X.K X.mg X.base k x ps sp) (hr : Room k X.A) (tk : Takes X W) (ha : PA X (e :: es) t) (hg : Gl X x := by rfl)
    (hdb : (x == ("__debug__" : Str)) = false := by decide) (he : starEach (e :: es) X.env = (false, eval e X.env) :: starEach es X.env := by rfl) (hpl : (backTo pos (starEach es X.env)).any (·.1) = false := by rfl) :
    PE X (.Call (.Name x p) (e :: es) [] pos) (tCallS sp (WE W) t) := by
  obtain ⟨f, fd, h, hb, hm, hk⟩ := G.ex
  exact pe_callS h hr hg hm hk hb (fun σ => passAt tk σ) ha hdb he hpl
/-- where what is raised is not told of the slots -/
theorem pe_fnE {X : Cx} {E : XK} {k : Nat} {x : Str} {ps : List Str} {sp : Sp} {p pos : Pos} {e : Expr} {es : List Expr} {t : TA} (G : ReadyX X.prog X.w X.K X.mg X.base k x ps sp) (hr : Room k X.A) (hx : Passes (L2.CX X.prog X.w) X E) (ha : PA X (e :: es) t) (hg : Gl X x := by rfl)
    (hdb : (x == ("__debug__" : Str)) = false := by decide) (he : starEach (e :: es) X.env = (false, eval e X.env) :: starEach es X.env := by rfl) (hpl : (backTo pos (starEach es X.env)).any (·.1) = false := by rfl) :
    PE X (.Call (.Name x p) (e :: es) [] pos) (tCall sp [] E t) := by
  obtain ⟨f, fd, h, hb, hm, hk⟩ := G.ex
  exact pe_call h hr hg hm hk hb .nil hx ha hdb he hpl
/-- in a block of a comprehension -/
theorem pe_fnB {X : Cx} {k : Nat} {x : Str} {ps : List Str} {sp : Sp} {p pos : Pos} {e : Expr} {es : List Expr} {t : TA} {s : Shared} {H : Hp} {scope : Scope} {cenv : Env} {fp : List Addr} {E : XK} (G : ReadyX X.prog X.w X.K X.mg X.base k x ps sp) (hr : Room k X.A)
    (ha : PA (blkX X s H scope cenv fp E) (e :: es) t) (hg : Gl (blkX X s H scope cenv fp E) x)
    (hdb : (x == ("__debug__" : Str)) = false := by decide) (he : starEach (e :: es) cenv = (false, eval e cenv) :: starEach es cenv := by rfl) (hpl : (backTo pos (starEach es cenv)).any (·.1) = false := by rfl) :
    PE (blkX X s H scope cenv fp E) (.Call (.Name x p) (e :: es) [] pos) (tCall sp [] E t) := by
  obtain ⟨f, fd, h, hb, hm, hk⟩ := G.ex
  exact pe_call (X := blkX X s H scope cenv fp E) h hr hg hm hk hb .nil passes_blk ha hdb he hpl
/-- a def that may raise, called where it does not -/
theorem pe_fnN {X : Cx} {k : Nat} {x : Str} {ps : List Str} {sp : Sp} {p pos : Pos} {e : Expr} {es : List Expr} {t : TA} (G : ReadyX X.prog X.w X.K X.mg X.base k x ps sp) (hr : Room k X.A) (ha : PA X (e :: es) t) (hg : Gl X x := by rfl)
    (hdb : (x == ("__debug__" : Str)) = false := by decide) (he : starEach (e :: es) X.env = (false, eval e X.env) :: starEach es X.env := by rfl) (hpl : (backTo pos (starEach es X.env)).any (·.1) = false := by rfl) :
    PE X (.Call (.Name x p) (e :: es) [] pos) (tCall sp [] E0 t) := by
  obtain ⟨f, fd, h, hb, hm, hk⟩ := G.ex
  exact pe_call h hr hg hm hk hb .nil (fun _ _ _ _ _ _ _ ⟨_, _, _, _, _, _, _, _, _, _, _, _, z⟩ => z.elim) ha hdb he hpl
/-- a method of the class at C -/
structure ReadyM (P : Program) (w : World) (K : PySem.W.Frag) (mg : Str → Option Value) (base : Heap) (C : Addr) (k : Nat) (m : Str) (ps : List Str) (sp : Sp) : Prop where
  ex : ∃ f fd, FnOk P w K mg base (L2.CX P w) k f fd ps sp ∧ Binds K fd ps [] ∧ Meth K C m f
theorem pe_m {X : Cx} {E : XK} {C : Addr} {k : Nat} {m : Str} {ps : List Str} {sp : Sp} {apos pos : Pos} {o e : Expr} {es : List Expr} {ta : TE} {t : TA} {pl : Sem Bool} (G : ReadyM X.prog X.w X.K X.mg X.base C k m ps sp) (c : Cls X.K C) (hr : Room k X.A) (hx : Passes (L2.CX X.prog X.w) X E) (he : PE X o ta) (ha : PA X (e :: es) t)
    (hst : starEach (e :: es) X.env = (false, eval e X.env) :: starEach es X.env := by rfl) (hpl : (backTo pos (starEach es X.env)).any (·.1) = false := by rfl)
    (ht : eval (.Call (.Attribute o m apos) (e :: es) [] pos) X.env = (do
      let ov ← eval o X.env
      standAt apos.atName
      let (f, first) ← holding [ov] (getMethod ov m pl)
      callWith pos f first (backTo pos (starEach (e :: es) X.env)) (backToKw pos (keywordEach [] X.env))) := by rfl) :
    PE X (.Call (.Attribute o m apos) (e :: es) [] pos) (tMeth C m sp [] E ta t) := by
  obtain ⟨f, fd, F, hb, hm⟩ := G.ex
  exact pe_meth he c hm F hr hb .nil hx ha hst hpl ht
theorem pe_m0' {X : Cx} {E : XK} {C : Addr} {k : Nat} {m : Str} {ps : List Str} {sp : Sp} {apos pos : Pos} {o : Expr} {ta : TE} {pl : Sem Bool} (G : ReadyM X.prog X.w X.K X.mg X.base C k m ps sp) (c : Cls X.K C) (hr : Room k X.A) (hx : Passes (L2.CX X.prog X.w) X E) (he : PE X o ta)
    (ht : eval (.Call (.Attribute o m apos) [] [] pos) X.env = (do
      let ov ← eval o X.env
      standAt apos.atName
      let (f, first) ← holding [ov] (getMethod ov m pl)
      callWith pos f first (backTo pos (starEach [] X.env)) (backToKw pos (keywordEach [] X.env))) := by rfl) :
    PE X (.Call (.Attribute o m apos) [] [] pos) (tMeth C m sp [] E ta tNil) := by
  obtain ⟨f, fd, F, hb, hm⟩ := G.ex
  exact pe_meth0 he c hm F hr hb .nil hx ht
/-- the errors of a def's own calls go on -/
theorem onward {X : Cx} {E : XK} (tk : Takes X (fun cls d _ H => E cls d H)) : Passes (L2.CX X.prog X.w) X E := passes_call tk fun _ _ _ _ h => h
theorem cut_map (xs : List Int) (lo hi : Option Int) : ∃ ys : List Int, cutV (xs.map V.int) lo hi = ys.map V.int := by
  unfold cutV
  rw [← List.map_drop, ← List.map_take]
  exact ⟨_, rfl⟩
theorem iteNB {c : Bool} {A B : Prop} (h : c = true) (q : B) : if (!c) = true then A else B := by
  rw [h]
  exact q
theorem next_it {nx : L2.St → Hp → Prop} {rt : VK} {bk ct : L2.St → Hp → Prop} {σ : L2.St} {H : Hp} (h : nx σ H) : tNext ⟨nx, rt, bk, ct⟩ σ H := h
theorem seq_set {te : TE} {i : Nat} {u : TS} {D : Ends} {σ : L2.St} {H : Hp} (h : te σ H fun x H1 => u D (σ.set i (some x)) H1) : tSeq (tAsg te (gName i)) u D σ H := h
theorem seq_it {t : TS} {u : TS} {D : Ends} {σ : L2.St} {H : Hp} (h : t { D with nx := fun σ2 H2 => u D σ2 H2 } σ H) : tSeq t u D σ H := h
mutual
theorem Dp.same' {K : PySem.W.Frag} {H H' : Hp} (h : Same H H') : ∀ {v : V} {d : PyData}, Dp K H v d → Dp K H' v d
  | _, _, .non => .non
  | _, _, .bl b => .bl b
  | _, _, .int i => .int i
  | _, _, .str x => .str x
  | _, _, .lst q r => .lst (Same.sqL h q) (DpAll.same' h r)
  | _, _, .tup q r => .tup (Same.sqT h q) (DpAll.same' h r)
theorem DpAll.same' {K : PySem.W.Frag} {H H' : Hp} (h : Same H H') : ∀ {vs : List V} {ds : List PyData}, DpAll K H vs ds → DpAll K H' vs ds
  | _, _, .nil => .nil
  | _, _, .cons q r => .cons (Dp.same' h q) (DpAll.same' h r)
end
theorem refl_of {d : PyData} (h : SeqAt.shaped d = true) : PyData.eqv d d = true := SeqAt.eqv_refl d (SeqAt.canLay_of_shaped h)
theorem join_len (s : Nat) : ∀ ps : List (List Nat), (joinL [s] ps).length ≤ (ps.map List.length).sum + ps.length
  | [] => Nat.zero_le _
  | [p] => by simp [joinL]
  | p :: q :: r => by
    have := join_len s (q :: r)
    show (p ++ ([s] ++ joinL [s] (q :: r))).length ≤ _
    simp only [List.length_append, List.length_cons, List.map_cons, List.sum_cons, List.length_nil] at this ⊢
    omega
theorem tl_joinB (ws : List Str) : tl (Txt.join " " ws) = joinL [32] (ws.map tl) := by rw [join_eq, tl_join, tl_blank]
theorem tl_joinF (ws : List Str) : tl (Txt.join "\n" ws) = joinL [10] (ws.map tl) := by rw [join_eq, tl_join, tl_feed]
theorem map_mk_tl (ws : List Str) : (ws.map tl).map mkS = ws := by
  rw [List.map_map]
  exact (List.map_congr_left fun a _ => mk_tl a).trans (List.map_id' ws)
theorem lines_join {ws : List Str} (hne : ws ≠ []) (h : ∀ z ∈ ws, 10 ∉ tl z) : linesOf (Txt.join "\n" ws) = ws := by
  unfold linesOf
  rw [tl_joinF, spl_join (fun e => hne (List.map_eq_nil_iff.mp e)) (fun p hp => by
    obtain ⟨z, hz, rfl⟩ := List.mem_map.mp hp
    exact h z hz), map_mk_tl]
theorem joinL_mem {s c : Nat} : ∀ {ps : List (List Nat)}, c ∈ joinL [s] ps → c = s ∨ ∃ p ∈ ps, c ∈ p
  | [], h => by cases h
  | [p], h => .inr ⟨p, List.mem_cons_self, h⟩
  | p :: q :: r, h => by
    have h : c ∈ p ++ ([s] ++ joinL [s] (q :: r)) := h
    rcases List.mem_append.mp h with h | h
    · exact .inr ⟨p, List.mem_cons_self, h⟩
    · rcases List.mem_append.mp h with h | h
      · exact .inl (List.mem_singleton.mp h)
      · rcases joinL_mem h with h | ⟨x, hx, h⟩
        · exact .inl h
        · exact .inr ⟨x, List.mem_cons_of_mem _ hx, h⟩
theorem sum_le {α : Type} {g : α → Nat} {c : Nat} : ∀ {l : List α}, (∀ x ∈ l, g x ≤ c) → (l.map g).sum ≤ l.length * c
  | [], _ => by simp
  | x :: r, h => by
    have h1 := h x List.mem_cons_self
    have h2 := sum_le (l := r) fun y hy => h y (List.mem_cons_of_mem _ hy)
    rw [List.map_cons, List.sum_cons, List.length_cons, Nat.succ_mul]
    omega
end Kx

namespace Kx
open PySem PySem.Spec PyProof.Rows L2 TL
/-! ### pieces, as the program cuts them -/
def isLet (c : Nat) : Bool := (decide (97 ≤ c) && decide (c ≤ 122)) || decide (c = 95)
def isRun (c : Nat) : Bool := isLet c || isFig c
def runLen (l : List Nat) : Nat := (l.takeWhile isRun).length
def owns : List Str := ["read", "filter", "where", "map", "to", "as", "fold", "by", "join", "union", "unlike", "sort", "first", "up", "down", "answer", "and", "or", "not", "mod", "length", "int", "text", "count", "sum", "least", "greatest", "mean"]
def longs : List Str := ["!=", "<=", ">="]
def shorts : List Nat := [40, 41, 44, 61, 60, 62, 43, 45, 42, 47, 58]
def isNumB (l : List Nat) : Bool := decide (l = [48]) || (decide (l.length ≤ 18) && decide (l.head? ≠ some 48) && l.all isFig)
inductive PV where
  | tx (z : Str)
  | nm (n : Nat)
  deriving DecidableEq
structure Pc where
  kind : Str
  val : PV
  col : Nat
  deriving DecidableEq
/-- the piece that begins a text: its kind, its value, how many signs it has -/
def pcAt (l : List Nat) : Option (Str × PV × Nat) :=
  match l with
  | [] => none
  | c :: r =>
    if isLet c = true then
      (if mkS (l.takeWhile isRun) ∈ owns then some ("own", .tx (mkS (l.takeWhile isRun)), runLen l) else some ("name", .tx (mkS (l.takeWhile isRun)), runLen l))
    else if isFig c = true then
      (if isNumB (l.takeWhile isRun) = true then some ("number", .nm (NumText.digitsVal (l.takeWhile isRun)), runLen l) else none)
    else if c = 34 then
      (if 34 ∈ r then some ("quoted", .tx (mkS (r.takeWhile fun x => decide (x ≠ 34))), (r.takeWhile fun x => decide (x ≠ 34)).length + 2) else none)
    else if mkS (l.take 2) ∈ longs then some ("own", .tx (mkS (l.take 2)), 2)
    else if c ∈ shorts then some ("own", .tx (mkS [c]), 1)
    else none
def isBr (k : Str) (v : PV) : Bool := decide (k = "own") && (decide (v = .tx "(") || decide (v = .tx ")"))
/-- the pieces of what is left of a line: at tells how many signs stand ahead, many how many pieces but brackets, all how many signs the line has -/
def pcs (all : Nat) : Nat → Nat → Nat → List Nat → Except Nat (List Pc)
  | 0, _, _, _ => .ok []
  | f + 1, at_, many, l => match l with
    | [] => .ok [⟨"end", .tx "", all + 1⟩]
    | c :: r =>
      if c = 35 then .ok [⟨"end", .tx "", all + 1⟩]
      else if c = 32 then pcs all f (at_ + 1) many r
      else match pcAt (c :: r) with
        | none => .error (at_ + 1)
        | some (k, v, n) =>
          if 300 < (if isBr k v = true then many else many + 1) then .error (at_ + 1)
          else match pcs all f (at_ + n) (if isBr k v = true then many else many + 1) ((c :: r).drop n) with
            | .error e => .error e
            | .ok ps => .ok (⟨k, v, at_ + 1⟩ :: ps)
def piecesOf (z : Str) : Except Nat (List Pc) := pcs z.length (z.length + 1) 0 0 (tl z)
theorem runLen_pos {c : Nat} {r : List Nat} (h : isRun c = true) : 0 < runLen (c :: r) := by
  unfold runLen
  rw [List.takeWhile_cons, h]
  exact Nat.succ_pos _
theorem runLen_le (l : List Nat) : runLen l ≤ l.length := by
  unfold runLen
  exact (List.takeWhile_prefix _).length_le
theorem pcAt_pos {l : List Nat} {k : Str} {v : PV} {n : Nat} (h : pcAt l = some (k, v, n)) : 0 < n ∧ n ≤ l.length + 1 := by
  unfold pcAt at h
  match l with
  | [] => cases h
  | c :: r =>
    simp only at h
    split at h
    · rename_i hc
      have hp := runLen_pos (c := c) (r := r) (by unfold isRun; rw [hc]; rfl)
      have hl := runLen_le (c :: r)
      split at h <;> (obtain ⟨-, -, rfl⟩ := (by simpa using h : _ ∧ _ ∧ _); omega)
    · split at h
      · rename_i hc
        have hp := runLen_pos (c := c) (r := r) (by unfold isRun; rw [hc]; simp)
        have hl := runLen_le (c :: r)
        split at h
        · obtain ⟨-, -, rfl⟩ := (by simpa using h : _ ∧ _ ∧ _)
          omega
        · cases h
      · split at h
        · split at h
          · rename_i hm
            have hl := (List.takeWhile_prefix (p := fun x => decide (x ≠ 34)) (l := r)).length_le
            obtain ⟨-, -, rfl⟩ := (by simpa using h : _ ∧ _ ∧ _)
            simp only [List.length_cons]
            simp only [ne_eq] at hl
            constructor
            · omega
            · simp only [decide_not] at hl ⊢
              omega
          · cases h
        · split at h
          · rename_i hl
            obtain ⟨-, -, rfl⟩ := (by simpa using h : _ ∧ _ ∧ _)
            simp only [List.length_cons]
            omega
          · split at h
            · obtain ⟨-, -, rfl⟩ := (by simpa using h : _ ∧ _ ∧ _)
              simp only [List.length_cons]
              omega
            · cases h
example : piecesOf "a = b (12, \"x y\") # z" = .ok [⟨"name", .tx "a", 1⟩, ⟨"own", .tx "=", 3⟩, ⟨"name", .tx "b", 5⟩, ⟨"own", .tx "(", 7⟩, ⟨"number", .nm 12, 8⟩, ⟨"own", .tx ",", 10⟩, ⟨"quoted", .tx "x y", 12⟩, ⟨"own", .tx ")", 17⟩, ⟨"end", .tx "", 22⟩] := by rfl
end Kx

namespace Kx
open PySem PySem.Spec PyProof.Rows L2 TL
abbrev s_is_figure : Stmt := topS 28
abbrev s_is_letter : Stmt := topS 29
abbrev s_run_end : Stmt := topS 30
abbrev s_is_number : Stmt := topS 31
section
variable {P : Program} {w : World} {K : PySem.W.Frag} {mg : Str → Option Value} {base : Heap}
def spFig : Sp := fun vs H Q _ => ∃ c : Nat, vs = [.str ⟨#[c]⟩] ∧ Q (.bl (isFig c)) H
theorem sc_figure : FnScope ["sign"] ["sign"] (defScope s_is_figure) := ⟨rfl, rfl, rfl, by decide +kernel, rfl, by decide +kernel, by decide +kernel⟩
theorem not_lt_one (a b : Nat) : (!decide (([a] : List Nat) < [b])) = decide (b ≤ a) := by
  rw [lt_one]
  by_cases h : b ≤ a
  · have h2 : ¬ a < b := by omega
    simp [h, h2]
  · have h2 : a < b := by omega
    simp [h, h2]
theorem ok_figure {f : Addr} {fd : FuncData} (F : Fun K "is_figure" "is_figure" s_is_figure f fd) : FnOk P w K mg base CX0 1 f fd ["sign"] spFig := by
  refine F.ok sc_figure (fun vs H Q E h => ?_) (fun cdv A outer s H vs Q E hr h => ?_)
  · obtain ⟨c, rfl, _⟩ := h
    rfl
  obtain ⟨c, rfl, q⟩ := h
  refine ⟨_, pss_one (ps_ret (pe_chain op_le_str op_le_str pe_str (pv 0) pe_str)), ?_⟩
  have e1 : ((Str.ofString "0").cps.toList) = [48] := by decide +kernel
  have e2 : ((Str.ofString "9").cps.toList) = [57] := by decide +kernel
  refine ⟨_, rfl, _, _, rfl, rfl, _, rfl, ?_⟩
  rw [e1]
  show (if (!decide (([c] : List Nat) < [48])) = true then _ else _)
  rw [not_lt_one]
  unfold isFig at q
  refine ite2 (fun h => ⟨_, _, rfl, rfl, ?_⟩) (fun h => ?_)
  · rw [e2]
    show Q (.bl (!decide (([57] : List Nat) < [c]))) H
    rw [not_lt_one]
    rw [decide_eq_true (of_decide_eq_true h), Bool.true_and] at q
    exact q
  · rw [Bool.eq_false_iff.mpr h, Bool.false_and] at q
    exact q
def spLet : Sp := fun vs H Q _ => ∃ c : Nat, vs = [.str ⟨#[c]⟩] ∧ Q (.bl (isLet c)) H
theorem sc_letter : FnScope ["sign"] ["sign"] (defScope s_is_letter) := ⟨rfl, rfl, rfl, by decide +kernel, rfl, by decide +kernel, by decide +kernel⟩
theorem one_sign (c d : Nat) : decide (V.str ⟨#[c]⟩ = V.str ⟨#[d]⟩) = decide (c = d) := by
  by_cases h : c = d
  · rw [h, decide_eq_true rfl, decide_eq_true rfl]
  · rw [decide_eq_false h]
    refine decide_eq_false fun e => h ?_
    injection e with e
    injection e with e
    simpa using congrArg Array.toList e
theorem ok_letter {f : Addr} {fd : FuncData} (F : Fun K "is_letter" "is_letter" s_is_letter f fd) : FnOk P w K mg base CX0 1 f fd ["sign"] spLet := by
  refine F.ok sc_letter (fun vs H Q E h => ?_) (fun cdv A outer s H vs Q E hr h => ?_)
  · obtain ⟨c, rfl, _⟩ := h
    rfl
  obtain ⟨c, rfl, q⟩ := h
  refine ⟨_, pss_one (ps_ret (pe_or (pe_chain op_le_str op_le_str pe_str (pv 0) pe_str) (pe_one (pe_cmpR op_eq (pv 0) pe_str (nomark _))))), ?_⟩
  have e1 : ((Str.ofString "a").cps.toList) = [97] := by decide +kernel
  have e2 : ((Str.ofString "z").cps.toList) = [122] := by decide +kernel
  have e3 : (Str.ofString "_") = ⟨#[95]⟩ := by decide +kernel
  unfold isLet at q
  have fin : ∀ b, b = (decide (97 ≤ c) && decide (c ≤ 122)) → ∃ k, V.bl b = .bl k ∧ if k = true then Q (.bl true) H else tOp rEq (tVar 0) (tC (V.str (Str.ofString "_"))) (L2.start ["sign"] [V.str ⟨#[c]⟩]) H Q := fun b hb => by
    refine ⟨b, rfl, ?_⟩
    rw [← hb] at q
    cases b with
    | true =>
      rw [Bool.true_or] at q
      exact iteT q
    | false =>
      rw [Bool.false_or, ← one_sign] at q
      refine iteF ⟨_, rfl, rfl, ?_⟩
      rw [e3]
      exact q
  refine ⟨_, rfl, _, _, rfl, rfl, _, rfl, ?_⟩
  rw [e1]
  show (if (!decide (([c] : List Nat) < [97])) = true then _ else _)
  rw [not_lt_one]
  refine ite2 (fun h => ⟨_, _, rfl, rfl, ?_⟩) (fun h => ?_)
  · rw [e2]
    refine fin _ ?_
    show (!decide (([122] : List Nat) < [c])) = _
    rw [not_lt_one, decide_eq_true (of_decide_eq_true h), Bool.true_and]
  · refine fin _ ?_
    rw [Bool.eq_false_iff.mpr h, Bool.false_and]
def spRunEnd : Sp := fun vs H Q _ => ∃ (z : Str) (i : Nat), vs = [.str z, .int (i : Int)] ∧ z.length ≤ 100000 ∧ i ≤ z.length ∧ Q (.int ((i + runLen ((tl z).drop i) : Nat) : Int)) H
theorem sc_runend : FnScope ["text", "at"] ["text", "at"] (defScope s_run_end) := ⟨rfl, rfl, rfl, by decide +kernel, rfl, by decide +kernel, by decide +kernel⟩
theorem at_str {z : Str} {i c : Nat} (h : (tl z)[i]? = some c) : atI z.cps.toList (i : Int) = some c := atI_nat (j := i) h
theorem ok_runend {f : Addr} {fd : FuncData} (F : Fun K "run_end" "run_end" s_run_end f fd) (m_len : mg "len" = none) (G_is_letter : Ready P w K mg base 1 "is_letter" ["sign"] spLet) (G_is_figure : Ready P w K mg base 1 "is_figure" ["sign"] spFig) : FnOk P w K mg base CX0 2 f fd ["text", "at"] spRunEnd := by
  refine F.ok sc_runend (fun vs H Q E h => ?_) (fun cdv A outer s H vs Q E hr h => ?_)
  · obtain ⟨z, i, rfl, _⟩ := h
    rfl
  obtain ⟨z, i, rfl, hz, hi, q⟩ := h
  have nd := sc_runend.nd
  have zl : z.length ≤ sizeLine := Nat.le_trans hz (by decide)
  refine ⟨_, pss_cons (ps_while PassesOwn.never (PW.pt (pw_and (pt_cmpR op_lt (pv 1) (pe_callB call_len_str (by rfl) m_len PySem.boot_len (pa_cons (pv 0) pa_nil)) (nomark _)) (pw_and1 (PW.pt (pw_or (pt_val (pe_fn G_is_letter (hr.mono (by decide)) (pa_cons (pe_ix ix_str (pv 0) (pv 1) (fun _ _ => rfl)) pa_nil))) (pw_or1 (pt_val (pe_fn G_is_figure (hr.mono (by decide)) (pa_cons (pe_ix ix_str (pv 0) (pv 1) (fun _ _ => rfl)) pa_nil))))))))) (pss_one (ps_aug (i := 1) nd rfl (.inl rfl) pe_int ip_add)))
    (pss_one (ps_ret (pv 1))), ?_⟩
  have step : ∀ j : Nat, j + runLen ((tl z).drop j) = i + runLen ((tl z).drop i) → ∀ c, (tl z)[j]? = some c → isRun c = true → (j + 1) + runLen ((tl z).drop (j + 1)) = i + runLen ((tl z).drop i) := fun j e c hc hr => by
    obtain ⟨hj, e2⟩ := List.getElem?_eq_some_iff.mp hc
    have : (tl z).drop j = c :: (tl z).drop (j + 1) := by
      rw [List.drop_eq_getElem_cons hj, e2]
    rw [this] at e
    unfold runLen at e ⊢
    rw [List.takeWhile_cons, hr] at e
    simp only [if_true, List.length_cons] at e
    omega
  have stop : ∀ j : Nat, j + runLen ((tl z).drop j) = i + runLen ((tl z).drop i) → (∀ c, (tl z)[j]? = some c → isRun c = false) → j = i + runLen ((tl z).drop i) := fun j e hc => by
    have h0 : runLen ((tl z).drop j) = 0 := by
      cases hd : (tl z).drop j with
      | nil => rfl
      | cons c r =>
        have : (tl z)[j]? = some c := by
          have := congrArg (·[0]?) hd
          simpa using this
        unfold runLen
        rw [List.takeWhile_cons, hc c this]
        rfl
    omega
  refine ⟨fun m σ H' => ∃ j : Nat, m = z.length - j ∧ σ = [some (.str z), some (.int (j : Int))] ∧ H' = H ∧ j ≤ z.length ∧ j + runLen ((tl z).drop j) = i + runLen ((tl z).drop i), ⟨_, i, rfl, rfl, rfl, hi, rfl⟩, ?_⟩
  rintro m σ H' ⟨j, rfl, rfl, rfl, hj, e⟩
  refine ⟨_, rfl, _, rfl, z, rfl, zl, _, _, rfl, rfl, _, rfl, ite2 (fun c1 => ?_) (fun c1 => ?_)⟩
  · have hlt : j < z.length := by
      have := of_decide_eq_true c1
      omega
    have hlt' : j < (tl z).length := by rw [← len_tl]; exact hlt
    have ec : (tl z)[j]? = some (tl z)[j] := List.getElem?_eq_getElem hlt'
    generalize (tl z)[j] = c at ec
    have next : isRun c = true → ∃ N : L2.St → Hp → Prop, (∀ σ' H2, N σ' H2 → ∃ m', m' < z.length - j ∧ ∃ j : Nat, m' = z.length - j ∧ σ' = [some (.str z), some (.int (j : Int))] ∧ H2 = H' ∧ j ≤ z.length ∧ j + runLen ((tl z).drop j) = i + runLen ((tl z).drop i)) ∧ N [some (.str z), some (.int ((j : Int) + 1))] H' := fun hr =>
      ⟨fun σ' H2 => σ' = [some (.str z), some (.int ((j : Int) + 1))] ∧ H2 = H', fun σ' H2 ⟨e1, e2⟩ => ⟨z.length - (j + 1), by omega, j + 1, rfl, by rw [e1, Int.natCast_add]; rfl, e2, hlt, step j e c ec hr⟩, rfl, rfl⟩
    refine ⟨_, rfl, _, rfl, _, _, c, rfl, rfl, zl, at_str ec, c, rfl, _, rfl, ?_⟩
    cases hl : isLet c with
    | true =>
      obtain ⟨N, n1, n2⟩ := next (by unfold isRun; rw [hl]; rfl)
      refine iteT (iteT ⟨N, n1, _, rfl, _, _, rfl, rfl, n2⟩)
    | false =>
      refine iteF ⟨_, rfl, _, rfl, _, _, c, rfl, rfl, zl, at_str ec, c, rfl, _, rfl, ?_⟩
      cases hf : isFig c with
      | true =>
        obtain ⟨N, n1, n2⟩ := next (by unfold isRun; rw [hl, hf]; rfl)
        exact iteT ⟨N, n1, _, rfl, _, _, rfl, rfl, n2⟩
      | false =>
        refine iteF ⟨_, rfl, ?_⟩
        rw [← stop j e (fun c' hc' => by
          rw [ec] at hc'
          rw [← Option.some.inj hc']
          unfold isRun
          rw [hl, hf]
          rfl)] at q
        exact q
  · refine iteF ⟨_, rfl, ?_⟩
    rw [← stop j e (fun c' hc' => by
      have : j < (tl z).length := (List.getElem?_eq_some_iff.mp hc').1
      rw [← len_tl] at this
      exact absurd (decide_eq_true (by omega)) c1)] at q
    exact q
end
end Kx

namespace Kx
open PySem PySem.Spec PyProof.Rows L2 TL
abbrev s_piece_at : Stmt := topS 32
section
variable {P : Program} {w : World} {K : PySem.W.Frag} {mg : Str → Option Value} {base : Heap}
/-! ### is_number -/
def spNumber : Sp := fun vs H Q _ => ∃ z : Str, vs = [.str z] ∧ z.length ≤ 100000 ∧ tl z ≠ [] ∧ ∀ H', Same H H' → Q (.bl (isNumB (tl z))) H'
abbrev N_is_number : List Str := ["run", "sign"]
theorem sc_number : FnScope N_is_number ["run"] (defScope s_is_number) := ⟨rfl, rfl, rfl, by decide +kernel, rfl, by decide +kernel, by decide +kernel⟩
theorem ok_number {f : Addr} {fd : FuncData} (F : Fun K "is_number" "is_number" s_is_number f fd) (m_len : mg "len" = none) (m_all : mg "all" = none) (m_M : ∃ t, mg "MOST_FIGURES" = some (.int 18 t)) (G_is_figure : Ready P w K mg base 1 "is_figure" ["sign"] spFig) :
    FnOk P w K mg base CX0 2 f fd ["run"] spNumber := by
  refine F.ok sc_number (fun vs H Q E h => ?_) (fun cdv A outer s H vs Q E hr h => ?_)
  · obtain ⟨c, rfl, _⟩ := h
    rfl
  obtain ⟨z, rfl, hz, hne, q⟩ := h
  obtain ⟨tM, m_M⟩ := m_M
  have nd := sc_number.nd
  refine ⟨_, pss_cons (ps_if (pt_cmpR op_eq (pv 0) pe_str (nomark _)) (pss_one (ps_ret pe_bl)) (pss_nil))
      (pss_one (ps_ret (pe_and (pe_cmpR op_le (pe_callB call_len_str (by rfl) m_len PySem.boot_len (pa_cons (pv 0) pa_nil)) (pe_glob (v := .int 18) rfl m_M ⟨_, rfl⟩) (nomark _)) (pe_and (pe_cmpR op_ne (pe_ix ix_str (pv 0) pe_int (fun _ _ => rfl)) pe_str (nomark _)) (pe_one (pe_callB (cr_all rfl) (by rfl) m_all PyProof.Rows.boot_all (pa_cons (pe_lc (own := [("sign", 1)]) (g := gName 1) (tt := tYes) rfl nd (pi_str (pv 0)) (blkOk_by (N := N_is_number) (sc := defScope s_is_number) (by decide +kernel)) (fun _ _ _ _ _ => pg_name (i := 1) nd rfl (Or.inl rfl)) (fun _ _ _ _ _ => pts_nil) (fun _ _ _ _ _ => (pe_fn G_is_figure (hr.mono (by decide)) (pa_cons (pv 1) pa_nil)))) pa_nil))))))), ?_⟩
  have zl : z.length ≤ sizeLine := Nat.le_trans hz (by decide)
  have e0 : ∀ {c : Nat}, (V.str ⟨#[c]⟩ = V.str "0") ↔ c = 48 := fun {c} => by
    have e : ("0" : Str) = ⟨#[48]⟩ := by decide +kernel
    rw [e]
    have h := one_sign c 48
    by_cases hc : c = 48
    · exact ⟨fun _ => hc, fun _ => by rw [hc]⟩
    · rw [decide_eq_false hc] at h
      exact ⟨fun z => absurd z (of_decide_eq_false h), fun z => absurd z hc⟩
  refine ⟨_, rfl, rfl, _, rfl, ite2 (fun c => ?_) (fun c => ?_)⟩
  · have c' : z = "0" := V.str.inj (of_decide_eq_true c)
    have e : isNumB (tl z) = true := by
      rw [c']
      decide +kernel
    rw [e] at q
    exact q _ (Same.refl _)
  have nz : tl z ≠ [48] := fun e => c (decide_eq_true (by
    have e2 : z = ⟨#[48]⟩ := by
      obtain ⟨⟨l⟩⟩ := z
      exact congrArg (fun x : List Nat => (⟨x.toArray⟩ : Str)) e
    rw [e2]
    decide +kernel))
  unfold isNumB at q
  rw [decide_eq_false nz, Bool.false_or] at q
  have hl18 : decide ((z.length : Int) ≤ 18) = decide ((tl z).length ≤ 18) := by
    rw [len_tl]
    exact decide_eq_decide.mpr (by omega)
  obtain ⟨c0, r0, ez⟩ : ∃ c0 r0, tl z = c0 :: r0 := by
    cases e : tl z with
    | nil => exact absurd e hne
    | cons c r => exact ⟨c, r, rfl⟩
  have hd : ((tl z).head? ≠ some 48) = (c0 ≠ 48) := by
    rw [ez]
    exact propext ⟨fun h e => h (by rw [e]; rfl), fun h e => h (Option.some.inj e)⟩
  refine ⟨_, rfl, _, rfl, zl, _, _, rfl, rfl, _, rfl, ?_⟩
  rw [hl18]
  refine ite2 (fun c1 => ?_) (fun c1 => ?_)
  · rw [c1, Bool.true_and] at q
    refine ⟨_, rfl, z, ((0 : Nat) : Int), c0, rfl, rfl, zl, at_str (by rw [ez]; rfl), rfl, _, rfl, ite2 (fun c2 => ?_) (fun c2 => ?_)⟩
    · have h48 : c0 ≠ 48 := fun e => by
        rw [decide_eq_true (e0.mpr e)] at c2
        cases c2
      rw [decide_eq_true (show (tl z).head? ≠ some 48 by rw [hd]; exact h48), Bool.true_and] at q
      refine ⟨_, rfl, _, rfl, fun D hD => ?_⟩
      refine lc_it walk_str (fun i H' => Same H H' ∧ H' D = some (.lst ((((tl z).map isFig).take i).map V.bl))) ⟨same_upd hD, upd_same⟩ (fun _ _ _ _ => trivial) ?_ ?_
      · rintro i v H2 H3 hi ⟨sm, eD⟩ ⟨rfl, ch, ec, rfl⟩
        have ec' : (tl z)[i]? = some ch := by
          rw [← ec]
          exact Array.getElem?_toList
        have hk : ((tl z).map isFig).take (i + 1) = ((tl z).map isFig).take i ++ [isFig ch] := by
          rw [List.take_succ, List.getElem?_map, ec']
          rfl
        refine ⟨rfl, _, rfl, ch, rfl, _, eD, ?_, fun b o e => ?_, ?_⟩
        · rw [List.length_map, List.length_take, List.length_map]
          exact Nat.lt_of_le_of_lt (Nat.min_le_left _ _) (Nat.lt_of_lt_of_le hi zl)
        · rw [upd_ne (ne_of_none e hD)]
          exact sm _ _ e
        · rw [upd_same, hk, List.map_append]
          rfl
      rintro H2 ⟨sm, eD⟩
      have eT : ((tl z).map isFig).take z.cps.size = (tl z).map isFig := by
        apply List.take_of_length_le
        rw [List.length_map]
        exact Nat.le_of_eq (len_tl z).symm
      rw [eT] at eD
      have ea : ((tl z).map isFig).all id = (tl z).all isFig := by
        rw [List.all_map]
        rfl
      refine ⟨D, _, rfl, SqL.of eD, ?_⟩
      rw [ea]
      exact q _ sm
    · have h48 : c0 = 48 := Classical.byContradiction fun z => c2 (by rw [decide_eq_false (fun h => z (e0.mp h))]; rfl)
      rw [decide_eq_false (show ¬ ((tl z).head? ≠ some 48) by rw [hd]; exact fun h => h h48), Bool.false_and] at q
      exact q _ (Same.refl _)
  · rw [Bool.eq_false_iff.mpr c1, Bool.false_and] at q
    exact q _ (Same.refl _)
end
end Kx

namespace Kx
open PySem PySem.Spec PyProof.Rows L2 TL
theorem take_min {l : List Nat} {i n : Nat} (hi : i ≤ l.length) : (l.drop i).take (min (i + n) l.length - i) = (l.drop i).take n := by
  by_cases h : i + n ≤ l.length
  · rw [Nat.min_eq_left h]
    congr 1
    omega
  · rw [Nat.min_eq_right (by omega), List.take_of_length_le (by rw [List.length_drop]; exact Nat.le_refl _), List.take_of_length_le (by rw [List.length_drop]; omega)]
theorem cutS_part {z : Str} {i n : Nat} (h : i ≤ z.length) : cutS z (some (i : Int)) (some ((i + n : Nat) : Int)) = mkS (((tl z).drop i).take n) := by
  unfold cutS mkS
  rw [HT.sIx_nat, HT.sIx_nat, Nat.min_eq_left h, len_tl, take_min (by rw [← len_tl]; exact h)]
theorem take_run (p : Nat → Bool) (l : List Nat) : l.take (l.takeWhile p).length = l.takeWhile p := (List.prefix_iff_eq_take.mp (List.takeWhile_prefix p)).symm
theorem run_int {l : List Nat} (h : isNumB l = true) (hne : l ≠ []) : intText? (mkS l) = some ((NumText.digitsVal l : Nat) : Int) ∧ (mkS l).length ≤ 640 := by
  have hf : l.all isFig = true ∧ l.length ≤ 18 := by
    unfold isNumB at h
    rcases Bool.or_eq_true_iff.mp h with h | h
    · have e := of_decide_eq_true h
      subst e
      exact ⟨by decide, by decide⟩
    · rw [Bool.and_eq_true_iff, Bool.and_eq_true_iff] at h
      exact ⟨h.2, of_decide_eq_true h.1.1⟩
  have hl : (mkS l).length = l.length := by
    unfold mkS Str.length
    simp
  have et : (mkS l).cps.toList = l := by
    unfold mkS
    simp
  refine ⟨?_, by omega⟩
  have h2 := intText_digits (x := mkS l) (fun c hc => ?_) (by rw [et]; exact hne) (by omega)
  · rw [et] at h2
    exact h2
  · rw [et] at hc
    have := List.all_eq_true.mp hf.1 c hc
    unfold isFig at this
    rw [Bool.and_eq_true] at this
    exact ⟨of_decide_eq_true this.1, of_decide_eq_true this.2⟩
theorem tw_at {l : List Nat} {k : Nat} (hk : l[k]? = some 34) (hb : ∀ v, v < k → ∀ c, l[v]? = some c → c ≠ 34) : (l.takeWhile fun x => decide (x ≠ 34)).length = k := by
  induction l generalizing k with
  | nil => cases hk
  | cons a l ih =>
    cases k with
    | zero =>
      have e : a = 34 := by simpa using hk
      subst e
      rfl
    | succ k =>
      have ha : a ≠ 34 := hb 0 (Nat.succ_pos _) a rfl
      rw [List.takeWhile_cons, if_pos (decide_eq_true ha), List.length_cons, ih (by simpa using hk) fun v hv c hc => hb (v + 1) (Nat.succ_lt_succ hv) c (by simpa using hc)]
theorem flat_strs : ∀ l : List Str, (l.map V.str).all flatV = true
  | [] => rfl
  | _ :: l => flat_strs l
theorem inV_str (z : Str) : ∀ l : List Str, inV (.str z) (l.map V.str) = decide (z ∈ l)
  | [] => rfl
  | x :: r => by
    have ih := inV_str z r
    show (x == z || inV (.str z) (r.map V.str)) = _
    rw [ih]
    by_cases h : x = z
    · subst h
      simp
    · have h' : ¬ z = x := fun e => h e.symm
      simp [h, h']
theorem in_strs {z : Str} {l : List Str} {A B : Prop} (h1 : z ∈ l → A) (h2 : z ∉ l → B) : if (if false = true then !inV (.str z) (l.map V.str) else inV (.str z) (l.map V.str)) = true then A else B := by
  rw [if_neg Bool.false_ne_true, inV_str]
  by_cases h : z ∈ l
  · rw [decide_eq_true h]
    exact iteT (h1 h)
  · rw [decide_eq_false h]
    exact iteF (h2 h)
def pvV : PV → V
  | .tx z => .str z
  | .nm n => .int (n : Int)
/-- the program's tables of pieces -/
structure Tbl (K : PySem.W.Frag) (mg : Str → Option Value) : Prop where
  own : ∃ a, mg "OWN_WORDS" = some (.ref a) ∧ ∀ H : Hp, SqT K H a (owns.map V.str)
  lng : ∃ a, mg "LONG_SIGNS" = some (.ref a) ∧ ∀ H : Hp, SqT K H a (longs.map V.str)
  sho : ∃ t, mg "SHORT_SIGNS" = some (.str "(),=<>+-*/:" t)
section
variable {P : Program} {w : World} {K : PySem.W.Frag} {mg : Str → Option Value} {base : Heap}
def spPiece : Sp := fun vs H Q _ => ∃ (z : Str) (i : Nat), vs = [.str z, .int (i : Int)] ∧ z.length ≤ 100000 ∧ i < z.length ∧ (pcAt ((tl z).drop i) = none → ∀ H', Same H H' → Q .non H') ∧
  ∀ k v n, pcAt ((tl z).drop i) = some (k, v, n) → ∀ (p : Addr) (H' : Hp), Same H H' → H' p = some (.tup [.str k, pvV v, .int ((i + n : Nat) : Int)]) → Q (.ref p) H'
abbrev N_piece_at : List Str := ["text", "at", "sign", "end", "run"]
theorem sc_piece : FnScope N_piece_at ["text", "at"] (defScope s_piece_at) := ⟨rfl, rfl, rfl, by decide +kernel, rfl, by decide +kernel, by decide +kernel⟩
theorem ok_piece {f : Addr} {fd : FuncData} (F : Fun K "piece_at" "piece_at" s_piece_at f fd) (T : Tbl K mg) (m_int : mg "int" = none) (G_is_letter : Ready P w K mg base 1 "is_letter" ["sign"] spLet) (G_is_figure : Ready P w K mg base 1 "is_figure" ["sign"] spFig) (G_run_end : Ready P w K mg base 2 "run_end" ["text", "at"] spRunEnd) (G_is_number : Ready P w K mg base 2 "is_number" ["run"] spNumber) : FnOk P w K mg base CX0 3 f fd ["text", "at"] spPiece := by
  refine F.ok sc_piece (fun vs H Q E h => ?_) (fun cdv A outer s H vs Q E hr h => ?_)
  · obtain ⟨z, i, rfl, _⟩ := h
    rfl
  obtain ⟨z, i, rfl, hz, hi, qn, q⟩ := h
  obtain ⟨aO, m_O, tO⟩ := T.own
  obtain ⟨aL, m_L, tL⟩ := T.lng
  obtain ⟨tS, m_S⟩ := T.sho
  have nd := sc_piece.nd
  have hr2 : Room 2 _ := hr
  have hr1 : Room 1 _ := hr.mono (by decide)
  have zl : z.length ≤ sizeLine := Nat.le_trans hz (by decide)
  have z3 : 3 ≤ sizeLine := by decide
  refine ⟨_, pss_cons (ps_set (i := 2) nd rfl (.inl rfl) (pe_ix ix_str (pv 0) (pv 1) (fun _ _ => rfl)))
      (pss_cons (ps_if (pt_val (pe_fn G_is_letter hr1 (pa_cons (pv 2) pa_nil))) (pss_cons (ps_set (i := 3) nd rfl (.inl rfl) (pe_fn G_run_end hr2 (pa_cons (pv 0) (pa_cons (pv 1) pa_nil))))
      (pss_cons (ps_set (i := 4) nd rfl (.inl rfl) (pe_slice sl_str (pv 0) (po_some (pv 1)) (po_some (pv 3))))
      (pss_cons (ps_if (pt_cmpR op_in_seq (pv 4) (pe_glob (v := .ref aO) rfl m_O rfl) rfl) (pss_one (ps_ret (pe_tup (pa_cons pe_str (pa_cons (pv 4) (pa_cons (pv 3) pa_nil)))))) (pss_nil))
      (pss_one (ps_ret (pe_tup (pa_cons pe_str (pa_cons (pv 4) (pa_cons (pv 3) pa_nil))))))))) (pss_nil))
      (pss_cons (ps_if (pt_val (pe_fn G_is_figure hr1 (pa_cons (pv 2) pa_nil))) (pss_cons (ps_set (i := 3) nd rfl (.inl rfl) (pe_fn G_run_end hr2 (pa_cons (pv 0) (pa_cons (pv 1) pa_nil))))
      (pss_cons (ps_set (i := 4) nd rfl (.inl rfl) (pe_slice sl_str (pv 0) (po_some (pv 1)) (po_some (pv 3))))
      (pss_cons (ps_if (pt_val (pe_fn G_is_number hr2 (pa_cons (pv 4) pa_nil))) (pss_one (ps_ret (pe_tup (pa_cons pe_str (pa_cons (pe_callTy call_int_str (by rfl) m_int boot_int (pa_cons (pv 4) pa_nil)) (pa_cons (pv 3) pa_nil)))))) (pss_nil))
      (pss_one (ps_ret pe_non))))) (pss_nil))
      (pss_cons (ps_if (pt_cmpR op_eq (pv 2) pe_str (nomark _)) (pss_cons (ps_set (i := 3) nd rfl (.inl rfl) (pe_bm PySem.F.plainAttrs_str PySem.F.slot_str_find PySem.F.type_str_find mt_find3 (pv 0) (pa_cons pe_str (pa_cons (pe_op op_add (pv 1) pe_int) pa_nil))))
      (pss_cons (ps_if (pt_cmpR op_lt (pv 3) pe_int (nomark _)) (pss_one (ps_ret pe_non)) (pss_nil))
      (pss_one (ps_ret (pe_tup (pa_cons pe_str (pa_cons (pe_slice sl_str (pv 0) (po_some (pe_op op_add (pv 1) pe_int)) (po_some (pv 3))) (pa_cons (pe_op op_add (pv 3) pe_int) pa_nil)))))))) (pss_nil))
      (pss_cons (ps_if (pt_cmpR op_in_seq (pe_slice sl_str (pv 0) (po_some (pv 1)) (po_some (pe_op op_add (pv 1) pe_int))) (pe_glob (v := .ref aL) rfl m_L rfl) rfl) (pss_one (ps_ret (pe_tup (pa_cons pe_str (pa_cons (pe_slice sl_str (pv 0) (po_some (pv 1)) (po_some (pe_op op_add (pv 1) pe_int))) (pa_cons (pe_op op_add (pv 1) pe_int) pa_nil)))))) (pss_nil))
      (pss_cons (ps_if (pt_cmpR op_in_sign (pv 2) (pe_glob (v := .str "(),=<>+-*/:") rfl m_S ⟨_, rfl⟩) rfl) (pss_one (ps_ret (pe_tup (pa_cons pe_str (pa_cons (pv 2) (pa_cons (pe_op op_add (pv 1) pe_int) pa_nil)))))) (pss_nil))
      (pss_one (ps_ret pe_non))))))), ?_⟩
  obtain ⟨c, r, eL⟩ : ∃ c r, (tl z).drop i = c :: r := by
    cases e : (tl z).drop i with
    | nil =>
      have := List.drop_eq_nil_iff.mp e
      rw [← len_tl] at this
      omega
    | cons c r => exact ⟨c, r, rfl⟩
  have ec : (tl z)[i]? = some c := by
    have h := congrArg (·[0]?) eL
    simpa using h
  have hrl : i + runLen ((tl z).drop i) ≤ z.length := by
    have h := runLen_le ((tl z).drop i)
    rw [List.length_drop, ← len_tl] at h
    omega
  have erun : cutS z (some (i : Int)) (some ((i + runLen ((tl z).drop i) : Nat) : Int)) = mkS (((tl z).drop i).takeWhile isRun) := by
    rw [cutS_part (by omega)]
    unfold runLen
    rw [take_run]
  refine ⟨_, rfl, _, rfl, z, _, c, rfl, rfl, zl, at_str ec, ?_⟩
  refine ⟨_, rfl, c, rfl, _, rfl, ?_⟩
  refine ite2 (fun c1 => ?_) (fun c1 => ?_)
  · refine ⟨_, rfl, _, rfl, z, i, rfl, hz, by omega, ?_⟩
    refine ⟨_, rfl, _, rfl, _, rfl, _, rfl, _, rfl, z, rfl, zl, ?_⟩
    rw [erun]
    have e1 : pcAt ((tl z).drop i) = if mkS (((tl z).drop i).takeWhile isRun) ∈ owns then some (("own" : Str), PV.tx (mkS (((tl z).drop i).takeWhile isRun)), runLen ((tl z).drop i)) else some (("name" : Str), PV.tx (mkS (((tl z).drop i).takeWhile isRun)), runLen ((tl z).drop i)) := by
      rw [eL]
      unfold pcAt
      dsimp only
      rw [if_pos c1]
    refine ⟨_, rfl, aO, _, rfl, .inr (tO _), rfl, flat_strs _, _, rfl, in_strs (fun ho => ?_) (fun ho => ?_)⟩
    · rw [if_pos ho] at e1
      exact ⟨_, rfl, _, rfl, z3, fun p hp => q _ _ _ e1 p _ (same_upd hp) upd_same⟩
    · rw [if_neg ho] at e1
      exact ⟨_, rfl, _, rfl, z3, fun p hp => q _ _ _ e1 p _ (same_upd hp) upd_same⟩
  refine ⟨_, rfl, c, rfl, _, rfl, ?_⟩
  refine ite2 (fun c2 => ?_) (fun c2 => ?_)
  · refine ⟨_, rfl, _, rfl, z, i, rfl, hz, by omega, ?_⟩
    refine ⟨_, rfl, _, rfl, _, rfl, _, rfl, _, rfl, z, rfl, zl, ?_⟩
    rw [erun]
    have ne : ((tl z).drop i).takeWhile isRun ≠ [] := by
      rw [eL, List.takeWhile_cons, if_pos (by unfold isRun; rw [c2, Bool.or_true])]
      intro z
      cases z
    have et : tl (mkS (((tl z).drop i).takeWhile isRun)) = ((tl z).drop i).takeWhile isRun := by
      unfold mkS tl
      simp
    have e1 : pcAt ((tl z).drop i) = if isNumB (((tl z).drop i).takeWhile isRun) = true then some (("number" : Str), PV.nm (NumText.digitsVal (((tl z).drop i).takeWhile isRun)), runLen ((tl z).drop i)) else none := by
      rw [eL]
      unfold pcAt
      dsimp only
      rw [if_neg c1, if_pos c2]
    refine ⟨_, rfl, _, rfl, ?_, by rw [et]; exact ne, fun H2 s2 => ?_⟩
    · have h1 : (mkS (((tl z).drop i).takeWhile isRun)).length = (((tl z).drop i).takeWhile isRun).length := by
        unfold mkS Str.length
        simp
      have h2 := (List.takeWhile_prefix (p := isRun) (l := (tl z).drop i)).length_le
      rw [List.length_drop, ← len_tl] at h2
      omega
    rw [et]
    refine ⟨_, rfl, ite2 (fun hn => ?_) (fun hn => ?_)⟩
    · rw [if_pos hn] at e1
      obtain ⟨k1, k2⟩ := run_int hn ne
      exact ⟨_, rfl, _, _, rfl, k1, k2, _, rfl, z3, fun p hp => q _ _ _ e1 p _ (s2.trans (same_upd hp)) upd_same⟩
    · rw [if_neg hn] at e1
      exact qn e1 _ s2
  have e34 : (V.str ⟨#[c]⟩ = V.str "\"") ↔ c = 34 := by
    have e : ("\"" : Str) = ⟨#[34]⟩ := by decide +kernel
    rw [e]
    have h := one_sign c 34
    by_cases hc : c = 34
    · exact ⟨fun _ => hc, fun _ => by rw [hc]⟩
    · rw [decide_eq_false hc] at h
      exact ⟨fun z => absurd z (of_decide_eq_false h), fun z => absurd z hc⟩
  refine ⟨_, rfl, rfl, _, rfl, ite2 (fun c3 => ?_) (fun c3 => ?_)⟩
  · have hc := e34.mp (of_decide_eq_true c3)
    have er : (tl z).drop (i + 1) = r := by
      have h := congrArg (List.drop 1) eL
      rw [List.drop_drop] at h
      simpa using h
    have eq34 : ("\"" : Str) = ⟨#[34]⟩ := by decide +kernel
    have fr : fromIndex z.length ((i : Int) + 1) = i + 1 := by
      unfold fromIndex
      rw [if_neg (by omega)]
      omega
    have gd : ∀ v, z.cps.getD v 0 = ((tl z)[v]?).getD 0 := fun v => by
      rw [Array.getD_eq_getD_getElem?]
      unfold tl
      rw [Array.getElem?_toList]
    have sp := PySem.StrLaws.find3_spec z 34 ((i : Int) + 1)
    rw [fr] at sp
    have e1 : pcAt ((tl z).drop i) = if 34 ∈ r then some (("quoted" : Str), PV.tx (mkS (r.takeWhile fun x => decide (x ≠ 34))), (r.takeWhile fun x => decide (x ≠ 34)).length + 2) else none := by
      rw [eL]
      unfold pcAt
      dsimp only
      rw [if_neg c1, if_neg c2, if_pos hc]
    refine ⟨_, rfl, rfl, _, rfl, _, _, rfl, rfl, z, _, _, rfl, rfl, ?_⟩
    rw [eq34]
    rcases sp with ⟨h1, h2⟩ | ⟨k, h1, h2, h3, h4, h5⟩
    · rw [h1]
      have hn : 34 ∉ r := fun hm => by
        obtain ⟨v, hv⟩ := List.mem_iff_getElem?.mp hm
        rw [← er, List.getElem?_drop] at hv
        have hl := (List.getElem?_eq_some_iff.mp hv).1
        rw [← len_tl] at hl
        refine h2 (i + 1 + v) (by omega) hl ?_
        rw [gd, hv]
        rfl
      rw [if_neg hn] at e1
      exact ⟨_, rfl, _, _, rfl, rfl, _, rfl, iteT (qn e1 _ (Same.refl _))⟩
    · rw [h1]
      have hk : (tl z)[k]? = some 34 := by
        have hl : k < (tl z).length := by rw [← len_tl]; exact h3
        rw [gd, List.getElem?_eq_getElem hl] at h4
        rw [List.getElem?_eq_getElem hl]
        exact congrArg some h4
      have hr2 : r[k - (i + 1)]? = some 34 := by
        rw [← er, List.getElem?_drop]
        rw [show i + 1 + (k - (i + 1)) = k by omega]
        exact hk
      have hm : 34 ∈ r := List.mem_of_getElem? hr2
      have tw := tw_at hr2 fun v hv c' hc' e => by
        rw [← er, List.getElem?_drop] at hc'
        refine h5 (i + 1 + v) (by omega) (by omega) ?_
        rw [gd, hc', e]
        rfl
      rw [if_pos hm] at e1
      have es : cutS z (some ((i : Int) + 1)) (some (k : Int)) = mkS (r.takeWhile fun x => decide (x ≠ 34)) := by
        have h := cutS_part (z := z) (i := i + 1) (n := k - (i + 1)) (by omega)
        rw [show i + 1 + (k - (i + 1)) = k by omega, er] at h
        rw [show ((i : Int) + 1) = ((i + 1 : Nat) : Int) from rfl, h, ← tw, take_run]
      refine ⟨_, rfl, _, _, rfl, rfl, _, rfl, ite2 (fun cc => absurd (of_decide_eq_true cc) (by omega)) (fun _ => ?_)⟩
      refine ⟨_, rfl, _, rfl, _, _, rfl, rfl, _, rfl, _, rfl, _, rfl, z, rfl, zl, ?_⟩
      rw [es]
      refine ⟨_, rfl, _, _, rfl, rfl, z3, fun p hp => q _ _ _ e1 p _ (same_upd hp) ?_⟩
      rw [upd_same]
      have en : ((i + ((r.takeWhile fun x => decide (x ≠ 34)).length + 2) : Nat) : Int) = (k : Int) + 1 := by
        rw [tw]
        omega
      rw [en]
      rfl
  have n34 : ¬ c = 34 := fun e => c3 (decide_eq_true (e34.mpr e))
  have e2 : cutS z (some (i : Int)) (some ((i : Int) + 2)) = mkS (((tl z).drop i).take 2) := cutS_part (z := z) (i := i) (n := 2) (by omega)
  refine ⟨_, rfl, _, rfl, _, rfl, _, rfl, _, _, rfl, rfl, _, rfl, z, rfl, zl, ?_⟩
  rw [e2]
  have e1 : pcAt ((tl z).drop i) = if mkS (((tl z).drop i).take 2) ∈ longs then some (("own" : Str), PV.tx (mkS (((tl z).drop i).take 2)), 2) else if c ∈ shorts then some (("own" : Str), PV.tx (mkS [c]), 1) else none := by
    rw [eL]
    unfold pcAt
    dsimp only
    rw [if_neg c1, if_neg c2, if_neg n34]
  refine ⟨aL, _, rfl, .inr (tL _), rfl, flat_strs _, _, rfl, in_strs (fun ho => ?_) (fun ho => ?_)⟩
  · rw [if_pos ho] at e1
    refine ⟨_, rfl, _, rfl, _, rfl, _, rfl, _, _, rfl, rfl, _, rfl, z, rfl, zl, ?_⟩
    rw [e2]
    exact ⟨_, rfl, _, _, rfl, rfl, z3, fun p hp => q _ _ _ e1 p _ (same_upd hp) upd_same⟩
  rw [if_neg ho] at e1
  have es : (("(),=<>+-*/:" : Str)).cps.toList = shorts := by decide +kernel
  refine ⟨_, rfl, c, _, rfl, rfl, _, rfl, ?_⟩
  rw [es]
  refine ite2 (fun cc => ?_) (fun cc => ?_)
  · rw [if_pos (of_decide_eq_true cc)] at e1
    exact ⟨_, rfl, _, rfl, _, _, rfl, rfl, z3, fun p hp => q _ _ _ e1 p _ (same_upd hp) upd_same⟩
  · rw [if_neg (fun h => cc (decide_eq_true h))] at e1
    exact qn e1 _ (Same.refl _)
end
end Kx

namespace Kx
open PySem PySem.Spec PyProof.Rows L2 TL
abbrev s_is_bracket : Stmt := topS 33
abbrev s_pieces_of : Stmt := topS 34
def BadAt (C : Addr) (n c : Int) (H : Hp) (E : XK) : Prop := ∀ (H' : Hp) (d : Addr), Same H H' → H' d = none → E (.ref C) (some d) (upd H' d (.xd [("line", .int n), ("column", .int c)]))
theorem BadAt.same {C : Addr} {n c : Int} {H H' : Hp} {E : XK} (h : BadAt C n c H E) (s : Same H H') : BadAt C n c H' E := fun H2 d s2 nd => h H2 d (s.trans s2) nd
/-- pieces in the heap -/
def PcsAt (H : Hp) (as : List (Addr × Pc)) : Prop := ∀ p ∈ as, H p.1 = some (.tup [.str p.2.kind, pvV p.2.val, .int (p.2.col : Int)])
theorem PcsAt.keep {H H' : Hp} {as : List (Addr × Pc)} (h : PcsAt H as) (k : ∀ (a : Addr) (xs : List V), H a = some (.tup xs) → H' a = some (.tup xs)) : PcsAt H' as := fun p hp => k _ _ (h p hp)
theorem pcAt_own {l : List Nat} {v : PV} {n : Nat} {k : Str} (h : pcAt l = some (k, v, n)) (hk : k = "own") : ∃ z, v = .tx z := by
  have n1 : ("number" : Str) ≠ "own" := by decide +kernel
  unfold pcAt at h
  match l with
  | [] => cases h
  | c :: r =>
    dsimp only at h
    repeat' split at h
    all_goals first
      | (cases h; done)
      | (injection h with h; injection h with h1 h2; injection h2 with h2 h3; exact ⟨_, h2.symm⟩)
      | (injection h with h; injection h with h1 h2; exact absurd (h1.trans hk) n1)
section
variable {P : Program} {w : World} {K : PySem.W.Frag} {mg : Str → Option Value} {base : Heap}
def spBr : Sp := fun vs H Q _ => ∃ (p : Addr) (k : Str) (v : PV) (x : V), vs = [.ref p] ∧ H p = some (.tup [.str k, pvV v, x]) ∧ (k = "own" → ∃ z, v = .tx z) ∧ ∀ H', Same H H' → Q (.bl (isBr k v)) H'
theorem sc_br : FnScope ["piece"] ["piece"] (defScope s_is_bracket) := ⟨rfl, rfl, rfl, by decide +kernel, rfl, by decide +kernel, by decide +kernel⟩
theorem ok_br {f : Addr} {fd : FuncData} (F : Fun K "is_bracket" "is_bracket" s_is_bracket f fd) : FnOk P w K mg base CX0 1 f fd ["piece"] spBr := by
  refine F.ok sc_br (fun vs H Q E h => ?_) (fun cdv A outer s H vs Q E hr h => ?_)
  · obtain ⟨p, k, v, x, rfl, _⟩ := h
    rfl
  obtain ⟨p, k, v, x, rfl, ep, ho, q⟩ := h
  have z2 : 2 ≤ sizeLine := by decide
  refine ⟨_, pss_one (ps_ret (pe_and (pe_cmpR op_eq (pe_ix ix_tup (pv 0) pe_int (fun _ _ => rfl)) pe_str (nomark _)) (pe_one (pe_cmpR op_in_seq (pe_ix ix_tup (pv 0) pe_int (fun _ _ => rfl)) (pe_tup (pa_cons pe_str (pa_cons pe_str pa_nil))) (by with_unfolding_all rfl))))), ?_⟩
  unfold isBr at q
  refine ⟨_, rfl, p, _, 0, _, rfl, rfl, SqT.of ep, rfl, rfl, _, rfl, ite2 (fun c => ?_) (fun c => ?_)⟩
  · have hk : k = "own" := V.str.inj (of_decide_eq_true c)
    obtain ⟨z, rfl⟩ := ho hk
    rw [decide_eq_true hk, Bool.true_and] at q
    refine ⟨_, rfl, p, _, 1, _, rfl, rfl, SqT.of ep, rfl, z2, fun t ht => ⟨t, _, rfl, .inr (SqT.of upd_same), rfl, rfl, ?_⟩⟩
    have e : (if false = true then !inV (V.str z) ((["(", ")"] : List Str).map V.str) else inV (V.str z) ((["(", ")"] : List Str).map V.str)) = (decide (PV.tx z = PV.tx "(") || decide (PV.tx z = PV.tx ")")) := by
      rw [if_neg Bool.false_ne_true, inV_str]
      by_cases h1 : z = "("
      · subst h1
        decide +kernel
      · by_cases h2 : z = ")"
        · subst h2
          decide +kernel
        · rw [decide_eq_false (by simp [h1, h2]), decide_eq_false (fun e => h1 (PV.tx.inj e)), decide_eq_false (fun e => h2 (PV.tx.inj e))]
          rfl
    rw [← e] at q
    exact q _ (same_upd ht)
  · have hk : k ≠ "own" := fun e => c (decide_eq_true (by rw [e]))
    rw [decide_eq_false hk, Bool.false_and] at q
    exact q _ (Same.refl _)
/-! ### pieces_of -/
theorem pcs_take {all f at_ many : Nat} {l : List Nat} {c : Nat} (h : l.head? = some c) (h35 : c ≠ 35) (h32 : c ≠ 32) : pcs all (f + 1) at_ many l = match pcAt l with
    | none => .error (at_ + 1)
    | some (k, v, n) =>
      if 300 < (if isBr k v = true then many else many + 1) then .error (at_ + 1)
      else match pcs all f (at_ + n) (if isBr k v = true then many else many + 1) (l.drop n) with
        | .error e => .error e
        | .ok ps => .ok (⟨k, v, at_ + 1⟩ :: ps) := by
  match l with
  | [] => cases h
  | a :: r =>
    have e : a = c := Option.some.inj h
    subst e
    rw [pcs]
    rw [if_neg h35, if_neg h32] <;> rfl
/-- what is read so far, and the rest -/
def joinP (ps : List Pc) : Except Nat (List Pc) → Except Nat (List Pc)
  | .ok qs => .ok (ps ++ qs)
  | .error e => .error e
def spPieces (K : PySem.W.Frag) (C : Addr) : Sp := fun vs H Q E => ∃ (z : Str) (m : Int), vs = [.str z, .int m] ∧ z.length ≤ 100000 ∧
  (∀ ps, piecesOf z = .ok ps → ∀ (l : Addr) (as : List (Addr × Pc)) (H' : Hp), Same H H' → H' l = some (.lst (as.map fun p => .ref p.1)) → PcsAt H' as → as.map (·.2) = ps → Q (.ref l) H') ∧
  ∀ c, piecesOf z = .error c → BadAt C m (c : Nat) H E
abbrev N_pieces_of : List Str := ["text", "number", "pieces", "many", "at", "piece"]
theorem sc_pieces : FnScope N_pieces_of ["text", "number"] (defScope s_pieces_of) := ⟨rfl, rfl, rfl, by decide +kernel, rfl, by decide +kernel, by decide +kernel⟩
theorem ok_pieces {f C fI : Addr} {fd : FuncData} (F : Fun K "pieces_of" "pieces_of" s_pieces_of f fd) (T : PySem.BadY.BadTxt K mg C fI) (m_len : mg "len" = none) (m_M : ∃ t, mg "MOST_PIECES" = some (.int 300 t)) (G_piece_at : Ready P w K mg base 3 "piece_at" ["text", "at"] spPiece) (G_is_bracket : Ready P w K mg base 1 "is_bracket" ["piece"] spBr) : FnOk P w K mg base (L2.CX P w) 4 f fd ["text", "number"] (spPieces K C) := by
  refine F.okX sc_pieces (fun vs H Q E h => ?_) (fun cdv A outer s H vs Q E hr h => ?_)
  · obtain ⟨z, m, rfl, _⟩ := h
    rfl
  obtain ⟨z, m, rfl, hz, q, qe⟩ := h
  obtain ⟨tM, m_M⟩ := m_M
  have nd := sc_pieces.nd
  have hr3 : Room 3 _ := hr
  have hr1 : Room 1 _ := hr.mono (by decide)
  have zl : z.length ≤ sizeLine := Nat.le_trans hz (by decide)
  have z3 : 3 ≤ sizeLine := by decide
  refine ⟨_, pss_cons (ps_set (i := 2) nd rfl (.inl rfl) (pe_lst pa_nil))
      (pss_cons (ps_set (i := 3) nd rfl (.inl rfl) pe_int)
      (pss_cons (ps_set (i := 4) nd rfl (.inl rfl) pe_int)
      (pss_cons (ps_while (passes_of rfl) (PW.pt (pw_and (pt_cmpR op_lt (pv 4) (pe_callB call_len_str (by rfl) m_len PySem.boot_len (pa_cons (pv 0) pa_nil)) (nomark _)) (pw_and1 (pt_cmpR op_ne (pe_ix ix_str (pv 0) (pv 4) (fun _ _ => rfl)) pe_str (nomark _))))) (pss_one (ps_if (pt_cmpR op_eq (pe_ix ix_str (pv 0) (pv 4) (fun _ _ => rfl)) pe_str (nomark _)) (pss_one (ps_aug (i := 4) nd rfl (.inl rfl) pe_int ip_add)) (pss_cons (ps_set (i := 5) nd rfl (.inl rfl) (pe_fn G_piece_at hr3 (pa_cons (pv 0) (pa_cons (pv 4) pa_nil))))
      (pss_cons (ps_if (pt_cmpR op_isN (pv 5) pe_non (nomark _)) (pss_one (ps_raiseBad2 rfl T hr1 (takes_of rfl rfl rfl rfl) (pa_cons (pv 1) (pa_cons (pe_op op_add (pv 4) pe_int) pa_nil)))) (pss_nil))
      (C8.pss_cut (ps_if (pt_not (pt_val (pe_fn G_is_bracket hr1 (pa_cons (pv 5) pa_nil)))) (pss_one (ps_aug (i := 3) nd rfl (.inl rfl) pe_int ip_add)) (pss_nil))
      (pss_cons (ps_if (pt_cmpR op_gt (pv 3) (pe_glob (v := .int 300) rfl m_M ⟨_, rfl⟩) (nomark _)) (pss_one (ps_raiseBad2 rfl T hr1 (takes_of rfl rfl rfl rfl) (pa_cons (pv 1) (pa_cons (pe_op op_add (pv 4) pe_int) pa_nil)))) (pss_nil))
      (pss_cons (ps_expr (pe_bm PySem.F.plainAttrs_list PySem.F.slot_list_append PySem.F.type_list_append mt_append (pv 2) (pa_cons (pe_tup (pa_cons (pe_ix ix_tup (pv 5) pe_int (fun _ _ => rfl)) (pa_cons (pe_ix ix_tup (pv 5) pe_int (fun _ _ => rfl)) (pa_cons (pe_op op_add (pv 4) pe_int) pa_nil)))) pa_nil)))
      (pss_one (ps_set (i := 4) nd rfl (.inl rfl) (pe_ix ix_tup (pv 5) pe_int (fun _ _ => rfl))))))))))))
      (pss_cons (ps_expr (pe_bm PySem.F.plainAttrs_list PySem.F.slot_list_append PySem.F.type_list_append mt_append (pv 2) (pa_cons (pe_tup (pa_cons pe_str (pa_cons pe_str (pa_cons (pe_op op_add (pe_callB call_len_str (by rfl) m_len PySem.boot_len (pa_cons (pv 0) pa_nil)) pe_int) pa_nil)))) pa_nil)))
      (pss_one (ps_ret (pv 2))))))), ?_⟩
  refine ⟨by show 0 ≤ sizeLine; decide, fun L hL => ?_⟩
  have s1 := same_upd (o := .lst []) hL
  have eL0 : upd H L (.lst []) L = some (.lst []) := upd_same
  generalize upd H L (.lst []) = H1 at s1 eL0 ⊢
  let Inv : Nat → L2.St → Hp → Prop := fun mm σ H' => ∃ (j f many : Nat) (y5 : Option V) (as : List (Addr × Pc)), mm = z.length - j ∧ σ = [some (.str z), some (.int m), some (.ref L), some (.int (many : Int)), some (.int (j : Int)), y5] ∧ Same H H' ∧ H' L = some (.lst (as.map fun p => .ref p.1)) ∧ PcsAt H' as ∧ j ≤ z.length + 1 ∧ as.length ≤ j ∧ z.length - j < f ∧ piecesOf z = joinP (as.map (·.2)) (pcs z.length f j many ((tl z).drop j))
  refine ⟨Inv, ⟨_, 0, z.length + 1, 0, none, [], rfl, rfl, s1, eL0, fun p hp => absurd hp List.not_mem_nil, Nat.zero_le _, Nat.le_refl _, by omega, ?_⟩, ?_⟩
  · unfold piecesOf
    rw [List.drop_zero]
    cases pcs z.length (z.length + 1) 0 0 (tl z) <;> rfl
  rintro mm σ H' ⟨j, f', many, y5, as, rfl, rfl, sm, eL, hp, hj, hlen, hf, hpc⟩
  obtain ⟨f, rfl⟩ : ∃ f, f' = f + 1 := ⟨f' - 1, by omega⟩
  refine ⟨_, rfl, _, rfl, z, rfl, zl, _, _, rfl, rfl, _, rfl, ite2 (fun c1 => ?_) (fun c1 => ?_)⟩
  · have hlt : j < z.length := by
      have := of_decide_eq_true c1
      omega
    have hlt' : j < (tl z).length := by rw [← len_tl]; exact hlt
    have hdrop := List.drop_eq_getElem_cons hlt'
    have ec : (tl z)[j]? = some (tl z)[j] := List.getElem?_eq_getElem hlt'
    generalize (tl z)[j] = c at ec hdrop
    have hhead : ((tl z).drop j).head? = some c := by rw [hdrop]; rfl
    have eqS : ∀ (x : Str) (n : Nat), x = ⟨#[n]⟩ → ((V.str ⟨#[c]⟩ = V.str x) ↔ c = n) := fun x n e => by
      rw [e]
      have h := one_sign c n
      by_cases hc : c = n
      · exact ⟨fun _ => hc, fun _ => by rw [hc]⟩
      · rw [decide_eq_false hc] at h
        exact ⟨fun z => absurd z (of_decide_eq_false h), fun z => absurd z hc⟩
    have q35 := eqS "#" 35 (by decide +kernel)
    have q32 := eqS " " 32 (by decide +kernel)
    refine ⟨_, rfl, _, rfl, z, _, c, rfl, rfl, zl, at_str ec, rfl, _, rfl, ite2 (fun c2 => ?_) (fun c2 => ?_)⟩
    · have n35 : c ≠ 35 := fun e => by
        rw [decide_eq_true (q35.mpr e)] at c2
        cases c2
      refine ⟨fun σ' G => ∃ m', m' < z.length - j ∧ Inv m' σ' G, fun σ' G h => h, ?_⟩
      refine ⟨_, rfl, _, rfl, z, _, c, rfl, rfl, zl, at_str ec, rfl, _, rfl, ite2 (fun c3 => ?_) (fun c3 => ?_)⟩
      · have e32 := q32.mp (of_decide_eq_true c3)
        refine ⟨_, rfl, _, _, rfl, rfl, z.length - (j + 1), by omega, j + 1, f, many, y5, as, rfl, rfl, sm, eL, hp, by omega, by omega, by omega, ?_⟩
        rw [hpc, hdrop, pcs, if_neg n35, if_pos e32]
      · have n32 : c ≠ 32 := fun e => c3 (decide_eq_true (q32.mpr e))
        have hstep := pcs_take (all := z.length) (f := f) (at_ := j) (many := many) hhead n35 n32
        refine ⟨_, rfl, _, rfl, z, j, rfl, hz, hlt, fun hn H2 s2 => ?_, fun k v n hkv p H2 s2 ep => ?_⟩
        · have he : piecesOf z = .error (j + 1) := by
            rw [hpc, hstep, hn]
            rfl
          exact ⟨_, rfl, rfl, _, rfl, iteT ⟨_, rfl, _, rfl, _, _, rfl, rfl, _, _, rfl, fun d nd' => qe _ he _ d (sm.trans s2) nd'⟩⟩
        · refine ⟨_, rfl, rfl, _, rfl, iteF ?_⟩
          let many' : Nat := if isBr k v = true then many else many + 1
          refine ⟨fun σ G => σ = [some (.str z), some (.int m), some (.ref L), some (.int (many' : Int)), some (.int (j : Int)), some (.ref p)] ∧ Same H2 G, ?_, ?_⟩
          · refine ⟨_, rfl, p, k, v, _, rfl, ep, fun hk => pcAt_own hkv hk, fun G sG => ⟨_, rfl, ?_⟩⟩
            cases hb : isBr k v with
            | true =>
              refine iteF ⟨?_, sG⟩
              have : many' = many := if_pos hb
              rw [this]
              rfl
            | false =>
              refine iteT ⟨_, rfl, _, _, rfl, rfl, ?_, sG⟩
              have : many' = many + 1 := if_neg (by rw [hb]; exact Bool.false_ne_true)
              rw [this]
              rfl
          · rintro σ G ⟨rfl, sG⟩
            rw [hkv] at hstep
            change _ = (if 300 < many' then (Except.error (j + 1) : Except Nat (List Pc)) else match pcs z.length f (j + n) many' (((tl z).drop j).drop n) with
              | Except.error e => Except.error e
              | Except.ok ps => Except.ok ((⟨k, v, j + 1⟩ : Pc) :: ps)) at hstep
            have sA := sm.trans (s2.trans sG)
            refine ⟨_, rfl, _, _, rfl, rfl, _, rfl, ite2 (fun c4 => ?_) (fun c4 => ?_)⟩
            · have h300 : 300 < many' := by
                have := of_decide_eq_true c4
                omega
              rw [if_pos h300] at hstep
              have he : piecesOf z = .error (j + 1) := by
                rw [hpc, hstep]
                rfl
              exact ⟨_, rfl, _, rfl, _, _, rfl, rfl, _, _, rfl, fun d nd' => qe _ he _ d sA nd'⟩
            · have h300 : ¬ 300 < many' := fun h => c4 (decide_eq_true (by omega))
              rw [if_neg h300] at hstep
              obtain ⟨n1, n2⟩ := pcAt_pos hkv
              rw [List.length_drop, ← len_tl] at n2
              have eLG := sG _ _ (s2 _ _ eL)
              have epG := sG _ _ ep
              refine ⟨_, rfl, .inl ⟨rfl, _, SqL.of eLG⟩, _, rfl, p, _, 0, _, rfl, rfl, SqT.of epG, rfl, _, rfl, p, _, 1, _, rfl, rfl, SqT.of epG, rfl, _, rfl, _, _, rfl, rfl, z3, fun t ht => ?_⟩
              have u := same_upd (o := .tup [.str k, pvV v, .int ((j : Int) + 1)]) ht
              have nL : ∀ {a : Addr} {xs : List V}, (upd G t (.tup [.str k, pvV v, .int ((j : Int) + 1)])) a = some (.tup xs) → a ≠ L := fun e zz => by
                rw [zz, u _ _ eLG] at e
                cases e
              refine ⟨L, _, _, rfl, rfl, u _ _ eLG, Nat.lt_of_le_of_lt (show _ ≤ 100001 by rw [List.length_map]; omega) (by decide), ?_⟩
              refine ⟨_, rfl, p, _, 2, _, rfl, rfl, SqT.of (by rw [upd_ne (nL (u _ _ epG))]; exact u _ _ epG), rfl, ?_⟩
              refine ⟨z.length - (j + n), by omega, j + n, f, many', _, as ++ [(t, ⟨k, v, j + 1⟩)], rfl, rfl, fun a o e => ?_, by rw [upd_same, List.map_append]; rfl, fun x hx => ?_, by omega, by rw [List.length_append]; show as.length + 1 ≤ j + n; omega, by omega, ?_⟩
              · rw [upd_ne (ne_of_none e hL)]
                exact u _ _ (sA _ _ e)
              · rcases List.mem_append.mp hx with hx | hx
                · have e := u _ _ (sG _ _ (s2 _ _ (hp x hx)))
                  rw [upd_ne (nL e)]
                  exact e
                · rw [List.mem_singleton.mp hx, upd_ne (nL upd_same)]
                  exact upd_same
              · rw [hpc, hstep, List.drop_drop, List.map_append]
                cases pcs z.length f (j + n) many' ((tl z).drop (j + n)) with
                | error e => rfl
                | ok ps =>
                  show Except.ok (as.map (·.2) ++ (⟨k, v, j + 1⟩ :: ps)) = .ok ((as.map (·.2) ++ [⟨k, v, j + 1⟩]) ++ ps)
                  rw [List.append_assoc]
                  rfl
    · have e35 : c = 35 := Classical.byContradiction fun z => c2 (by rw [decide_eq_false (fun h => z (q35.mp h))]; rfl)
      have eE : pcs z.length (f + 1) j many ((tl z).drop j) = .ok [⟨"end", .tx "", z.length + 1⟩] := by
        rw [hdrop, pcs, if_pos e35]
      have e1 : piecesOf z = .ok (as.map (·.2) ++ [⟨"end", .tx "", z.length + 1⟩]) := by
        rw [hpc, eE]
        rfl
      refine ⟨_, rfl, .inl ⟨rfl, _, SqL.of eL⟩, _, rfl, z, rfl, zl, _, _, rfl, rfl, z3, fun p hp' => ?_⟩
      have u := same_upd (o := .tup [.str "end", .str "", .int ((z.length : Int) + 1)]) hp'
      refine ⟨L, _, _, rfl, rfl, u _ _ eL, Nat.lt_of_le_of_lt (show _ ≤ 100001 by rw [List.length_map]; omega) (by decide), _, rfl, ?_⟩
      have nL : ∀ {a : Addr} {xs : List V}, (upd H' p (.tup [.str "end", .str "", .int ((z.length : Int) + 1)])) a = some (.tup xs) → a ≠ L := fun e zz => by
        rw [zz, u _ _ eL] at e
        cases e
      refine q _ e1 L (as ++ [(p, ⟨"end", .tx "", z.length + 1⟩)]) _ (fun a o e => ?_) (by rw [upd_same, List.map_append]; rfl) (fun x hx => ?_) (by rw [List.map_append]; rfl)
      · rw [upd_ne (ne_of_none e hL)]
        exact u _ _ (sm _ _ e)
      · rcases List.mem_append.mp hx with hx | hx
        · have e := u _ _ (hp x hx)
          rw [upd_ne (nL e)]
          exact e
        · rw [List.mem_singleton.mp hx, upd_ne (nL upd_same)]
          exact upd_same
  · have hge : z.length ≤ j := by
      have h : ¬ ((j : Int) < (z.length : Int)) := fun h => c1 (decide_eq_true h)
      omega
    have eE : pcs z.length (f + 1) j many ((tl z).drop j) = .ok [⟨"end", .tx "", z.length + 1⟩] := by
      rw [List.drop_eq_nil_of_le (by rw [← len_tl]; exact hge), pcs]
    have e1 : piecesOf z = .ok (as.map (·.2) ++ [⟨"end", .tx "", z.length + 1⟩]) := by
      rw [hpc, eE]
      rfl
    refine ⟨_, rfl, .inl ⟨rfl, _, SqL.of eL⟩, _, rfl, z, rfl, zl, _, _, rfl, rfl, z3, fun p hp' => ?_⟩
    have u := same_upd (o := .tup [.str "end", .str "", .int ((z.length : Int) + 1)]) hp'
    refine ⟨L, _, _, rfl, rfl, u _ _ eL, Nat.lt_of_le_of_lt (show _ ≤ 100001 by rw [List.length_map]; omega) (by decide), _, rfl, ?_⟩
    have nL : ∀ {a : Addr} {xs : List V}, (upd H' p (.tup [.str "end", .str "", .int ((z.length : Int) + 1)])) a = some (.tup xs) → a ≠ L := fun e zz => by
      rw [zz, u _ _ eL] at e
      cases e
    refine q _ e1 L (as ++ [(p, ⟨"end", .tx "", z.length + 1⟩)]) _ (fun a o e => ?_) (by rw [upd_same, List.map_append]; rfl) (fun x hx => ?_) (by rw [List.map_append]; rfl)
    · rw [upd_ne (ne_of_none e hL)]
      exact u _ _ (sm _ _ e)
    · rcases List.mem_append.mp hx with hx | hx
      · have e := u _ _ (hp x hx)
        rw [upd_ne (nL e)]
        exact e
      · rw [List.mem_singleton.mp hx, upd_ne (nL upd_same)]
        exact upd_same
end
end Kx

namespace Kx
open PySem PySem.Spec PyProof.Rows L2 TL
abbrev m_Line_init : Stmt := inClass (topS 35) 0
abbrev m_Line_fail : Stmt := inClass (topS 35) 1
abbrev m_Line_is_kind : Stmt := inClass (topS 35) 2
abbrev m_Line_own_word : Stmt := inClass (topS 35) 3
abbrev m_Line_take : Stmt := inClass (topS 35) 4
abbrev m_Line_take_one_of : Stmt := inClass (topS 35) 5
abbrev m_Line_took : Stmt := inClass (topS 35) 6
abbrev m_Line_expect : Stmt := inClass (topS 35) 7
abbrev m_Line_expect_end : Stmt := inClass (topS 35) 8
/-- the class of lines -/
structure LnC (K : PySem.W.Frag) (CL : Addr) : Prop where
  cls : Cls K CL
  n1 : NoAttr K CL "number"
  n2 : NoAttr K CL "pieces"
  n3 : NoAttr K CL "place"
def lnF (n : Int) (L : Addr) (i : Nat) : List (Str × V) := [("number", .int n), ("pieces", .ref L), ("place", .int (i : Int))]
theorem lk1 {n : Int} {L : Addr} {i : Nat} : List.lookup ("number" : Str) (lnF n L i) = some (V.int n) := by rfl
theorem lk2 {n : Int} {L : Addr} {i : Nat} : List.lookup ("pieces" : Str) (lnF n L i) = some (V.ref L) := by rfl
theorem lk3 {n : Int} {L : Addr} {i : Nat} : List.lookup ("place" : Str) (lnF n L i) = some (V.int (i : Int)) := by rfl
/-- a line, its pieces, and where it stands -/
def LineAt (H : Hp) (CL p : Addr) (n : Int) (ps : List Pc) (i : Nat) : Prop := ∃ (dx L : Addr) (as : List (Addr × Pc)), H p = some (.ins CL dx (lnF n L i)) ∧ H L = some (.lst (as.map fun x => .ref x.1)) ∧ PcsAt H as ∧ as.map (·.2) = ps
theorem LineAt.keep {H H' : Hp} {CL p : Addr} {n : Int} {ps : List Pc} {i : Nat} (h : LineAt H CL p n ps i) (s : Same H H') : LineAt H' CL p n ps i :=
  let ⟨dx, L, as, h1, h2, h3, h4⟩ := h
  ⟨dx, L, as, s _ _ h1, s _ _ h2, h3.keep fun a xs e => s a _ e, h4⟩
def curP (ps : List Pc) (i : Nat) : Pc := ps.getD i ⟨"end", .tx "", 0⟩
theorem curP_of {as : List (Addr × Pc)} {i : Nat} (h : i < (as.map (·.2)).length) : ∃ q, as[i]? = some (q, curP (as.map (·.2)) i) := by
  have hi : i < as.length := by rw [List.length_map] at h; exact h
  refine ⟨as[i].1, ?_⟩
  have e : curP (as.map (·.2)) i = as[i].2 := by
    unfold curP
    rw [List.getD_eq_getElem?_getD, List.getElem?_map, List.getElem?_eq_getElem hi]
    rfl
  rw [e, List.getElem?_eq_getElem hi]
/-- pieces as a line has them: the end's piece is the last, and only it -/
def ownAll : List Str := owns ++ longs ++ shorts.map fun c => mkS [c]
/-- a piece as it comes from a text -/
structure PcOk (x : Pc) : Prop where
  ne : x.kind ≠ "end"
  own : x.kind = "own" → ∃ z, x.val = .tx z ∧ z ∈ ownAll
  num : x.kind = "number" → ∃ n, x.val = .nm n
  txt : x.kind = "quoted" ∨ x.kind = "name" → ∃ z, x.val = .tx z
def EndP (ps : List Pc) : Prop := ∃ (qs : List Pc) (c : Nat), ps = qs ++ [⟨"end", .tx "", c⟩] ∧ ∀ x ∈ qs, PcOk x
theorem pcAt_ok {l : List Nat} {v : PV} {n c : Nat} {k : Str} (h : pcAt l = some (k, v, n)) : PcOk ⟨k, v, c⟩ := by
  have eq : ∀ {k' : Str} {v' : PV} {n' : Nat}, some (k', v', n') = some (k, v, n) → k = k' ∧ v = v' := fun e => by
    injection e with e
    injection e with e1 e2
    injection e2 with e2 e3
    exact ⟨e1.symm, e2.symm⟩
  have own : ∀ z, z ∈ ownAll → PcOk ⟨"own", .tx z, c⟩ := fun z hz => ⟨by show ("own" : Str) ≠ "end"; decide +kernel, fun _ => ⟨z, rfl, hz⟩, fun h => absurd h (show ¬ ("own" : Str) = "number" by decide +kernel), fun h => absurd h (show ¬ (("own" : Str) = "quoted" ∨ ("own" : Str) = "name") by decide +kernel)⟩
  have txt : ∀ w z, (w = "quoted" ∨ w = "name") → PcOk ⟨w, .tx z, c⟩ := fun w z hw => by
    rcases hw with rfl | rfl
    · exact ⟨by show ("quoted" : Str) ≠ "end"; decide +kernel, fun h => absurd h (show ¬ ("quoted" : Str) = "own" by decide +kernel), fun h => absurd h (show ¬ ("quoted" : Str) = "number" by decide +kernel), fun _ => ⟨z, rfl⟩⟩
    · exact ⟨by show ("name" : Str) ≠ "end"; decide +kernel, fun h => absurd h (show ¬ ("name" : Str) = "own" by decide +kernel), fun h => absurd h (show ¬ ("name" : Str) = "number" by decide +kernel), fun _ => ⟨z, rfl⟩⟩
  have num : ∀ m, PcOk ⟨"number", .nm m, c⟩ := fun m => ⟨by show ("number" : Str) ≠ "end"; decide +kernel, fun h => absurd h (show ¬ ("number" : Str) = "own" by decide +kernel), fun _ => ⟨m, rfl⟩, fun h => absurd h (show ¬ (("number" : Str) = "quoted" ∨ ("number" : Str) = "name") by decide +kernel)⟩
  unfold pcAt at h
  match l with
  | [] => cases h
  | a :: r =>
    dsimp only at h
    split at h
    · split at h
      · rename_i ho
        obtain ⟨rfl, rfl⟩ := eq h
        exact own _ (List.mem_append_left _ (List.mem_append_left _ ho))
      · obtain ⟨rfl, rfl⟩ := eq h
        exact txt _ _ (.inr rfl)
    · split at h
      · split at h
        · obtain ⟨rfl, rfl⟩ := eq h
          exact num _
        · cases h
      · split at h
        · split at h
          · obtain ⟨rfl, rfl⟩ := eq h
            exact txt _ _ (.inl rfl)
          · cases h
        · split at h
          · rename_i ho
            obtain ⟨rfl, rfl⟩ := eq h
            exact own _ (List.mem_append_left _ (List.mem_append_right _ ho))
          · split at h
            · rename_i ho
              obtain ⟨rfl, rfl⟩ := eq h
              exact own _ (List.mem_append_right _ (List.mem_map.mpr ⟨a, ho, rfl⟩))
            · cases h
theorem EndP.nil (c : Nat) : EndP [⟨"end", .tx "", c⟩] := ⟨[], c, rfl, fun x h => absurd h List.not_mem_nil⟩
theorem EndP.cons {x : Pc} {ps : List Pc} (hx : PcOk x) (h : EndP ps) : EndP (x :: ps) := by
  obtain ⟨qs, c, rfl, hq⟩ := h
  refine ⟨x :: qs, c, rfl, fun y hy => ?_⟩
  rcases List.mem_cons.mp hy with rfl | hy
  · exact hx
  · exact hq y hy
theorem pcs_end {all : Nat} : ∀ (f at_ many : Nat) (l : List Nat) (ps : List Pc), l.length < f → pcs all f at_ many l = .ok ps → EndP ps
  | 0, _, _, _, _, h, _ => absurd h (Nat.not_lt_zero _)
  | f + 1, at_, many, [], ps, _, h => by
    rw [pcs] at h
    cases h
    exact EndP.nil _
  | f + 1, at_, many, c :: r, ps, hl, h => by
    have hl' : r.length < f := Nat.lt_of_succ_lt_succ hl
    by_cases h35 : c = 35
    · rw [pcs, if_pos h35] at h
      cases h
      exact EndP.nil _
    · by_cases h32 : c = 32
      · rw [pcs, if_neg h35, if_pos h32] at h
        exact pcs_end f _ _ r ps hl' h
      · rw [pcs_take (c := c) rfl h35 h32] at h
        cases hp : pcAt (c :: r) with
        | none =>
          rw [hp] at h
          cases h
        | some t =>
          obtain ⟨k, v, n⟩ := t
          rw [hp] at h
          dsimp only at h
          generalize (if isBr k v = true then many else many + 1) = mm at h
          by_cases h300 : 300 < mm
          · rw [if_pos h300] at h
            cases h
          · rw [if_neg h300] at h
            cases hr : pcs all f (at_ + n) mm ((c :: r).drop n) with
            | error e =>
              rw [hr] at h
              cases h
            | ok qs =>
              rw [hr] at h
              cases h
              have hn := (pcAt_pos hp).1
              exact EndP.cons (pcAt_ok hp) (pcs_end f _ _ _ qs (by rw [List.length_drop, List.length_cons]; omega) hr)
theorem pieces_end {z : Str} {ps : List Pc} (h : piecesOf z = .ok ps) : EndP ps := pcs_end _ _ _ _ ps (by rw [← len_tl]; exact Nat.lt_succ_self _) h
section
variable {P : Program} {w : World} {K : PySem.W.Frag} {mg : Str → Option Value} {base : Heap}
theorem noE {X : Cx} : Passes (L2.CX X.prog X.w) X E0 := fun _ _ _ _ _ _ _ ⟨_, _, _, _, _, _, _, _, _, _, _, _, z⟩ => z.elim
/-! ### fail -/
def spFail (C CL : Addr) : Sp := fun vs H Q E => ∃ (p : Addr) (n : Int) (ps : List Pc) (i : Nat), vs = [.ref p] ∧ LineAt H CL p n ps i ∧ i < ps.length ∧ BadAt C n ((curP ps i).col : Nat) H E
theorem sc_fail : FnScope ["self"] ["self"] (defScope m_Line_fail) := ⟨rfl, rfl, rfl, by decide +kernel, rfl, by decide +kernel, by decide +kernel⟩
theorem ok_fail {f C fI CL : Addr} {fd : FuncData} (F : Fun K "fail" "Line.fail" m_Line_fail f fd) (T : PySem.BadY.BadTxt K mg C fI) (Z : LnC K CL) : FnOk P w K mg base (L2.CX P w) 2 f fd ["self"] (spFail C CL) := by
  refine F.okX sc_fail (fun vs H Q E h => ?_) (fun cdv A outer s H vs Q E hr h => ?_)
  · obtain ⟨p, n, ps, i, rfl, _⟩ := h
    rfl
  obtain ⟨p, n, ps, i, rfl, hl, hi, q⟩ := h
  have hr1 : Room 1 _ := hr
  refine ⟨_, pss_one (ps_raiseBad2 rfl T hr1 (takes_of rfl rfl rfl rfl) (pa_cons (pe_fld (pv 0) rfl) (pa_cons (pe_ix ix_tup (pe_ix (show IxR _ (rIxL K) from ix_list) (pe_fld (pv 0) rfl) (pe_fld (pv 0) rfl) (fun _ _ => rfl)) pe_int (fun _ _ => rfl)) pa_nil))), ?_⟩
  obtain ⟨dx, L, as, h1, h2, h3, rfl⟩ := hl
  obtain ⟨qa, hq⟩ := curP_of hi
  refine ⟨_, rfl, p, CL, dx, _, _, rfl, h1, Z.cls, Z.n1, lk1, _, rfl, p, CL, dx, _, _, rfl, h1, Z.cls, Z.n2, lk2, _, rfl, p, CL, dx, _, _, rfl, h1, Z.cls, Z.n3, lk3, L, _, (i : Int), _, rfl, rfl, SqL.of h2, atI_nat (by rw [List.getElem?_map, hq]; rfl), qa, _, 2, _, rfl, rfl, SqT.of (h3 _ (List.mem_of_getElem? hq)), rfl, _, _, rfl, fun d nd' => q _ d (Same.refl _) nd'⟩
/-! ### is_kind -/
def spIsKind (CL : Addr) : Sp := fun vs H Q _ => ∃ (p : Addr) (n : Int) (ps : List Pc) (i : Nat) (k : Str), vs = [.ref p, .str k] ∧ LineAt H CL p n ps i ∧ i < ps.length ∧ Q (.bl (decide ((curP ps i).kind = k))) H
theorem sc_iskind : FnScope ["self", "kind"] ["self", "kind"] (defScope m_Line_is_kind) := ⟨rfl, rfl, rfl, by decide +kernel, rfl, by decide +kernel, by decide +kernel⟩
theorem dec_str (a b : Str) : decide (V.str a = V.str b) = decide (a = b) := decide_eq_decide.mpr ⟨fun e => V.str.inj e, fun e => by rw [e]⟩
theorem ok_iskind {f CL : Addr} {fd : FuncData} (F : Fun K "is_kind" "Line.is_kind" m_Line_is_kind f fd) (Z : LnC K CL) : FnOk P w K mg base (L2.CX P w) 1 f fd ["self", "kind"] (spIsKind CL) := by
  refine F.okX sc_iskind (fun vs H Q E h => ?_) (fun cdv A outer s H vs Q E hr h => ?_)
  · obtain ⟨p, n, ps, i, k, rfl, _⟩ := h
    rfl
  obtain ⟨p, n, ps, i, k, rfl, hl, hi, q⟩ := h
  refine ⟨_, pss_one (ps_ret (pe_cmpR op_eq (pe_ix ix_tup (pe_ix (show IxR _ (rIxL K) from ix_list) (pe_fld (pv 0) rfl) (pe_fld (pv 0) rfl) (fun _ _ => rfl)) pe_int (fun _ _ => rfl)) (pv 1) (nomark _))), ?_⟩
  obtain ⟨dx, L, as, h1, h2, h3, rfl⟩ := hl
  obtain ⟨qa, hq⟩ := curP_of hi
  refine ⟨_, rfl, p, CL, dx, _, _, rfl, h1, Z.cls, Z.n2, lk2, _, rfl, p, CL, dx, _, _, rfl, h1, Z.cls, Z.n3, lk3, L, _, (i : Int), _, rfl, rfl, SqL.of h2, atI_nat (by rw [List.getElem?_map, hq]; rfl), qa, _, 0, _, rfl, rfl, SqT.of (h3 _ (List.mem_of_getElem? hq)), rfl, _, rfl, rfl, ?_⟩
  rw [dec_str]
  exact q
/-! ### own_word -/
def ownW (ps : List Pc) (i : Nat) : Str := if (curP ps i).kind = "own" then (match (curP ps i).val with
  | .tx z => z
  | .nm _ => "") else ""
theorem cur_mem {ps : List Pc} {i : Nat} (h : i < ps.length) : curP ps i ∈ ps := by
  unfold curP
  rw [List.getD_eq_getElem?_getD, List.getElem?_eq_getElem h]
  exact List.getElem_mem h
theorem EndP.own {ps : List Pc} (h : EndP ps) {i : Nat} (hi : i < ps.length) (hk : (curP ps i).kind = "own") : (curP ps i).val = .tx (ownW ps i) := by
  obtain ⟨qs, c, rfl, hq⟩ := h
  have hm := cur_mem hi
  unfold ownW
  rw [if_pos hk]
  rcases List.mem_append.mp hm with hm | hm
  · obtain ⟨z, e, _⟩ := (hq _ hm).own hk
    rw [e]
  · rw [List.mem_singleton.mp hm] at hk
    exact absurd hk (show ¬ ("end" : Str) = "own" by decide +kernel)
theorem EndP.next {ps : List Pc} (h : EndP ps) {i : Nat} (hi : i < ps.length) (hk : (curP ps i).kind ≠ "end") : i + 1 < ps.length := by
  obtain ⟨qs, c, rfl, hq⟩ := h
  rw [List.length_append] at hi ⊢
  by_cases z : i < qs.length
  · show i + 1 < qs.length + 1
    omega
  · exfalso
    apply hk
    have e : i = qs.length := by
      have : i < qs.length + 1 := hi
      omega
    unfold curP
    rw [List.getD_eq_getElem?_getD, e, List.getElem?_append_right (Nat.le_refl _), Nat.sub_self]
    rfl
def spOwn (CL : Addr) : Sp := fun vs H Q _ => ∃ (p : Addr) (n : Int) (ps : List Pc) (i : Nat), vs = [.ref p] ∧ LineAt H CL p n ps i ∧ i < ps.length ∧ EndP ps ∧ Q (.str (ownW ps i)) H
theorem sc_own : FnScope ["self"] ["self"] (defScope m_Line_own_word) := ⟨rfl, rfl, rfl, by decide +kernel, rfl, by decide +kernel, by decide +kernel⟩
theorem ok_own {f CL : Addr} {fd : FuncData} (F : Fun K "own_word" "Line.own_word" m_Line_own_word f fd) (Z : LnC K CL) (G_is_kind : ReadyM P w K mg base CL 1 "is_kind" ["self", "kind"] (spIsKind CL)) : FnOk P w K mg base (L2.CX P w) 2 f fd ["self"] (spOwn CL) := by
  refine F.okX sc_own (fun vs H Q E h => ?_) (fun cdv A outer s H vs Q E hr h => ?_)
  · obtain ⟨p, n, ps, i, rfl, _⟩ := h
    rfl
  obtain ⟨p, n, ps, i, rfl, hl, hi, he, q⟩ := h
  have hr1 : Room 1 _ := hr
  refine ⟨_, pss_cons (ps_if (pt_val (pe_m G_is_kind Z.cls hr1 noE (pv 0) (pa_cons pe_str pa_nil))) (pss_one (ps_ret (pe_ix ix_tup (pe_ix (show IxR _ (rIxL K) from ix_list) (pe_fld (pv 0) rfl) (pe_fld (pv 0) rfl) (fun _ _ => rfl)) pe_int (fun _ _ => rfl)))) (pss_nil))
      (pss_one (ps_ret pe_str)), ?_⟩
  obtain ⟨dx, L, as, h1, h2, h3, h4⟩ := id hl
  refine ⟨_, rfl, p, dx, _, rfl, h1, rfl, p, n, ps, i, _, rfl, hl, hi, _, rfl, ite2 (fun c => ?_) (fun c => ?_)⟩
  · have hk := of_decide_eq_true c
    have hv := he.own hi hk
    subst h4
    obtain ⟨qa, hq⟩ := curP_of hi
    have ht := h3 _ (List.mem_of_getElem? hq)
    dsimp only at ht
    rw [hv] at ht
    exact ⟨_, rfl, p, CL, dx, _, _, rfl, h1, Z.cls, Z.n2, lk2, _, rfl, p, CL, dx, _, _, rfl, h1, Z.cls, Z.n3, lk3, L, _, (i : Int), _, rfl, rfl, SqL.of h2, atI_nat (by rw [List.getElem?_map, hq]; rfl), qa, _, 1, _, rfl, rfl, SqT.of ht, rfl, q⟩
  · have hk : ¬ (curP ps i).kind = "own" := fun e => c (decide_eq_true e)
    have e : ownW ps i = "" := if_neg hk
    rw [e] at q
    exact q
/-! ### take -/
/-- nothing but the line's place changes -/
structure ButL (p : Addr) (H H' : Hp) : Prop where
  b : But p H H'
  f : ∀ (C dx L : Addr) (n : Int) (i : Nat), H p = some (.ins C dx (lnF n L i)) → ∃ i', H' p = some (.ins C dx (lnF n L i'))
theorem ButL.refl (p : Addr) (H : Hp) : ButL p H H := ⟨But.refl _ _, fun C dx L n i e => ⟨i, e⟩⟩
theorem ButL.trans {p : Addr} {H H' H2 : Hp} (a : ButL p H H') (b : ButL p H' H2) : ButL p H H2 := ⟨a.b.trans b.b, fun C dx L n i e => let ⟨i', e'⟩ := a.f C dx L n i e; b.f C dx L n i' e'⟩
theorem sameL {p : Addr} {H H' : Hp} (s : Same H H') : ButL p H H' := ⟨same_but s, fun C dx L n i e => ⟨i, s _ _ e⟩⟩
theorem butL_upd {H : Hp} {C p dx L : Addr} {n : Int} {i i' : Nat} (h : H p = some (.ins C dx (lnF n L i))) : ButL p H (upd H p (.ins C dx (lnF n L i'))) := by
  refine ⟨fun a o' ha e => by rw [upd_ne ha]; exact e, fun C2 dx2 L2 n2 i2 e => ⟨i', ?_⟩⟩
  rw [h] at e
  injection e with e
  injection e with e1 e2 e3
  have e4 : (V.ref L : V) = V.ref L2 := by
    have h0 := congrArg (List.lookup ("pieces" : Str)) e3
    rw [lk2, lk2] at h0
    exact Option.some.inj h0
  have e5 : (V.int n : V) = V.int n2 := by
    have h0 := congrArg (List.lookup ("number" : Str)) e3
    rw [lk1, lk1] at h0
    exact Option.some.inj h0
  injection e4 with e4
  injection e5 with e5
  subst e1 e2 e4 e5
  exact upd_same
theorem LineAt.go {H : Hp} {CL p dx L : Addr} {n : Int} {as : List (Addr × Pc)} {i : Nat} (h1 : H p = some (.ins CL dx (lnF n L i))) (h2 : H L = some (.lst (as.map fun x => .ref x.1))) (h3 : PcsAt H as) : LineAt (upd H p (.ins CL dx (lnF n L (i + 1)))) CL p n (as.map (·.2)) (i + 1) := by
  refine ⟨dx, L, as, upd_same, ?_, h3.keep fun a xs e => ?_, rfl⟩
  · rw [upd_ne (fun z => by rw [z, h1] at h2; cases h2)]
    exact h2
  · rw [upd_ne (fun z => by rw [z, h1] at e; cases e)]
    exact e
def spTake (C CL : Addr) : Sp := fun vs H Q E => ∃ (p : Addr) (n : Int) (ps : List Pc) (i : Nat) (k : Str), vs = [.ref p, .str k] ∧ LineAt H CL p n ps i ∧ i < ps.length ∧
  ((curP ps i).kind = k → ∀ H', ButL p H H' → LineAt H' CL p n ps (i + 1) → Q (pvV (curP ps i).val) H') ∧ ((curP ps i).kind ≠ k → BadAt C n ((curP ps i).col : Nat) H E)
theorem sc_take : FnScope ["self", "kind", "value"] ["self", "kind"] (defScope m_Line_take) := ⟨rfl, rfl, rfl, by decide +kernel, rfl, by decide +kernel, by decide +kernel⟩
theorem but_upd {H : Hp} {p : Addr} {o : HO} : But p H (upd H p o) := fun a o' ha e => by
  rw [upd_ne ha]
  exact e
theorem ok_take {f C CL : Addr} {fd : FuncData} (F : Fun K "take" "Line.take" m_Line_take f fd) (Z : LnC K CL) (G_is_kind : ReadyM P w K mg base CL 1 "is_kind" ["self", "kind"] (spIsKind CL)) (G_fail : ReadyM P w K mg base CL 2 "fail" ["self"] (spFail C CL)) : FnOk P w K mg base (L2.CX P w) 3 f fd ["self", "kind"] (spTake C CL) := by
  refine F.okX sc_take (fun vs H Q E h => ?_) (fun cdv A outer s H vs Q E hr h => ?_)
  · obtain ⟨p, n, ps, i, k, rfl, _⟩ := h
    rfl
  obtain ⟨p, n, ps, i, k, rfl, hl, hi, q, qe⟩ := h
  have nd := sc_take.nd
  have hr2 : Room 2 _ := hr
  have hr1 : Room 1 _ := hr.mono (by decide)
  refine ⟨_, pss_cons (ps_if (pt_not (pt_val (pe_m G_is_kind Z.cls hr1 noE (pv 0) (pa_cons (pv 1) pa_nil)))) (pss_one (ps_expr (pe_m0' G_fail Z.cls hr2 (onward (takes_of rfl rfl rfl rfl)) (pv 0)))) (pss_nil))
      (pss_cons (ps_set (i := 2) nd rfl (.inl rfl) (pe_ix ix_tup (pe_ix (show IxR _ (rIxL K) from ix_list) (pe_fld (pv 0) rfl) (pe_fld (pv 0) rfl) (fun _ _ => rfl)) pe_int (fun _ _ => rfl)))
      (pss_cons (ps_fldaug (pv 0) pe_int ip_add)
      (pss_one (ps_ret (pv 2))))), ?_⟩
  obtain ⟨dx, L, as, h1, h2, h3, h4⟩ := id hl
  refine ⟨_, rfl, p, dx, _, rfl, h1, rfl, _, rfl, p, n, ps, i, k, rfl, hl, hi, _, rfl, ?_⟩
  by_cases hk : (curP ps i).kind = k
  · rw [decide_eq_true hk]
    refine iteF ?_
    subst h4
    obtain ⟨qa, hq⟩ := curP_of hi
    refine ⟨_, rfl, p, CL, dx, _, _, rfl, h1, Z.cls, Z.n2, lk2, _, rfl, p, CL, dx, _, _, rfl, h1, Z.cls, Z.n3, lk3, L, _, (i : Int), _, rfl, rfl, SqL.of h2, atI_nat (by rw [List.getElem?_map, hq]; rfl), qa, _, 1, _, rfl, rfl, SqT.of (h3 _ (List.mem_of_getElem? hq)), rfl, ?_⟩
    refine ⟨_, rfl, p, CL, dx, _, _, rfl, h1, Z.cls, Z.n3, lk3, _, _, rfl, rfl, dx, _, h1, by show 3 < 1000; decide, _, rfl, ?_⟩
    exact q hk _ (butL_upd h1) (LineAt.go h1 h2 h3)
  · rw [decide_eq_false hk]
    exact iteT ⟨_, rfl, p, dx, _, rfl, h1, rfl, p, n, ps, i, rfl, hl, hi, qe hk⟩
/-! ### took -/
def spTook (CL : Addr) : Sp := fun vs H Q _ => ∃ (p : Addr) (n : Int) (ps : List Pc) (i : Nat) (k : Str), vs = [.ref p, .str k] ∧ LineAt H CL p n ps i ∧ i < ps.length ∧ EndP ps ∧
  (ownW ps i = k → ∀ H', ButL p H H' → LineAt H' CL p n ps (i + 1) → Q (.bl true) H') ∧ (ownW ps i ≠ k → Q (.bl false) H)
theorem sc_took : FnScope ["self", "word"] ["self", "word"] (defScope m_Line_took) := ⟨rfl, rfl, rfl, by decide +kernel, rfl, by decide +kernel, by decide +kernel⟩
theorem ok_took {f CL : Addr} {fd : FuncData} (F : Fun K "took" "Line.took" m_Line_took f fd) (Z : LnC K CL) (G_own : ReadyM P w K mg base CL 2 "own_word" ["self"] (spOwn CL)) : FnOk P w K mg base (L2.CX P w) 3 f fd ["self", "word"] (spTook CL) := by
  refine F.okX sc_took (fun vs H Q E h => ?_) (fun cdv A outer s H vs Q E hr h => ?_)
  · obtain ⟨p, n, ps, i, k, rfl, _⟩ := h
    rfl
  obtain ⟨p, n, ps, i, k, rfl, hl, hi, he, q, q2⟩ := h
  have hr2 : Room 2 _ := hr
  refine ⟨_, pss_cons (ps_if (pt_cmpR op_ne (pe_m0' G_own Z.cls hr2 noE (pv 0)) (pv 1) (nomark _)) (pss_one (ps_ret pe_bl)) (pss_nil))
      (pss_cons (ps_fldaug (pv 0) pe_int ip_add)
      (pss_one (ps_ret pe_bl))), ?_⟩
  obtain ⟨dx, L, as, h1, h2, h3, h4⟩ := id hl
  refine ⟨_, rfl, p, dx, _, rfl, h1, rfl, p, n, ps, i, rfl, hl, hi, he, _, rfl, rfl, _, rfl, ?_⟩
  rw [dec_str]
  by_cases hk : ownW ps i = k
  · rw [decide_eq_true hk]
    refine iteF ?_
    refine ⟨_, rfl, p, CL, dx, _, _, rfl, h1, Z.cls, Z.n3, lk3, _, _, rfl, rfl, dx, _, h1, by show 3 < 1000; decide, ?_⟩
    subst h4
    exact q hk _ (butL_upd h1) (LineAt.go h1 h2 h3)
  · rw [decide_eq_false hk]
    exact iteT (q2 hk)
/-! ### expect, expect_end, take_one_of -/
def spExpect (C CL : Addr) : Sp := fun vs H Q E => ∃ (p : Addr) (n : Int) (ps : List Pc) (i : Nat) (k : Str), vs = [.ref p, .str k] ∧ LineAt H CL p n ps i ∧ i < ps.length ∧ EndP ps ∧
  (ownW ps i = k → ∀ H', ButL p H H' → LineAt H' CL p n ps (i + 1) → Q .non H') ∧ (ownW ps i ≠ k → BadAt C n ((curP ps i).col : Nat) H E)
theorem sc_expect : FnScope ["self", "word"] ["self", "word"] (defScope m_Line_expect) := ⟨rfl, rfl, rfl, by decide +kernel, rfl, by decide +kernel, by decide +kernel⟩
theorem ok_expect {f C CL : Addr} {fd : FuncData} (F : Fun K "expect" "Line.expect" m_Line_expect f fd) (Z : LnC K CL) (G_took : ReadyM P w K mg base CL 3 "took" ["self", "word"] (spTook CL)) (G_fail : ReadyM P w K mg base CL 2 "fail" ["self"] (spFail C CL)) : FnOk P w K mg base (L2.CX P w) 4 f fd ["self", "word"] (spExpect C CL) := by
  refine F.okX sc_expect (fun vs H Q E h => ?_) (fun cdv A outer s H vs Q E hr h => ?_)
  · obtain ⟨p, n, ps, i, k, rfl, _⟩ := h
    rfl
  obtain ⟨p, n, ps, i, k, rfl, hl, hi, he, q, qe⟩ := h
  have hr3 : Room 3 _ := hr
  have hr2 : Room 2 _ := hr.mono (by decide)
  refine ⟨_, pss_one (ps_if (pt_not (pt_val (pe_m G_took Z.cls hr3 noE (pv 0) (pa_cons (pv 1) pa_nil)))) (pss_one (ps_expr (pe_m0' G_fail Z.cls hr2 (onward (takes_of rfl rfl rfl rfl)) (pv 0)))) (pss_nil)), ?_⟩
  obtain ⟨dx, L, as, h1, h2, h3, h4⟩ := id hl
  exact ⟨_, rfl, p, dx, _, rfl, h1, rfl, _, rfl, p, n, ps, i, k, rfl, hl, hi, he, fun hk H' b hl' => ⟨_, rfl, iteF (q hk H' b hl')⟩, fun hk => ⟨_, rfl, iteT ⟨_, rfl, p, dx, _, rfl, h1, rfl, p, n, ps, i, rfl, hl, hi, qe hk⟩⟩⟩
def spExpEnd (C CL : Addr) : Sp := fun vs H Q E => ∃ (p : Addr) (n : Int) (ps : List Pc) (i : Nat), vs = [.ref p] ∧ LineAt H CL p n ps i ∧ i < ps.length ∧
  ((curP ps i).kind = "end" → Q .non H) ∧ ((curP ps i).kind ≠ "end" → BadAt C n ((curP ps i).col : Nat) H E)
theorem sc_expend : FnScope ["self"] ["self"] (defScope m_Line_expect_end) := ⟨rfl, rfl, rfl, by decide +kernel, rfl, by decide +kernel, by decide +kernel⟩
theorem ok_expend {f C CL : Addr} {fd : FuncData} (F : Fun K "expect_end" "Line.expect_end" m_Line_expect_end f fd) (Z : LnC K CL) (G_is_kind : ReadyM P w K mg base CL 1 "is_kind" ["self", "kind"] (spIsKind CL)) (G_fail : ReadyM P w K mg base CL 2 "fail" ["self"] (spFail C CL)) : FnOk P w K mg base (L2.CX P w) 3 f fd ["self"] (spExpEnd C CL) := by
  refine F.okX sc_expend (fun vs H Q E h => ?_) (fun cdv A outer s H vs Q E hr h => ?_)
  · obtain ⟨p, n, ps, i, rfl, _⟩ := h
    rfl
  obtain ⟨p, n, ps, i, rfl, hl, hi, q, qe⟩ := h
  have hr2 : Room 2 _ := hr
  have hr1 : Room 1 _ := hr.mono (by decide)
  refine ⟨_, pss_one (ps_if (pt_not (pt_val (pe_m G_is_kind Z.cls hr1 noE (pv 0) (pa_cons pe_str pa_nil)))) (pss_one (ps_expr (pe_m0' G_fail Z.cls hr2 (onward (takes_of rfl rfl rfl rfl)) (pv 0)))) (pss_nil)), ?_⟩
  obtain ⟨dx, L, as, h1, h2, h3, h4⟩ := id hl
  refine ⟨_, rfl, p, dx, _, rfl, h1, rfl, p, n, ps, i, _, rfl, hl, hi, _, rfl, ?_⟩
  by_cases hk : (curP ps i).kind = "end"
  · rw [decide_eq_true hk]
    exact iteF (q hk)
  · rw [decide_eq_false hk]
    exact iteT ⟨_, rfl, p, dx, _, rfl, h1, rfl, p, n, ps, i, rfl, hl, hi, qe hk⟩
def spTakeOne (K : PySem.W.Frag) (C CL : Addr) : Sp := fun vs H Q E => ∃ (p wa : Addr) (n : Int) (ps : List Pc) (i : Nat) (ws : List Str), vs = [.ref p, .ref wa] ∧ LineAt H CL p n ps i ∧ i < ps.length ∧ EndP ps ∧ (SqL K H wa (ws.map V.str) ∨ SqT K H wa (ws.map V.str)) ∧ ("" : Str) ∉ ws ∧
  (ownW ps i ∈ ws → ∀ H', ButL p H H' → LineAt H' CL p n ps (i + 1) → Q (.str (ownW ps i)) H') ∧ (ownW ps i ∉ ws → BadAt C n ((curP ps i).col : Nat) H E)
theorem sc_takeone : FnScope ["self", "words"] ["self", "words"] (defScope m_Line_take_one_of) := ⟨rfl, rfl, rfl, by decide +kernel, rfl, by decide +kernel, by decide +kernel⟩
theorem notin_strs {z : Str} {l : List Str} {A B : Prop} (h1 : z ∉ l → A) (h2 : z ∈ l → B) : if (if true = true then !inV (.str z) (l.map V.str) else inV (.str z) (l.map V.str)) = true then A else B := by
  rw [if_pos rfl, inV_str]
  by_cases h : z ∈ l
  · rw [decide_eq_true h]
    exact iteF (h2 h)
  · rw [decide_eq_false h]
    exact iteT (h1 h)
theorem ok_takeone {f C CL : Addr} {fd : FuncData} (F : Fun K "take_one_of" "Line.take_one_of" m_Line_take_one_of f fd) (Z : LnC K CL) (G_own : ReadyM P w K mg base CL 2 "own_word" ["self"] (spOwn CL)) (G_fail : ReadyM P w K mg base CL 2 "fail" ["self"] (spFail C CL)) (G_take : ReadyM P w K mg base CL 3 "take" ["self", "kind"] (spTake C CL)) : FnOk P w K mg base (L2.CX P w) 4 f fd ["self", "words"] (spTakeOne K C CL) := by
  refine F.okX sc_takeone (fun vs H Q E h => ?_) (fun cdv A outer s H vs Q E hr h => ?_)
  · obtain ⟨p, wa, n, ps, i, ws, rfl, _⟩ := h
    rfl
  obtain ⟨p, wa, n, ps, i, ws, rfl, hl, hi, he, hw, h0, q, qe⟩ := h
  have hr3 : Room 3 _ := hr
  have hr2 : Room 2 _ := hr.mono (by decide)
  refine ⟨_, pss_cons (ps_if (pt_cmpR op_notIn_seq (pe_m0' G_own Z.cls hr2 noE (pv 0)) (pv 1) rfl) (pss_one (ps_expr (pe_m0' G_fail Z.cls hr2 (onward (takes_of rfl rfl rfl rfl)) (pv 0)))) (pss_nil))
      (pss_one (ps_ret (pe_m G_take Z.cls hr3 (onward (takes_of rfl rfl rfl rfl)) (pv 0) (pa_cons pe_str pa_nil)))), ?_⟩
  obtain ⟨dx, L, as, h1, h2, h3, h4⟩ := id hl
  refine ⟨_, rfl, p, dx, _, rfl, h1, rfl, p, n, ps, i, rfl, hl, hi, he, _, rfl, wa, _, rfl, hw, rfl, flat_strs _, _, rfl, notin_strs (fun hk => ?_) (fun hk => ?_)⟩
  · exact ⟨_, rfl, p, dx, _, rfl, h1, rfl, p, n, ps, i, rfl, hl, hi, qe hk⟩
  · have hown : (curP ps i).kind = "own" := Classical.byContradiction fun z => h0 (by
      have e : ownW ps i = "" := if_neg z
      rw [← e]
      exact hk)
    refine ⟨_, rfl, p, dx, _, rfl, h1, rfl, p, n, ps, i, _, rfl, hl, hi, fun _ H' b hl' => ?_, fun z => absurd hown z⟩
    rw [he.own hi hown]
    exact q hk H' b hl'
/-! ### __init__ -/
def spInit (C CL : Addr) : Sp := fun vs H Q E => ∃ (p dx : Addr) (z : Str) (m : Int), vs = [.ref p, .str z, .int m] ∧ H p = some (.ins CL dx []) ∧ z.length ≤ 100000 ∧
  (∀ ps, piecesOf z = .ok ps → ∀ H', But p H H' → LineAt H' CL p m ps 0 → Q .non H') ∧ ∀ c, piecesOf z = .error c → ∀ (H' : Hp) (d : Addr), But p H H' → H' d = none → E (.ref C) (some d) (upd H' d (.xd [("line", .int m), ("column", .int (c : Nat))]))
theorem sc_init : FnScope ["self", "text", "number"] ["self", "text", "number"] (defScope m_Line_init) := ⟨rfl, rfl, rfl, by decide +kernel, rfl, by decide +kernel, by decide +kernel⟩
theorem ok_init {f C CL : Addr} {fd : FuncData} (F : Fun K "__init__" "Line.__init__" m_Line_init f fd) (Z : LnC K CL) (G_pieces_of : ReadyX P w K mg base 4 "pieces_of" ["text", "number"] (spPieces K C)) : FnOk P w K mg base (L2.CX P w) 5 f fd ["self", "text", "number"] (spInit C CL) := by
  refine F.okX sc_init (fun vs H Q E h => ?_) (fun cdv A outer s H vs Q E hr h => ?_)
  · obtain ⟨p, dx, z, m, rfl, _⟩ := h
    rfl
  obtain ⟨p, dx, z, m, rfl, hp, hz, q, qe⟩ := h
  have hr4 : Room 4 _ := hr
  refine ⟨_, pss_cons (ps_fld (pv 0) (pv 2) rfl)
      (pss_cons (ps_fld (pv 0) (pe_fnX G_pieces_of hr4 (takes_of rfl rfl rfl rfl) (pa_cons (pv 1) (pa_cons (pv 2) pa_nil))) rfl)
      (pss_one (ps_fld (pv 0) pe_int rfl))), ?_⟩
  refine ⟨_, rfl, _, rfl, p, CL, dx, _, rfl, hp, Z.cls, Z.n1, by show 0 < 1000; decide, ?_⟩
  have b1 : But p H (upd H p (.ins CL dx (putF "number" (.int m) []))) := but_upd
  have e1 : upd H p (.ins CL dx (putF "number" (.int m) [])) p = some (.ins CL dx [("number", .int m)]) := upd_same
  generalize upd H p (.ins CL dx (putF "number" (.int m) [])) = H1 at b1 e1 ⊢
  refine ⟨_, rfl, _, rfl, z, m, rfl, hz, fun ps hps L as H2 s2 eL hpc hmap => ?_, fun c hc H2 d s2 nd' => ?_⟩
  · have ep := s2 _ _ e1
    refine ⟨_, rfl, p, CL, dx, _, rfl, ep, Z.cls, Z.n2, by show 1 < 1000; decide, ?_⟩
    have nL : L ≠ p := fun zz => by
      rw [zz, ep] at eL
      cases eL
    have e2 : upd H2 p (.ins CL dx (putF "pieces" (.ref L) [("number", .int m)])) p = some (.ins CL dx [("number", .int m), ("pieces", .ref L)]) := upd_same
    have b2 : But p H (upd H2 p (.ins CL dx (putF "pieces" (.ref L) [("number", .int m)]))) := fun a o ha e => by
      rw [upd_ne ha]
      exact s2 _ _ (b1 a o ha e)
    have eL2 : upd H2 p (.ins CL dx (putF "pieces" (.ref L) [("number", .int m)])) L = some (.lst (as.map fun x => .ref x.1)) := by
      rw [upd_ne nL]
      exact eL
    have hp2 : PcsAt (upd H2 p (.ins CL dx (putF "pieces" (.ref L) [("number", .int m)]))) as := hpc.keep fun a xs e => by
      rw [upd_ne (fun zz => by rw [zz, ep] at e; cases e)]
      exact e
    generalize upd H2 p (.ins CL dx (putF "pieces" (.ref L) [("number", .int m)])) = H3 at e2 b2 eL2 hp2 ⊢
    refine ⟨_, rfl, p, CL, dx, _, rfl, e2, Z.cls, Z.n3, by show 2 < 1000; decide, ?_⟩
    refine q ps hps _ (b2.trans but_upd) ⟨dx, L, as, upd_same, ?_, hp2.keep fun a xs e => ?_, hmap⟩
    · rw [upd_ne nL]
      exact eL2
    · rw [upd_ne (fun zz => by rw [zz, e2] at e; cases e)]
      exact e
  · exact qe c hc H2 d (fun a o ha e => s2 _ _ (b1 a o ha e)) nd'
end
end Kx

namespace Kx
open PySem PySem.Spec PyProof.Rows L2 TL
abbrev s_parts_of : Stmt := topS 11
abbrev s_rows_of_parts : Stmt := topS 12
abbrev s_how_many : Stmt := topS 13
abbrev s_how_deep : Stmt := topS 14
abbrev s_is_large : Stmt := topS 15
/-! ### expressions, and how they stand -/
inductive Ex where
  | num (i : Int)
  | quo (z : Str)
  | col (x : Str)
  | two (op : Str) (a b : Ex)
  | nt (a : Ex)
  | mn (a : Ex)
  | ln (a : Ex)
def Ex.dep : Ex → Nat
  | .two _ a b => max a.dep b.dep + 1
  | .nt a => a.dep + 1
  | .mn a => a.dep + 1
  | .ln a => a.dep + 1
  | _ => 1
theorem Ex.dep_pos (e : Ex) : 0 < e.dep := by cases e <;> exact Nat.succ_pos _
/-- how an expression stands in the heap -/
def ExAt (H : Hp) : V → Ex → Prop
  | v, .num i => ∃ a, v = .ref a ∧ H a = some (.tup [.str "number", .int i])
  | v, .quo z => ∃ a, v = .ref a ∧ H a = some (.tup [.str "quoted", .str z])
  | v, .col x => ∃ a, v = .ref a ∧ H a = some (.tup [.str "column", .str x])
  | v, .two op x y => ∃ a vx vy, v = .ref a ∧ H a = some (.tup [.str "two", .str op, vx, vy]) ∧ ExAt H vx x ∧ ExAt H vy y
  | v, .nt x => ∃ a vx, v = .ref a ∧ H a = some (.tup [.str "not", vx]) ∧ ExAt H vx x
  | v, .mn x => ∃ a vx, v = .ref a ∧ H a = some (.tup [.str "minus", vx]) ∧ ExAt H vx x
  | v, .ln x => ∃ a vx, v = .ref a ∧ H a = some (.tup [.str "length", vx]) ∧ ExAt H vx x
theorem ExAt.keep {H H' : Hp} (h : ∀ (a : Addr) (xs : List V), H a = some (.tup xs) → H' a = some (.tup xs)) : ∀ {e : Ex} {v : V}, ExAt H v e → ExAt H' v e
  | .num _, _, ⟨a, e, q⟩ => ⟨a, e, h _ _ q⟩
  | .quo _, _, ⟨a, e, q⟩ => ⟨a, e, h _ _ q⟩
  | .col _, _, ⟨a, e, q⟩ => ⟨a, e, h _ _ q⟩
  | .two _ _ _, _, ⟨a, vx, vy, e, q, x, y⟩ => ⟨a, vx, vy, e, h _ _ q, x.keep h, y.keep h⟩
  | .nt _, _, ⟨a, vx, e, q, x⟩ => ⟨a, vx, e, h _ _ q, x.keep h⟩
  | .mn _, _, ⟨a, vx, e, q, x⟩ => ⟨a, vx, e, h _ _ q, x.keep h⟩
  | .ln _, _, ⟨a, vx, e, q, x⟩ => ⟨a, vx, e, h _ _ q, x.keep h⟩
def Ex.parts : Ex → List Ex
  | .two _ a b => [a, b]
  | .nt a => [a]
  | .mn a => [a]
  | .ln a => [a]
  | _ => []
def Ex.size : Ex → Nat
  | .two _ a b => a.size + b.size + 1
  | .nt a => a.size + 1
  | .mn a => a.size + 1
  | .ln a => a.size + 1
  | _ => 1
theorem Ex.size_pos (e : Ex) : 0 < e.size := by cases e <;> exact Nat.succ_pos _
def nextR (r : List Ex) : List Ex := r.flatMap Ex.parts
/-- how long the rows are -/
def rowsL : Nat → List Ex → List Nat
  | 0, _ => []
  | _ + 1, [] => []
  | f + 1, e :: r => (e :: r).length :: rowsL f (nextR (e :: r))
def mdep : List Ex → Nat
  | [] => 0
  | e :: r => max e.dep (mdep r)
def sumS : List Ex → Nat
  | [] => 0
  | e :: r => e.size + sumS r
theorem mdep_app (a b : List Ex) : mdep (a ++ b) = max (mdep a) (mdep b) := by
  induction a with
  | nil => simp [mdep]
  | cons e a ih =>
    show max e.dep (mdep (a ++ b)) = max (max e.dep (mdep a)) (mdep b)
    rw [ih, Nat.max_assoc]
theorem sumS_app (a b : List Ex) : sumS (a ++ b) = sumS a + sumS b := by
  induction a with
  | nil => simp [sumS]
  | cons e a ih =>
    show e.size + sumS (a ++ b) = e.size + sumS a + sumS b
    rw [ih, Nat.add_assoc]
theorem parts_dep (e : Ex) : mdep e.parts + 1 = e.dep ∨ (e.parts = [] ∧ e.dep = 1) := by
  cases e with
  | two op a b =>
    refine .inl ?_
    show max a.dep (max b.dep 0) + 1 = max a.dep b.dep + 1
    simp
  | nt a => exact .inl (by show max a.dep 0 + 1 = a.dep + 1; simp)
  | mn a => exact .inl (by show max a.dep 0 + 1 = a.dep + 1; simp)
  | ln a => exact .inl (by show max a.dep 0 + 1 = a.dep + 1; simp)
  | num i => exact .inr ⟨rfl, rfl⟩
  | quo i => exact .inr ⟨rfl, rfl⟩
  | col i => exact .inr ⟨rfl, rfl⟩
theorem parts_size (e : Ex) : sumS e.parts + 1 = e.size := by
  cases e with
  | two op a b => show a.size + (b.size + 0) + 1 = a.size + b.size + 1; omega
  | nt a => rfl
  | mn a => rfl
  | ln a => rfl
  | num i => rfl
  | quo i => rfl
  | col i => rfl
theorem next_dep : ∀ (e : Ex) (r : List Ex), mdep (nextR (e :: r)) < mdep (e :: r)
  | e, [] => by
    have h : nextR [e] = e.parts := by simp [nextR]
    rw [h]
    have := parts_dep e
    have hp := e.dep_pos
    show mdep e.parts < max e.dep 0
    rcases this with h | ⟨h, h2⟩
    · omega
    · rw [h]
      show 0 < _
      omega
  | e, e2 :: r => by
    have ih := next_dep e2 r
    have h : nextR (e :: e2 :: r) = e.parts ++ nextR (e2 :: r) := by simp [nextR]
    rw [h, mdep_app]
    have := parts_dep e
    have hp := e.dep_pos
    show max (mdep e.parts) (mdep (nextR (e2 :: r))) < max e.dep (mdep (e2 :: r))
    rcases this with h | ⟨h, h2⟩
    · omega
    · rw [h]
      show max 0 _ < _
      omega
theorem next_size : ∀ r : List Ex, sumS (nextR r) + r.length = sumS r
  | [] => rfl
  | e :: r => by
    have ih := next_size r
    have h : nextR (e :: r) = e.parts ++ nextR r := by simp [nextR]
    rw [h, sumS_app]
    have := parts_size e
    show sumS e.parts + sumS (nextR r) + (r.length + 1) = e.size + sumS r
    omega
theorem len_sum : ∀ r : List Ex, r.length ≤ sumS r
  | [] => Nat.le_refl _
  | e :: r => by
    have := len_sum r
    have h := e.size_pos
    show r.length + 1 ≤ e.size + sumS r
    omega
theorem rows_nil (f : Nat) : rowsL f [] = [] := by cases f <;> rfl
def largeE (e : Ex) : Bool := decide (80 < (rowsL e.dep [e]).sum) || decide (40 < (rowsL e.dep [e]).length)
section
variable {P : Program} {w : World} {K : PySem.W.Frag} {mg : Str → Option Value} {base : Heap}
/-! ### parts_of -/
theorem none_back {H H' : Hp} {a : Addr} (h : Same H H') (e : H' a = none) : H a = none := by
  cases q : H a with
  | none => rfl
  | some o =>
    rw [h _ _ q] at e
    cases e
def spParts : Sp := fun vs H Q _ => ∃ (v : V) (e : Ex), vs = [v] ∧ ExAt H v e ∧ ∀ (l : Addr) (xs : List V) (H' : Hp), Same H H' → H l = none → H' l = some (.lst xs) → Paired (ExAt H') xs e.parts → Q (.ref l) H'
theorem sc_parts : FnScope ["told"] ["told"] (defScope s_parts_of) := ⟨rfl, rfl, rfl, by decide +kernel, rfl, by decide +kernel, by decide +kernel⟩
theorem ok_parts {f : Addr} {fd : FuncData} (F : Fun K "parts_of" "parts_of" s_parts_of f fd) : FnOk P w K mg base CX0 1 f fd ["told"] spParts := by
  refine F.ok sc_parts (fun vs H Q E h => ?_) (fun cdv A outer s H vs Q E hr h => ?_)
  · obtain ⟨v, e, rfl, _⟩ := h
    rfl
  obtain ⟨v, e, rfl, hx, q⟩ := h
  refine ⟨_, pss_cons (ps_if (pt_cmpR op_eq (pe_ix ix_tup (pv 0) pe_int (fun _ _ => rfl)) pe_str (nomark _)) (pss_one (ps_ret (pe_lst (pa_cons (pe_ix ix_tup (pv 0) pe_int (fun _ _ => rfl)) (pa_cons (pe_ix ix_tup (pv 0) pe_int (fun _ _ => rfl)) pa_nil))))) (pss_nil))
      (pss_cons (ps_if (pt_cmpR op_in_seq (pe_ix ix_tup (pv 0) pe_int (fun _ _ => rfl)) (pe_tup (pa_cons pe_str (pa_cons pe_str (pa_cons pe_str pa_nil)))) (by with_unfolding_all rfl)) (pss_one (ps_ret (pe_lst (pa_cons (pe_ix ix_tup (pv 0) pe_int (fun _ _ => rfl)) pa_nil)))) (pss_nil))
      (pss_one (ps_ret (pe_lst pa_nil)))), ?_⟩
  have z0 : 0 ≤ sizeLine := by decide
  have z1 : 1 ≤ sizeLine := by decide
  have z2 : 2 ≤ sizeLine := by decide
  have z3 : 3 ≤ sizeLine := by decide
  have words : ∀ z : Str, (z ∈ (["not", "minus", "length"] : List Str)) ↔ (z = "not" ∨ z = "minus" ∨ z = "length") := fun z => by
    simp only [List.mem_cons, List.not_mem_nil, or_false]
  cases e with
  | num i =>
    obtain ⟨a, rfl, ha⟩ := hx
    refine ⟨_, rfl, a, _, 0, _, rfl, rfl, SqT.of ha, rfl, rfl, _, rfl, iteF ?_⟩
    refine ⟨_, rfl, a, _, 0, _, rfl, rfl, SqT.of ha, rfl, z3, fun t ht => ⟨t, _, rfl, .inr (SqT.of upd_same), rfl, flat_strs ["not", "minus", "length"], _, rfl, in_strs (l := ["not", "minus", "length"]) (fun h => absurd h (by decide +kernel)) (fun _ => ?_)⟩⟩
    exact ⟨z0, fun l hl => q l [] _ ((same_upd ht).trans (same_upd hl)) (none_back (same_upd ht) hl) upd_same .nil⟩
  | quo z =>
    obtain ⟨a, rfl, ha⟩ := hx
    refine ⟨_, rfl, a, _, 0, _, rfl, rfl, SqT.of ha, rfl, rfl, _, rfl, iteF ?_⟩
    refine ⟨_, rfl, a, _, 0, _, rfl, rfl, SqT.of ha, rfl, z3, fun t ht => ⟨t, _, rfl, .inr (SqT.of upd_same), rfl, flat_strs ["not", "minus", "length"], _, rfl, in_strs (l := ["not", "minus", "length"]) (fun h => absurd h (by decide +kernel)) (fun _ => ?_)⟩⟩
    exact ⟨z0, fun l hl => q l [] _ ((same_upd ht).trans (same_upd hl)) (none_back (same_upd ht) hl) upd_same .nil⟩
  | col x =>
    obtain ⟨a, rfl, ha⟩ := hx
    refine ⟨_, rfl, a, _, 0, _, rfl, rfl, SqT.of ha, rfl, rfl, _, rfl, iteF ?_⟩
    refine ⟨_, rfl, a, _, 0, _, rfl, rfl, SqT.of ha, rfl, z3, fun t ht => ⟨t, _, rfl, .inr (SqT.of upd_same), rfl, flat_strs ["not", "minus", "length"], _, rfl, in_strs (l := ["not", "minus", "length"]) (fun h => absurd h (by decide +kernel)) (fun _ => ?_)⟩⟩
    exact ⟨z0, fun l hl => q l [] _ ((same_upd ht).trans (same_upd hl)) (none_back (same_upd ht) hl) upd_same .nil⟩
  | two op x y =>
    obtain ⟨a, vx, vy, rfl, ha, hx, hy⟩ := hx
    refine ⟨_, rfl, a, _, 0, _, rfl, rfl, SqT.of ha, rfl, rfl, _, rfl, iteT ?_⟩
    refine ⟨_, rfl, a, _, 2, _, rfl, rfl, SqT.of ha, rfl, _, rfl, a, _, 3, _, rfl, rfl, SqT.of ha, rfl, z2, fun l hl => ?_⟩
    have u := same_upd (o := .lst [vx, vy]) hl
    exact q l _ _ u hl upd_same (.cons (hx.keep fun a xs e => u a _ e) (.cons (hy.keep fun a xs e => u a _ e) .nil))
  | nt x =>
    obtain ⟨a, vx, rfl, ha, hx⟩ := hx
    refine ⟨_, rfl, a, _, 0, _, rfl, rfl, SqT.of ha, rfl, rfl, _, rfl, iteF ?_⟩
    refine ⟨_, rfl, a, _, 0, _, rfl, rfl, SqT.of ha, rfl, z3, fun t ht => ⟨t, _, rfl, .inr (SqT.of upd_same), rfl, flat_strs ["not", "minus", "length"], _, rfl, in_strs (l := ["not", "minus", "length"]) (fun _ => ?_) (fun h => absurd (show ("not" : Str) ∈ (["not", "minus", "length"] : List Str) by decide +kernel) h)⟩⟩
    have u1 := same_upd (o := .tup ((["not", "minus", "length"] : List Str).map V.str)) ht
    refine ⟨_, rfl, a, _, 1, _, rfl, rfl, SqT.of (u1 _ _ ha), rfl, z1, fun l hl => ?_⟩
    have u := u1.trans (same_upd (o := .lst [vx]) hl)
    exact q l _ _ u (none_back u1 hl) upd_same (.cons (hx.keep fun a xs e => u a _ e) .nil)
  | mn x =>
    obtain ⟨a, vx, rfl, ha, hx⟩ := hx
    refine ⟨_, rfl, a, _, 0, _, rfl, rfl, SqT.of ha, rfl, rfl, _, rfl, iteF ?_⟩
    refine ⟨_, rfl, a, _, 0, _, rfl, rfl, SqT.of ha, rfl, z3, fun t ht => ⟨t, _, rfl, .inr (SqT.of upd_same), rfl, flat_strs ["not", "minus", "length"], _, rfl, in_strs (l := ["not", "minus", "length"]) (fun _ => ?_) (fun h => absurd (show ("minus" : Str) ∈ (["not", "minus", "length"] : List Str) by decide +kernel) h)⟩⟩
    have u1 := same_upd (o := .tup ((["not", "minus", "length"] : List Str).map V.str)) ht
    refine ⟨_, rfl, a, _, 1, _, rfl, rfl, SqT.of (u1 _ _ ha), rfl, z1, fun l hl => ?_⟩
    have u := u1.trans (same_upd (o := .lst [vx]) hl)
    exact q l _ _ u (none_back u1 hl) upd_same (.cons (hx.keep fun a xs e => u a _ e) .nil)
  | ln x =>
    obtain ⟨a, vx, rfl, ha, hx⟩ := hx
    refine ⟨_, rfl, a, _, 0, _, rfl, rfl, SqT.of ha, rfl, rfl, _, rfl, iteF ?_⟩
    refine ⟨_, rfl, a, _, 0, _, rfl, rfl, SqT.of ha, rfl, z3, fun t ht => ⟨t, _, rfl, .inr (SqT.of upd_same), rfl, flat_strs ["not", "minus", "length"], _, rfl, in_strs (l := ["not", "minus", "length"]) (fun _ => ?_) (fun h => absurd (show ("length" : Str) ∈ (["not", "minus", "length"] : List Str) by decide +kernel) h)⟩⟩
    have u1 := same_upd (o := .tup ((["not", "minus", "length"] : List Str).map V.str)) ht
    refine ⟨_, rfl, a, _, 1, _, rfl, rfl, SqT.of (u1 _ _ ha), rfl, z1, fun l hl => ?_⟩
    have u := u1.trans (same_upd (o := .lst [vx]) hl)
    exact q l _ _ u (none_back u1 hl) upd_same (.cons (hx.keep fun a xs e => u a _ e) .nil)
end
end Kx

namespace Kx
open PySem PySem.Spec PyProof.Rows L2 TL
section
variable {P : Program} {w : World} {K : PySem.W.Frag} {mg : Str → Option Value} {base : Heap}
theorem paired_app {α β : Type} {F : α → β → Prop} : ∀ {a : List α} {b : List β} {c : List α} {d : List β}, Paired F a b → Paired F c d → Paired F (a ++ c) (b ++ d)
  | _, _, _, _, .nil, h => h
  | _, _, _, _, .cons x t, h => .cons x (paired_app t h)
theorem paired_at {α β : Type} {F : α → β → Prop} : ∀ {a : List α} {b : List β}, Paired F a b → ∀ {i : Nat} {x : α}, a[i]? = some x → ∃ y, b[i]? = some y ∧ F x y
  | _, _, .nil, i, x, h => by simp at h
  | _, _, .cons f t, 0, x, h => by
    cases h
    exact ⟨_, rfl, f⟩
  | _, _, .cons f t, i + 1, x, h => paired_at t (i := i) (by simpa using h)
theorem paired_keep {H H' : Hp} {xs : List V} {es : List Ex} (h : Paired (ExAt H) xs es) (k : ∀ (a : Addr) (xs : List V), H a = some (.tup xs) → H' a = some (.tup xs)) : Paired (ExAt H') xs es := Paired.mapP h fun a b q => ExAt.keep k q
/-! ### rows_of_parts -/
def spRows : Sp := fun vs H Q _ => ∃ (v : V) (e : Ex), vs = [v] ∧ ExAt H v e ∧ e.size ≤ 10000 ∧ ∀ (l : Addr) (rs : List (Addr × Nat)) (H' : Hp), Same H H' → H' l = some (.lst (rs.map fun r => .ref r.1)) → (∀ r ∈ rs, ∃ xs, H' r.1 = some (.lst xs) ∧ xs.length = r.2) → rs.map (·.2) = rowsL e.dep [e] → Q (.ref l) H'
abbrev N_rows_of_parts : List Str := ["told", "rows", "row", "whole", "part"]
theorem sc_rows : FnScope N_rows_of_parts ["told"] (defScope s_rows_of_parts) := ⟨rfl, rfl, rfl, by decide +kernel, rfl, by decide +kernel, by decide +kernel⟩
theorem ok_rows {f : Addr} {fd : FuncData} (F : Fun K "rows_of_parts" "rows_of_parts" s_rows_of_parts f fd) (m_len : mg "len" = none) (G_parts_of : Ready P w K mg base 1 "parts_of" ["told"] spParts) : FnOk P w K mg base CX0 2 f fd ["told"] spRows := by
  refine F.ok sc_rows (fun vs H Q E h => ?_) (fun cdv A outer s H vs Q E hr h => ?_)
  · obtain ⟨v, e, rfl, _⟩ := h
    rfl
  obtain ⟨v, e, rfl, hx, hsz, q⟩ := h
  have nd := sc_rows.nd
  have hr1 : Room 1 _ := hr
  have z0 : 0 ≤ sizeLine := by decide
  have z1 : 1 ≤ sizeLine := by decide
  refine ⟨_, pss_cons (ps_set (i := 1) nd rfl (.inl rfl) (pe_lst pa_nil))
      (pss_cons (ps_set (i := 2) nd rfl (.inl rfl) (pe_lst (pa_cons (pv 0) pa_nil)))
      (pss_cons (ps_while PassesOwn.never (pt_cmpR op_gt (pe_callB call_len_seq (by rfl) m_len PySem.boot_len (pa_cons (pv 2) pa_nil)) pe_int (nomark _)) (pss_cons (ps_expr (pe_bm PySem.F.plainAttrs_list PySem.F.slot_list_append PySem.F.type_list_append mt_append (pv 1) (pa_cons (pv 2) pa_nil)))
      (pss_one (ps_setLc2 (i := 2) (own := [("whole", 3), ("part", 4)]) (vs1 := [4]) (g := gName 3) (tt := tYes) (wi1 := iList K (tCall spParts [] E0 (tCons (tVar 3) tNil))) (g1 := gName 4) (tt1 := tYes) (te := tVar 4) rfl nd rfl rfl (sw_true rfl rfl rfl (by decide +kernel)) (pi_list (pv 2)) (blkOk_by (N := N_rows_of_parts) (sc := defScope s_rows_of_parts) (by decide +kernel)) (by decide) (fun _ _ _ _ _ => pg_name (i := 3) nd rfl (Or.inl rfl)) (fun _ _ _ _ _ => pts_nil) (fun _ _ _ _ _ => pi_list (pe_fn G_parts_of hr1 (pa_cons (pv 3) pa_nil))) (fun _ _ _ _ _ => pg_name (i := 4) nd rfl (Or.inl rfl)) (fun _ _ _ _ _ => pts_nil) (fun _ _ _ _ _ => (pv 4))))))
      (pss_one (ps_ret (pv 1))))), ?_⟩
  refine ⟨z0, fun R hR => ?_⟩
  have s1 := same_upd (o := .lst []) hR
  have eR1 : upd H R (.lst []) R = some (.lst []) := upd_same
  generalize upd H R (.lst []) = H1 at s1 eR1 ⊢
  refine ⟨_, rfl, z1, fun r0 hr0 => ?_⟩
  have s2 := same_upd (o := .lst [v]) hr0
  have er0 : upd H1 r0 (.lst [v]) r0 = some (.lst [v]) := upd_same
  have n0 : r0 ≠ R := (ne_of_none eR1 hr0).symm
  replace eR1 := s2 _ _ eR1
  replace s1 := s1.trans s2
  generalize upd H1 r0 (.lst [v]) = H2 at s1 er0 eR1 ⊢
  clear s2 hr0
  let Inv : Nat → L2.St → Hp → Prop := fun mm σ H' => ∃ (rs : List (Addr × Nat)) (r : Addr) (xs : List V) (es : List Ex) (y3 y4 : Option V), σ = [some v, some (.ref R), some (.ref r), y3, y4] ∧ Same H H' ∧ H' R = some (.lst (rs.map fun r => .ref r.1)) ∧ (∀ r ∈ rs, r.1 ≠ R ∧ ∃ xs, H' r.1 = some (.lst xs) ∧ xs.length = r.2) ∧ H' r = some (.lst xs) ∧ r ≠ R ∧ Paired (ExAt H') xs es ∧ mdep es ≤ mm ∧ sumS es + rs.length ≤ 10000 ∧ rs.map (·.2) ++ rowsL mm es = rowsL e.dep [e]
  refine ⟨Inv, ⟨e.dep, [], r0, [v], [e], none, none, rfl, s1, eR1, fun r h => absurd h List.not_mem_nil, er0, n0, .cons (ExAt.keep (fun a xs e => s1 a _ e) hx) .nil, by show max e.dep 0 ≤ _; omega, by show e.size + 0 + 0 ≤ _; omega, rfl⟩, ?_⟩
  rintro mm σ H' ⟨rs, r, xs, es, y3, y4, rfl, sm, eR, hrs, er, nr, hp, hd, hs, hrow⟩
  have lx : xs.length = es.length := Paired.length hp
  refine ⟨_, rfl, r, _, rfl, .inl (SqL.of er), _, _, rfl, rfl, _, rfl, ite2 (fun c => ?_) (fun c => ?_)⟩
  · obtain ⟨e0, es', rfl⟩ : ∃ e0 es', es = e0 :: es' := by
      cases es with
      | nil =>
        have := of_decide_eq_true c
        rw [lx] at this
        exact absurd this (by decide)
      | cons a b => exact ⟨a, b, rfl⟩
    have nd1 := next_dep e0 es'
    have ns1 := next_size (e0 :: es')
    have ll := len_sum (e0 :: es')
    obtain ⟨f', rfl⟩ : ∃ f', mm = f' + 1 := ⟨mm - 1, by omega⟩
    refine ⟨fun σ' G => ∃ m', m' < f' + 1 ∧ Inv m' σ' G, fun σ' G h => h, ?_⟩
    refine ⟨_, rfl, .inl ⟨rfl, _, SqL.of eR⟩, _, rfl, R, _, _, rfl, rfl, eR, Nat.lt_of_le_of_lt (show _ ≤ 10000 by rw [List.length_map]; omega) (by decide), ?_⟩
    have eR3 : upd H' R (.lst ((rs.map fun r => V.ref r.1) ++ [.ref r])) R = some (.lst ((rs ++ [(r, xs.length)]).map fun r => V.ref r.1)) := by
      rw [upd_same, List.map_append]
      rfl
    have b3 : But R H' (upd H' R (.lst ((rs.map fun r => V.ref r.1) ++ [.ref r]))) := fun a o ha e => by
      rw [upd_ne ha]
      exact e
    generalize upd H' R (.lst ((rs.map fun r => V.ref r.1) ++ [.ref r])) = H3 at eR3 b3 ⊢
    have er3 := b3 _ _ nr er
    have k3 : ∀ (a : Addr) (xs : List V), H' a = some (.tup xs) → H3 a = some (.tup xs) := fun a xs e => b3 a _ (fun z => by rw [z, eR] at e; cases e) e
    have hp3 := paired_keep hp k3
    have sm3 : Same H H3 := fun a o e => b3 a o (ne_of_none e hR) (sm _ _ e)
    have hrs3 : ∀ x ∈ rs ++ [(r, xs.length)], x.1 ≠ R ∧ ∃ ys, H3 x.1 = some (.lst ys) ∧ ys.length = x.2 := fun x hx => by
      rcases List.mem_append.mp hx with hx | hx
      · obtain ⟨a, ys, b, c⟩ := hrs x hx
        exact ⟨a, ys, b3 _ _ a b, c⟩
      · rw [List.mem_singleton.mp hx]
        exact ⟨nr, xs, er3, rfl⟩
    clear b3 k3
    refine ⟨_, rfl, r, rfl, ⟨_, SqL.of er3⟩, fun D hD => ?_⟩
    let Pv : Nat → Hp → Prop := fun i G => Same H3 G ∧ ∃ ys, G D = some (.lst ys) ∧ Paired (ExAt G) ys (nextR ((e0 :: es').take i))
    refine ⟨fun i m G => m = xs.length - i ∧ i ≤ xs.length ∧ Pv i G, ⟨_, rfl, Nat.zero_le _, same_upd hD, [], upd_same, .nil⟩, ?_⟩
    rintro i m G ⟨rfl, hi, sG, ys, eD, hy⟩
    have sq : SqL K G r xs := SqL.of (sG _ _ er3)
    by_cases hlt : i < xs.length
    · refine .inr ⟨walk_list.goes i G hlt sq, fun G' => Pv (i + 1) G', fun G' p' => ⟨xs.length - (i + 1), by omega, rfl, hlt, p'⟩, fun x G' y => ?_⟩
      obtain ⟨rfl, hx'⟩ := walk_list.yields i G x G' hlt sq y
      obtain ⟨ei, he, hxe⟩ := paired_at (paired_keep hp3 fun a xs e => sG a _ e) hx'
      have tk : (e0 :: es').take (i + 1) = (e0 :: es').take i ++ [ei] := by
        rw [List.take_add_one, he]
        rfl
      have tn : nextR ((e0 :: es').take (i + 1)) = nextR ((e0 :: es').take i) ++ ei.parts := by
        rw [tk]
        simp [nextR]
      refine ⟨rfl, _, rfl, x, ei, rfl, hxe, fun l zs H4 s4 hl0 el hz => ?_⟩
      have eD4 := s4 _ _ eD
      have hy4 := paired_keep hy fun a xs e => s4 a _ e
      have nl : l ≠ D := fun z => by
        rw [z, eD] at hl0
        cases hl0
      have size : (ys ++ zs).length ≤ 10000 := by
        have h1 := Paired.length hy4
        have h2 := Paired.length hz
        have h3 : (nextR ((e0 :: es').take (i + 1))).length ≤ (nextR (e0 :: es')).length := by
          conv => rhs; rw [← List.take_append_drop (i + 1) (e0 :: es')]
          unfold nextR
          rw [List.flatMap_append, List.length_append]
          exact Nat.le_add_right _ _
        have h4 := len_sum (nextR (e0 :: es'))
        rw [tn, List.length_append] at h3
        rw [List.length_append]
        omega
      refine ⟨l, rfl, ⟨_, SqL.of el⟩, fun j k G5 => k = zs.length - j ∧ j ≤ zs.length ∧ But D H4 G5 ∧ G5 D = some (.lst (ys ++ zs.take j)), ⟨_, rfl, Nat.zero_le _, But.refl _ _, by rw [eD4, List.take_zero, List.append_nil]⟩, ?_⟩
      rintro j k G5 ⟨rfl, hj, b5, e5⟩
      have sq5 : SqL K G5 l zs := SqL.of (b5 _ _ nl el)
      have k5 : ∀ (a : Addr) (xs : List V), H4 a = some (.tup xs) → G5 a = some (.tup xs) := fun a xs e => b5 a _ (fun z => by rw [z, eD4] at e; cases e) e
      by_cases hlj : j < zs.length
      · refine .inr ⟨walk_list.goes j G5 hlj sq5, fun G6 => j + 1 ≤ zs.length ∧ But D H4 G6 ∧ G6 D = some (.lst (ys ++ zs.take (j + 1))), fun G6 p6 => ⟨zs.length - (j + 1), by omega, rfl, p6⟩, fun x6 G6 y6 => ?_⟩
        obtain ⟨rfl, hx6⟩ := walk_list.yields j G5 x6 G6 hlj sq5 y6
        refine ⟨rfl, _, rfl, _, e5, ?_, hlj, b5.trans but_upd, ?_⟩
        · refine Nat.lt_of_le_of_lt (show _ ≤ 10000 from ?_) (by decide)
          rw [List.length_append, List.length_take]
          rw [List.length_append] at size
          omega
        · rw [upd_same, List.take_add_one, hx6, List.append_assoc]
          rfl
      · have ej : j = zs.length := by omega
        subst ej
        refine .inl ⟨walk_list.stops G5 sq5, fun a o e => b5 a o (ne_of_none e hD) (s4 _ _ (sG _ _ e)), ys ++ zs, by rw [e5, List.take_length], ?_⟩
        rw [tn]
        exact paired_app (paired_keep hy4 k5) (paired_keep hz k5)
    · have ei : i = xs.length := by omega
      subst ei
      refine .inl ⟨walk_list.stops G sq, ?_⟩
      rw [lx, List.take_length] at hy
      refine ⟨f', by omega, rs ++ [(r, xs.length)], D, ys, nextR (e0 :: es'), y3, y4, rfl, fun a o e => sG _ _ (sm3 _ _ e), sG _ _ eR3, fun x hx => ?_, eD, (ne_of_none eR3 hD).symm, hy, by omega, ?_, ?_⟩
      · obtain ⟨a, zs, b, c⟩ := hrs3 x hx
        exact ⟨a, zs, sG _ _ b, c⟩
      · rw [List.length_append]
        have : (e0 :: es').length = es'.length + 1 := rfl
        show _ + (rs.length + 1) ≤ 10000
        omega
      · rw [← hrow, List.map_append, List.append_assoc, lx]
        rfl
  · have e0 : es = [] := by
      cases es with
      | nil => rfl
      | cons a b => exact absurd (decide_eq_true (by rw [lx]; exact Int.natCast_pos.mpr (Nat.succ_pos _))) c
    subst e0
    rw [rows_nil, List.append_nil] at hrow
    exact ⟨_, rfl, q R rs H' sm eR (fun r hr => (hrs r hr).2) hrow⟩
end
end Kx

namespace Kx
open PySem PySem.Spec PyProof.Rows L2 TL
section
variable {P : Program} {w : World} {K : PySem.W.Frag} {mg : Str → Option Value} {base : Heap}
theorem dep_size : ∀ e : Ex, e.dep ≤ e.size
  | .two _ a b => by
    have h1 := dep_size a
    have h2 := dep_size b
    show max a.dep b.dep + 1 ≤ a.size + b.size + 1
    omega
  | .nt a => Nat.succ_le_succ (dep_size a)
  | .mn a => Nat.succ_le_succ (dep_size a)
  | .ln a => Nat.succ_le_succ (dep_size a)
  | .num _ => Nat.le_refl 1
  | .quo _ => Nat.le_refl 1
  | .col _ => Nat.le_refl 1
theorem rows_len : ∀ (f : Nat) (r : List Ex), (rowsL f r).length ≤ f
  | 0, _ => Nat.le_refl _
  | _ + 1, [] => Nat.zero_le _
  | f + 1, e :: r => Nat.succ_le_succ (rows_len f _)
def spMany : Sp := fun vs H Q _ => ∃ (v : V) (e : Ex), vs = [v] ∧ ExAt H v e ∧ e.size ≤ 10000 ∧ ∀ H', Same H H' → Q (.int ((rowsL e.dep [e]).sum : Nat)) H'
abbrev N_how_many : List Str := ["told", "row"]
theorem sc_many : FnScope N_how_many ["told"] (defScope s_how_many) := ⟨rfl, rfl, rfl, by decide +kernel, rfl, by decide +kernel, by decide +kernel⟩
def teLen (K : PySem.W.Frag) (i : Nat) : TE := tCB (fun xs H Q => ∃ p ys, xs = [.ref p] ∧ (SqL K H p ys ∨ SqT K H p ys) ∧ Q (.int ys.length) H) (tCons (tVar i) tNil)
theorem sum_cast : ∀ l : List Nat, ((l.map fun n : Nat => (n : Int)).sum) = ((l.sum : Nat) : Int)
  | [] => rfl
  | a :: l => by
    show (a : Int) + (l.map fun n : Nat => (n : Int)).sum = ((a + l.sum : Nat) : Int)
    rw [sum_cast l]
    omega
theorem ok_many {f : Addr} {fd : FuncData} (F : Fun K "how_many" "how_many" s_how_many f fd) (m_len : mg "len" = none) (m_sum : mg "sum" = none) (G_rows : Ready P w K mg base 2 "rows_of_parts" ["told"] spRows) : FnOk P w K mg base CX0 3 f fd ["told"] spMany := by
  refine F.ok sc_many (fun vs H Q E h => ?_) (fun cdv A outer s H vs Q E hr h => ?_)
  · obtain ⟨v, e, rfl, _⟩ := h
    rfl
  obtain ⟨v, e, rfl, hx, hsz, q⟩ := h
  have nd := sc_many.nd
  have hr2 : Room 2 _ := hr
  refine ⟨_, pss_one (ps_ret (pe_callB (cr_sum rfl) (by rfl) m_sum boot_sum (pa_cons (pe_lc (own := [("row", 1)]) (g := gName 1) (tt := tYes) (te := teLen K 1) rfl nd (pi_list (pe_fn G_rows hr2 (pa_cons (pv 0) pa_nil))) (blkOk_by (N := N_how_many) (sc := defScope s_how_many) (by decide +kernel)) (fun _ _ _ _ _ => pg_name (i := 1) nd rfl (Or.inl rfl)) (fun _ _ _ _ _ => pts_nil) (fun _ _ _ _ _ => (pe_callB call_len_seq (by rfl) m_len PySem.boot_len (pa_cons (pv 1) pa_nil)))) pa_nil))), ?_⟩
  refine ⟨_, rfl, v, e, rfl, hx, hsz, fun l rs H1 s1 el hrs hmap => ⟨l, rfl, ⟨_, SqL.of el⟩, fun D hD => ?_⟩⟩
  refine lc_list (K := K) (a := l) (xs := rs.map fun r => .ref r.1) (fun i G => Same H1 G ∧ G D = some (.lst ((((rs.map (·.2)).map fun n : Nat => (n : Int)).take i).map V.int))) ⟨same_upd hD, upd_same⟩ (fun i G _ h => SqL.of (h.1 _ _ el)) ?_ ?_
  · rintro i x G hx ⟨sm, eD⟩
    rw [List.getElem?_map] at hx
    obtain ⟨r, hr', rfl⟩ := Option.map_eq_some_iff.mp hx
    obtain ⟨xs, er, lx⟩ := hrs r (List.mem_of_getElem? hr')
    have tk : (((rs.map (·.2)).map fun n : Nat => (n : Int))).take (i + 1) = (((rs.map (·.2)).map fun n : Nat => (n : Int))).take i ++ [(xs.length : Int)] := by
      rw [List.take_add_one, List.getElem?_map, List.getElem?_map, hr', lx]
      rfl
    have lr : rs.length ≤ 10000 := by
      have h := congrArg List.length hmap
      rw [List.length_map] at h
      have h2 := rows_len e.dep [e]
      have h3 := dep_size e
      omega
    refine ⟨rfl, _, rfl, r.1, _, rfl, .inl (SqL.of (sm _ _ er)), _, eD, Nat.lt_of_le_of_lt (show _ ≤ 10000 by rw [List.length_map, List.length_take, List.length_map, List.length_map]; omega) (by decide), fun b o ex => ?_, ?_⟩
    · rw [upd_ne (ne_of_none ex hD)]
      exact sm _ _ ex
    · rw [tk, List.map_append]
      exact upd_same
  · rintro G ⟨sm, eD⟩
    rw [List.length_map, List.take_of_length_le (by rw [List.length_map, List.length_map]; exact Nat.le_refl _)] at eD
    refine ⟨D, _, rfl, SqL.of eD, ?_⟩
    rw [sum_cast, hmap]
    exact q _ (s1.trans sm)
def spDeep : Sp := fun vs H Q _ => ∃ (v : V) (e : Ex), vs = [v] ∧ ExAt H v e ∧ e.size ≤ 10000 ∧ ∀ H', Same H H' → Q (.int ((rowsL e.dep [e]).length : Nat)) H'
theorem sc_deep : FnScope ["told"] ["told"] (defScope s_how_deep) := ⟨rfl, rfl, rfl, by decide +kernel, rfl, by decide +kernel, by decide +kernel⟩
theorem ok_deep {f : Addr} {fd : FuncData} (F : Fun K "how_deep" "how_deep" s_how_deep f fd) (m_len : mg "len" = none) (G_rows : Ready P w K mg base 2 "rows_of_parts" ["told"] spRows) : FnOk P w K mg base CX0 3 f fd ["told"] spDeep := by
  refine F.ok sc_deep (fun vs H Q E h => ?_) (fun cdv A outer s H vs Q E hr h => ?_)
  · obtain ⟨v, e, rfl, _⟩ := h
    rfl
  obtain ⟨v, e, rfl, hx, hsz, q⟩ := h
  have hr2 : Room 2 _ := hr
  refine ⟨_, pss_one (ps_ret (pe_callB call_len_seq (by rfl) m_len PySem.boot_len (pa_cons (pe_fn G_rows hr2 (pa_cons (pv 0) pa_nil)) pa_nil))), ?_⟩
  refine ⟨_, rfl, v, e, rfl, hx, hsz, fun l rs H1 s1 el hrs hmap => ⟨l, _, rfl, .inl (SqL.of el), ?_⟩⟩
  have h := congrArg List.length hmap
  rw [List.length_map] at h
  rw [List.length_map, h]
  exact q _ s1
def spLarge : Sp := fun vs H Q _ => ∃ (v : V) (e : Ex), vs = [v] ∧ ExAt H v e ∧ e.size ≤ 10000 ∧ ∀ H', Same H H' → Q (.bl (largeE e)) H'
theorem sc_large : FnScope ["told"] ["told"] (defScope s_is_large) := ⟨rfl, rfl, rfl, by decide +kernel, rfl, by decide +kernel, by decide +kernel⟩
theorem ok_large {f : Addr} {fd : FuncData} (F : Fun K "is_large" "is_large" s_is_large f fd) (m_1 : ∃ t, mg "MOST_IN_ONE" = some (.int 80 t)) (m_2 : ∃ t, mg "MOST_WITHIN" = some (.int 40 t)) (G_many : Ready P w K mg base 3 "how_many" ["told"] spMany) (G_deep : Ready P w K mg base 3 "how_deep" ["told"] spDeep) : FnOk P w K mg base CX0 4 f fd ["told"] spLarge := by
  refine F.ok sc_large (fun vs H Q E h => ?_) (fun cdv A outer s H vs Q E hr h => ?_)
  · obtain ⟨v, e, rfl, _⟩ := h
    rfl
  obtain ⟨v, e, rfl, hx, hsz, q⟩ := h
  obtain ⟨t1, m1⟩ := m_1
  obtain ⟨t2, m2⟩ := m_2
  have hr3 : Room 3 _ := hr
  refine ⟨_, pss_one (ps_ret (pe_or (pe_cmpR op_gt (pe_fn G_many hr3 (pa_cons (pv 0) pa_nil)) (pe_glob (v := .int 80) rfl m1 ⟨_, rfl⟩) (nomark _)) (pe_one (pe_cmpR op_gt (pe_fn G_deep hr3 (pa_cons (pv 0) pa_nil)) (pe_glob (v := .int 40) rfl m2 ⟨_, rfl⟩) (nomark _))))), ?_⟩
  refine ⟨_, rfl, v, e, rfl, hx, hsz, fun H1 s1 => ⟨_, _, rfl, rfl, _, rfl, ?_⟩⟩
  unfold largeE at q
  refine ite2 (fun c => ?_) (fun c => ?_)
  · rw [decide_eq_true (show 80 < (rowsL e.dep [e]).sum by have := of_decide_eq_true c; omega), Bool.true_or] at q
    exact q _ s1
  · rw [decide_eq_false (show ¬ 80 < (rowsL e.dep [e]).sum from fun h => c (decide_eq_true (by omega))), Bool.false_or] at q
    refine ⟨_, rfl, v, e, rfl, ExAt.keep (fun a xs h => s1 a _ h) hx, hsz, fun H2 s2 => ⟨_, _, rfl, rfl, ?_⟩⟩
    have e1 : decide (((rowsL e.dep [e]).length : Int) > 40) = decide (40 < (rowsL e.dep [e]).length) := decide_eq_decide.mpr (by omega)
    have h := q _ (s1.trans s2)
    rw [← e1] at h
    exact h
end
end Kx

namespace Kx
open PySem PySem.Spec PyProof.Rows L2 TL
abbrev s_next_level : Stmt := topS 18
abbrev s_read_operand : Stmt := topS 19
abbrev s_read_part : Stmt := topS 20
abbrev s_read_expression : Stmt := topS 21
/-! ### D.get(y, x), D a dict of the written part -/
def KGet (K : PySem.W.Frag) (d : Addr) (k : Str) (r : Option V) : Prop := (∃ u v, PySem.W.nsIn K d k = some (some u) ∧ RelV v u ∧ r = some v) ∨ (PySem.W.nsIn K d k = some none ∧ r = none)
def tKGet2 (K : PySem.W.Frag) (d : Addr) (ty tx : TE) : TE := fun σ H Q => ty σ H fun y H1 => tx σ H1 fun z H2 => ∃ (k : Str) (r : Option V), y = .str k ∧ KGet K d k r ∧ Q (r.getD z) H2
section
variable {X : Cx} {o e f : Expr} {apos cpos : Pos} {ty tx : TE} {d : Addr} {es : Array DictEntry} {n : Nat}
theorem pe_kget2 (D : KDict X.K X.w d es n) (ho : PE X o (tC (.ref d))) (he : PE X e ty) (hf : PE X f tx) (m : M2 X o "get" apos e f cpos) : PE X (.Call (.Attribute o "get" apos) [e, f] [] cpos) (tKGet2 X.K d ty tx) := by
  refine ⟨fun pins s σ H Q I h => ?_⟩
  refine wpAny_Call_method m.base m.few m.line PySem.F.plainAttrs_dict PySem.F.slot_dict_get PySem.F.type_dict_get (thn (ho.run pins s σ H (fun x H1 => x = V.ref d ∧ tKGet2 X.K d ty tx σ H1 Q) I ⟨rfl, h⟩) fun u s1 ⟨x, H1, I1, rx, ex, q1⟩ => ?_)
  subst ex
  obtain rfl : u = Value.ref d := rx
  have ob := I1.kIn d _ D.at_
  refine ⟨⟨_, ob, rfl⟩, fun a' e' => ?_, ?_⟩
  · cases e'
    exact ⟨_, ob, rfl⟩
  rw [m.trees]
  refine Calls.callWith_builtin rfl (Calls.evalArgs_plain (Calls.spliced_cons (thn (he.run pins s1 σ H1 _ I1 q1) fun iv s2 ⟨y, H2, I2, ry, q2⟩ =>
    Calls.spliced_cons (thn (hf.run pins s2 σ H2 _ I2 q2) fun fv s3 ⟨z, H3, I3, rz, k, r, ey, g, q3⟩ => Calls.spliced_nil ?_))))
  subst ey
  obtain ⟨t, rfl⟩ := ry
  have mp := PySem.W.mapOf_K (prog := X.prog) (w := X.w) I3.kIn D.at_ D.lit
  refine call_meetsIn PySem.F.slot_dict_get mp.typeIs PySem.F.entry_dict_get (PySem.F.args_dict_get_3 _ _ _) (meets_dict_get_default (strKind X.prog X.w) d (PySem.strKind_is X.prog X.w k t) D.low fv) ⟨_, mp, ?_⟩
  rcases g with ⟨u, v, e1, rv, rfl⟩ | ⟨e1, rfl⟩
  · rw [PySem.W.find_K D.at_ e1]
    exact ⟨v, H3, I3.tok _, rv, q3⟩
  · rw [PySem.W.find_K D.at_ e1]
    exact ⟨z, H3, I3.tok _, rz, q3⟩
end
end Kx

namespace Kx
open PySem PySem.Spec PyProof.Rows L2 TL
/-! ### how expressions are read -/
def levels : List (Str × Nat) := [("or", 1), ("and", 2), ("=", 4), ("!=", 4), ("<", 4), ("<=", 4), (">", 4), (">=", 4), ("+", 5), ("-", 5), ("*", 6), ("/", 6), ("mod", 6)]
def levO (z : Str) : Option Nat := (levels.find? fun p => decide (p.1 = z)).map (·.2)
def levW (z : Str) : Nat := (levO z).getD 0
def nextLev (ps : List Pc) (i : Nat) : Nat := levW (ownW ps i)
abbrev Rd1 : Type := Except Nat (Ex × Nat)
def thenR (r : Rd1) (k : Ex → Nat → Rd1) : Rd1 := match r with
  | .error j => .error j
  | .ok (e, j) => k e j
def closeR (ps : List Pc) (mk : Ex → Ex) (e : Ex) (j : Nat) : Rd1 := if ownW ps j = ")" then .ok (mk e, j + 1) else .error j
def leafP (x : Pc) : Option Ex := match x.val with
  | .nm n => if x.kind = "number" then some (.num n) else none
  | .tx z => if x.kind = "quoted" then some (.quo z) else if x.kind = "name" then some (.col z) else none
def rdOper (ps : List Pc) (rec : Nat → Nat → Rd1) (level i : Nat) : Rd1 :=
  if level ≤ 3 ∧ ownW ps i = "not" then thenR (rec 3 (i + 1)) fun e j => .ok (.nt e, j)
  else if ownW ps i = "-" then thenR (rec 7 (i + 1)) fun e j => .ok (.mn e, j)
  else if ownW ps i = "(" then thenR (rec 1 (i + 1)) (closeR ps id)
  else if ownW ps i = "length" then (if ownW ps (i + 1) = "(" then thenR (rec 1 (i + 2)) (closeR ps Ex.ln) else .error (i + 1))
  else match leafP (curP ps i) with
    | some e => .ok (e, i + 1)
    | none => .error i
def rdLoop (ps : List Pc) (rec : Nat → Nat → Rd1) (level : Nat) : Nat → Ex → Nat → Rd1
  | 0, e, i => .ok (e, i)
  | g + 1, e, i => if level ≤ nextLev ps i then thenR (rec (nextLev ps i + 1) (i + 1)) fun e2 j => if nextLev ps i = 4 ∧ nextLev ps j = 4 then .error j else rdLoop ps rec level g (.two (ownW ps i) e e2) j else .ok (e, i)
def rdPart (ps : List Pc) : Nat → Nat → Nat → Rd1
  | 0, _, i => .error i
  | f + 1, level, i => thenR (rdOper ps (rdPart ps f) level i) fun e j => thenR (rdLoop ps (rdPart ps f) level ps.length e j) fun e2 k => if level = 1 ∧ largeE e2 = true then .error k else .ok (e2, k)
/-- an expression of a text, and the place of the piece behind it -/
def readEx (z : Str) : Except Nat (Ex × Nat) := match piecesOf z with
  | .error c => .error c
  | .ok ps => match rdPart ps 100 1 0 with
    | .error j => .error (curP ps j).col
    | .ok r => .ok r
def errOf (z : Str) : Option Nat := match readEx z with
  | .error c => some c
  | .ok _ => none
example : errOf "k < 3 < 4" = some 7 := by decide +kernel
example : errOf "k + not k" = some 5 := by decide +kernel
example : errOf "k or k and k" = none := by decide +kernel
example : errOf "length k" = some 8 := by decide +kernel
theorem own_in {ps : List Pc} (h : EndP ps) {i : Nat} (hi : i < ps.length) : ownW ps i ∈ ("" : Str) :: ownAll := by
  by_cases hk : (curP ps i).kind = "own"
  · obtain ⟨qs, c, rfl, hq⟩ := id h
    have hm := cur_mem hi
    rcases List.mem_append.mp hm with hm | hm
    · obtain ⟨z, e, hz⟩ := (hq _ hm).own hk
      have hv := h.own hi hk
      rw [e] at hv
      rw [← PV.tx.inj hv]
      exact List.mem_cons_of_mem _ hz
    · rw [List.mem_singleton.mp hm] at hk
      exact absurd hk (show ¬ ("end" : Str) = "own" by decide +kernel)
  · have e : ownW ps i = "" := if_neg hk
    rw [e]
    exact List.mem_cons_self
theorem own_pos {ps : List Pc} {i : Nat} (h : ownW ps i ≠ "") : (curP ps i).kind ≠ "end" := fun z => h (if_neg (by rw [z]; exact show ¬ ("end" : Str) = "own" by decide +kernel))
/-- what LEVELS says -/
structure Lvl (K : PySem.W.Frag) (w : World) (mg : Str → Option Value) : Prop where
  ex : ∃ d es n, mg "LEVELS" = some (.ref d) ∧ KDict K w d es n ∧ ∀ z ∈ ("" : Str) :: ownAll, KGet K d z ((levO z).map fun l => .int (l : Int))
section
variable {P : Program} {w : World} {K : PySem.W.Frag} {mg : Str → Option Value} {base : Heap}
def spNextLv (CL : Addr) : Sp := fun vs H Q _ => ∃ (p : Addr) (n : Int) (ps : List Pc) (i : Nat), vs = [.ref p] ∧ LineAt H CL p n ps i ∧ i < ps.length ∧ EndP ps ∧ Q (.int (nextLev ps i : Nat)) H
theorem sc_nextlv : FnScope ["line"] ["line"] (defScope s_next_level) := ⟨rfl, rfl, rfl, by decide +kernel, rfl, by decide +kernel, by decide +kernel⟩
theorem ok_nextlv {f CL : Addr} {fd : FuncData} (F : Fun K "next_level" "next_level" s_next_level f fd) (Z : LnC K CL) (LV : Lvl K w mg) (G_own : ReadyM P w K mg base CL 2 "own_word" ["self"] (spOwn CL)) : FnOk P w K mg base CX0 3 f fd ["line"] (spNextLv CL) := by
  refine F.ok sc_nextlv (fun vs H Q E h => ?_) (fun cdv A outer s H vs Q E hr h => ?_)
  · obtain ⟨p, n, ps, i, rfl, _⟩ := h
    rfl
  obtain ⟨p, n, ps, i, rfl, hl, hi, he, q⟩ := h
  obtain ⟨d, es, nn, m_L, kd, hk⟩ := LV.ex
  have hr2 : Room 2 _ := hr
  refine ⟨_, pss_one (ps_ret (pe_kget2 kd (pe_glob (v := .ref d) rfl m_L rfl) (pe_m0' G_own Z.cls hr2 noE (pv 0)) pe_int ⟨rfl, rfl, rfl, rfl⟩)), ?_⟩
  obtain ⟨dx, L, as, h1, h2, h3, h4⟩ := id hl
  refine ⟨_, rfl, p, dx, _, rfl, h1, rfl, p, n, ps, i, rfl, hl, hi, he, _, _, rfl, hk _ (own_in he hi), ?_⟩
  have e : ((levO (ownW ps i)).map fun l => V.int (l : Int)).getD (.int 0) = .int (nextLev ps i : Nat) := by
    unfold nextLev levW
    cases levO (ownW ps i) <;> rfl
  rw [e]
  exact q
end
end Kx

namespace Kx
open PySem PySem.Spec PyProof.Rows L2 TL
/-- where a reading leaves off -/
def FineR (ps : List Pc) (i : Nat) : Rd1 → Prop
  | .error j => j < ps.length
  | .ok (e, j) => j < ps.length ∧ i < j ∧ e.size + i ≤ j
theorem thenR_fine {ps : List Pc} {i i' : Nat} {r : Rd1} {k : Ex → Nat → Rd1} (hr : FineR ps i' r) (hk : ∀ e j, r = .ok (e, j) → j < ps.length → i' < j → e.size + i' ≤ j → FineR ps i (k e j)) : FineR ps i (thenR r k) := by
  match r, hr with
  | .error j, h => exact h
  | .ok (e, j), ⟨h1, h2, h3⟩ => exact hk e j rfl h1 h2 h3
theorem close_fine {ps : List Pc} (he : EndP ps) {mk : Ex → Ex} {e : Ex} {i i' j : Nat} (hm : (mk e).size ≤ e.size + 1) (hj : j < ps.length) (h2 : i < j) (hs : e.size + i' ≤ j) (hi : i ≤ i') : FineR ps i (closeR ps mk e j) := by
  unfold closeR
  by_cases h : ownW ps j = ")"
  · rw [if_pos h]
    have := he.next hj (own_pos (by rw [h]; decide +kernel))
    exact ⟨this, by omega, by omega⟩
  · rw [if_neg h]
    exact hj
theorem leaf_kind {x : Pc} {e : Ex} (h : leafP x = some e) : x.kind ≠ "end" ∧ e.size = 1 := by
  unfold leafP at h
  split at h
  · split at h
    · rename_i hk
      cases h
      exact ⟨by rw [hk]; decide +kernel, rfl⟩
    · cases h
  · split at h
    · rename_i hk
      cases h
      exact ⟨by rw [hk]; decide +kernel, rfl⟩
    · split at h
      · rename_i hk
        cases h
        exact ⟨by rw [hk]; decide +kernel, rfl⟩
      · cases h
theorem oper_fine {ps : List Pc} (he : EndP ps) {rec : Nat → Nat → Rd1} (hrec : ∀ l i, 1 ≤ l → i < ps.length → FineR ps i (rec l i)) {level i : Nat} (hi : i < ps.length) : FineR ps i (rdOper ps rec level i) := by
  have nx : ∀ {k : Nat} {w : Str}, k < ps.length → ownW ps k = w → w ≠ "" → k + 1 < ps.length := fun hk h hw => he.next hk (own_pos (by rw [h]; exact hw))
  unfold rdOper
  by_cases c1 : level ≤ 3 ∧ ownW ps i = "not"
  · rw [if_pos c1]
    refine thenR_fine (hrec 3 (i + 1) (by decide) (nx hi c1.2 (by decide +kernel))) fun e j _ h1 h2 h3 => ⟨h1, by omega, by show e.size + 1 + i ≤ j; omega⟩
  rw [if_neg c1]
  by_cases c2 : ownW ps i = "-"
  · rw [if_pos c2]
    refine thenR_fine (hrec 7 (i + 1) (by decide) (nx hi c2 (by decide +kernel))) fun e j _ h1 h2 h3 => ⟨h1, by omega, by show e.size + 1 + i ≤ j; omega⟩
  rw [if_neg c2]
  by_cases c3 : ownW ps i = "("
  · rw [if_pos c3]
    exact thenR_fine (hrec 1 (i + 1) (by decide) (nx hi c3 (by decide +kernel))) fun e j _ h1 h2 h3 => close_fine he (Nat.le_succ _) h1 (by omega) h3 (by omega)
  rw [if_neg c3]
  by_cases c4 : ownW ps i = "length"
  · rw [if_pos c4]
    have h1 := nx hi c4 (by decide +kernel)
    by_cases c5 : ownW ps (i + 1) = "("
    · rw [if_pos c5]
      exact thenR_fine (hrec 1 (i + 2) (by decide) (nx h1 c5 (by decide +kernel))) fun e j _ h1 h2 h3 => close_fine he (Nat.le_refl _) h1 (by omega) h3 (by omega)
    · rw [if_neg c5]
      exact h1
  rw [if_neg c4]
  cases hl : leafP (curP ps i) with
  | none => exact hi
  | some e =>
    obtain ⟨k1, k2⟩ := leaf_kind hl
    have := he.next hi k1
    exact ⟨this, by omega, by omega⟩
theorem lev_own {ps : List Pc} {i level : Nat} (hl : 1 ≤ level) (h : level ≤ nextLev ps i) : ownW ps i ≠ "" := fun e => by
  unfold nextLev at h
  rw [e] at h
  have : levW "" = 0 := by decide +kernel
  omega
theorem loop_fine {ps : List Pc} (he : EndP ps) {rec : Nat → Nat → Rd1} (hrec : ∀ l i, 1 ≤ l → i < ps.length → FineR ps i (rec l i)) {level i0 : Nat} (hl : 1 ≤ level) : ∀ (g : Nat) (e : Ex) (i : Nat), i < ps.length → i0 < i → e.size + i0 ≤ i → FineR ps i0 (rdLoop ps rec level g e i)
  | 0, e, i, h1, h2, h3 => ⟨h1, h2, h3⟩
  | g + 1, e, i, h1, h2, h3 => by
    rw [rdLoop]
    by_cases c : level ≤ nextLev ps i
    · rw [if_pos c]
      refine thenR_fine (hrec _ (i + 1) (Nat.succ_pos _) (he.next h1 (own_pos (lev_own hl c)))) fun e2 j _ k1 k2 k3 => ?_
      by_cases c2 : nextLev ps i = 4 ∧ nextLev ps j = 4
      · rw [if_pos c2]
        exact k1
      · rw [if_neg c2]
        exact loop_fine he hrec hl g _ j k1 (by omega) (by show e.size + e2.size + 1 + i0 ≤ j; omega)
    · rw [if_neg c]
      exact ⟨h1, h2, h3⟩
theorem part_fine {ps : List Pc} (he : EndP ps) : ∀ (f level i : Nat), 1 ≤ level → i < ps.length → FineR ps i (rdPart ps f level i)
  | 0, _, i, _, hi => hi
  | f + 1, level, i, hl, hi => by
    rw [rdPart]
    refine thenR_fine (oper_fine he (fun l i h1 h2 => part_fine he f l i h1 h2) hi) fun e j _ h1 h2 h3 => ?_
    have h := loop_fine he (fun l i h1 h2 => part_fine he f l i h1 h2) hl ps.length e j h1 h2 h3
    cases hr : rdLoop ps (rdPart ps f) level ps.length e j with
    | error k =>
      rw [hr] at h
      exact h
    | ok t =>
      obtain ⟨e2, k⟩ := t
      rw [hr] at h
      show FineR ps i (if level = 1 ∧ largeE e2 = true then .error k else .ok (e2, k))
      by_cases c : level = 1 ∧ largeE e2 = true
      · rw [if_pos c]
        exact h.1
      · rw [if_neg c]
        exact h
def BadP (C p : Addr) (n c : Int) (H : Hp) (E : XK) : Prop := ∀ (H' : Hp) (d : Addr), ButL p H H' → H' d = none → E (.ref C) (some d) (upd H' d (.xd [("line", .int n), ("column", .int c)]))
theorem BadP.at {C p : Addr} {n c : Int} {H H' : Hp} {E : XK} (h : BadP C p n c H E) (b : ButL p H H') : BadAt C n c H' E := fun H2 d s nd => h H2 d (b.trans (sameL s)) nd
theorem BadP.but {C p : Addr} {n c : Int} {H H' : Hp} {E : XK} (h : BadP C p n c H E) (b : ButL p H H') : BadP C p n c H' E := fun H2 d s nd => h H2 d (b.trans s) nd
def spPart (C CL : Addr) (f : Nat) : Sp := fun vs H Q E => ∃ (p : Addr) (n : Int) (ps : List Pc) (i level many : Nat), vs = [.ref p, .int (level : Int), .int (many : Int)] ∧ many + f = 101 ∧ 1 ≤ level ∧ LineAt H CL p n ps i ∧ i < ps.length ∧ EndP ps ∧ ps.length ≤ 10000 ∧
  (∀ e j, rdPart ps f level i = .ok (e, j) → ∀ v H', ButL p H H' → LineAt H' CL p n ps j → ExAt H' v e → Q v H') ∧ (∀ j, rdPart ps f level i = .error j → BadP C p n ((curP ps j).col : Nat) H E)
def spOper (C CL : Addr) (f : Nat) : Sp := fun vs H Q E => ∃ (p : Addr) (n : Int) (ps : List Pc) (i level many : Nat), vs = [.ref p, .int (level : Int), .int (many : Int)] ∧ many + f = 100 ∧ 1 ≤ level ∧ LineAt H CL p n ps i ∧ i < ps.length ∧ EndP ps ∧ ps.length ≤ 10000 ∧
  (∀ e j, rdOper ps (rdPart ps f) level i = .ok (e, j) → ∀ v H', ButL p H H' → LineAt H' CL p n ps j → ExAt H' v e → Q v H') ∧ (∀ j, rdOper ps (rdPart ps f) level i = .error j → BadP C p n ((curP ps j).col : Nat) H E)
end Kx

namespace Kx
open PySem PySem.Spec PyProof.Rows L2 TL
theorem cur_ok {ps : List Pc} (h : EndP ps) {i : Nat} (hi : i < ps.length) (hk : (curP ps i).kind ≠ "end") : PcOk (curP ps i) := by
  obtain ⟨qs, c, rfl, hq⟩ := h
  rcases List.mem_append.mp (cur_mem hi) with hm | hm
  · exact hq _ hm
  · rw [List.mem_singleton.mp hm] at hk
    exact absurd rfl hk
theorem BadP.mid {C p : Addr} {n c : Int} {H H' : Hp} {E : XK} (h : BadP C p n c H E) (b : ButL p H H') : BadP C p n c H' E := h.but b
section
variable {P : Program} {w : World} {K : PySem.W.Frag} {mg : Str → Option Value} {base : Heap}
abbrev N_read_operand : List Str := ["line", "level", "many", "told"]
theorem sc_oper : FnScope N_read_operand ["line", "level", "many"] (defScope s_read_operand) := ⟨rfl, rfl, rfl, by decide +kernel, rfl, by decide +kernel, by decide +kernel⟩
theorem ok_oper {g C CL : Addr} {fd : FuncData} {k f : Nat} (F : Fun K "read_operand" "read_operand" s_read_operand g fd) (Z : LnC K CL) (m_N : ∃ t, mg "NOT" = some (.int 3 t)) (m_Mi : ∃ t, mg "MINUS" = some (.int 7 t)) (m_W : ∃ t, mg "WHOLE" = some (.int 1 t))
    (G_took : ReadyM P w K mg base CL 3 "took" ["self", "word"] (spTook CL)) (G_expect : ReadyM P w K mg base CL 4 "expect" ["self", "word"] (spExpect C CL)) (G_is_kind : ReadyM P w K mg base CL 1 "is_kind" ["self", "kind"] (spIsKind CL)) (G_take : ReadyM P w K mg base CL 3 "take" ["self", "kind"] (spTake C CL))
    (G_part : ReadyX P w K mg base (k + 5) "read_part" ["line", "level", "many"] (spPart C CL f)) : FnOk P w K mg base (L2.CX P w) (k + 6) g fd ["line", "level", "many"] (spOper C CL f) := by
  refine F.okX sc_oper (fun vs H Q E h => ?_) (fun cdv A outer s H vs Q E hr h => ?_)
  · obtain ⟨p, n, ps, i, level, many, rfl, _⟩ := h
    rfl
  obtain ⟨p, n, ps, i, level, many, rfl, hm, hlev, hl, hi, he, hlen, q, qe⟩ := h
  obtain ⟨tN, mN⟩ := m_N
  obtain ⟨tM, mM⟩ := m_Mi
  obtain ⟨tW, mW⟩ := m_W
  have nd := sc_oper.nd
  have hr5 : Room (k + 5) _ := hr
  have hr4 : Room 4 _ := hr5.mono (by omega)
  have hr3 : Room 3 _ := hr5.mono (by omega)
  have hr1 : Room 1 _ := hr5.mono (by omega)
  have z2 : 2 ≤ sizeLine := by decide
  refine ⟨_, C8.pss_cut (ps_if (PW.pt (pw_and (pt_cmpR op_le (pv 1) (pe_glob (v := .int 3) rfl mN ⟨_, rfl⟩) (nomark _)) (pw_and1 (pt_val (pe_m G_took Z.cls hr3 noE (pv 0) (pa_cons pe_str pa_nil)))))) (pss_one (ps_ret (pe_tup (pa_cons pe_str (pa_cons (pe_fnX G_part hr5 (takes_of rfl rfl rfl rfl) (pa_cons (pv 0) (pa_cons (pe_glob (v := .int 3) rfl mN ⟨_, rfl⟩) (pa_cons (pe_op op_add (pv 2) pe_int) pa_nil)))) pa_nil))))) (pss_nil))
      (pss_cons (ps_if (pt_val (pe_m G_took Z.cls hr3 noE (pv 0) (pa_cons pe_str pa_nil))) (pss_one (ps_ret (pe_tup (pa_cons pe_str (pa_cons (pe_fnX G_part hr5 (takes_of rfl rfl rfl rfl) (pa_cons (pv 0) (pa_cons (pe_glob (v := .int 7) rfl mM ⟨_, rfl⟩) (pa_cons (pe_op op_add (pv 2) pe_int) pa_nil)))) pa_nil))))) (pss_nil))
      (pss_cons (ps_if (pt_val (pe_m G_took Z.cls hr3 noE (pv 0) (pa_cons pe_str pa_nil))) (pss_cons (ps_set (i := 3) nd rfl (.inl rfl) (pe_fnX G_part hr5 (takes_of rfl rfl rfl rfl) (pa_cons (pv 0) (pa_cons (pe_glob (v := .int 1) rfl mW ⟨_, rfl⟩) (pa_cons (pe_op op_add (pv 2) pe_int) pa_nil)))))
      (pss_cons (ps_expr (pe_m G_expect Z.cls hr4 (onward (takes_of rfl rfl rfl rfl)) (pv 0) (pa_cons pe_str pa_nil)))
      (pss_one (ps_ret (pv 3))))) (pss_nil))
      (pss_cons (ps_if (pt_val (pe_m G_took Z.cls hr3 noE (pv 0) (pa_cons pe_str pa_nil))) (pss_cons (ps_expr (pe_m G_expect Z.cls hr4 (onward (takes_of rfl rfl rfl rfl)) (pv 0) (pa_cons pe_str pa_nil)))
      (pss_cons (ps_set (i := 3) nd rfl (.inl rfl) (pe_fnX G_part hr5 (takes_of rfl rfl rfl rfl) (pa_cons (pv 0) (pa_cons (pe_glob (v := .int 1) rfl mW ⟨_, rfl⟩) (pa_cons (pe_op op_add (pv 2) pe_int) pa_nil)))))
      (pss_cons (ps_expr (pe_m G_expect Z.cls hr4 (onward (takes_of rfl rfl rfl rfl)) (pv 0) (pa_cons pe_str pa_nil)))
      (pss_one (ps_ret (pe_tup (pa_cons pe_str (pa_cons (pv 3) pa_nil)))))))) (pss_nil))
      (pss_cons (ps_if (pt_val (pe_m G_is_kind Z.cls hr1 noE (pv 0) (pa_cons pe_str pa_nil))) (pss_one (ps_ret (pe_tup (pa_cons pe_str (pa_cons (pe_m G_take Z.cls hr3 (onward (takes_of rfl rfl rfl rfl)) (pv 0) (pa_cons pe_str pa_nil)) pa_nil))))) (pss_nil))
      (pss_cons (ps_if (pt_val (pe_m G_is_kind Z.cls hr1 noE (pv 0) (pa_cons pe_str pa_nil))) (pss_one (ps_ret (pe_tup (pa_cons pe_str (pa_cons (pe_m G_take Z.cls hr3 (onward (takes_of rfl rfl rfl rfl)) (pv 0) (pa_cons pe_str pa_nil)) pa_nil))))) (pss_nil))
      (pss_one (ps_ret (pe_tup (pa_cons pe_str (pa_cons (pe_m G_take Z.cls hr3 (onward (takes_of rfl rfl rfl rfl)) (pv 0) (pa_cons pe_str pa_nil)) pa_nil)))))))))), ?_⟩
  obtain ⟨dx, L, as, h1, _⟩ := id hl
  refine ⟨fun σ H' => σ = [some (.ref p), some (.int (level : Int)), some (.int (many : Int)), none] ∧ H' = H ∧ ¬ (level ≤ 3 ∧ ownW ps i = "not"), ?_, ?_⟩
  · refine ⟨_, rfl, _, _, rfl, rfl, _, rfl, ite2 (fun c => ?_) (fun c => ⟨rfl, rfl, fun z => c (decide_eq_true (by omega))⟩)⟩
    have c3 : level ≤ 3 := by
      have := of_decide_eq_true c
      omega
    refine ⟨_, rfl, p, dx, _, rfl, h1, rfl, p, n, ps, i, _, rfl, hl, hi, he, fun hw H1 b1 hl1 => ?_, fun hw => ?_⟩
    · have e0 : rdOper ps (rdPart ps f) level i = thenR (rdPart ps f 3 (i + 1)) fun e j => .ok (.nt e, j) := if_pos ⟨c3, hw⟩
      have hi1 := he.next hi (own_pos (by rw [hw]; decide +kernel))
      refine ⟨_, rfl, iteT ?_⟩
      refine ⟨_, rfl, _, rfl, _, _, rfl, rfl, p, n, ps, i + 1, 3, many + 1, rfl, by omega, by decide, hl1, hi1, he, hlen, fun e j hr' v H2 b2 hl2 hx2 => ⟨z2, fun t ht => ?_⟩, fun j hr' => (qe j (by rw [e0, hr']; rfl)).but b1⟩
      have u := same_upd (o := .tup [.str "not", v]) ht
      exact q (.nt e) j (by rw [e0, hr']; rfl) (.ref t) _ ((b1.trans b2).trans (sameL u)) (hl2.keep u) ⟨t, v, rfl, upd_same, ExAt.keep (fun a xs h => u a _ h) hx2⟩
    · exact ⟨_, rfl, iteF ⟨rfl, rfl, fun z => hw z.2⟩⟩
  rintro σ H' ⟨rfl, rfl, hn1⟩
  refine ⟨_, rfl, p, dx, _, rfl, h1, rfl, p, n, ps, i, _, rfl, hl, hi, he, fun hw H1 b1 hl1 => ?_, fun hn2 => ⟨_, rfl, iteF ?_⟩⟩
  · have e0 : rdOper ps (rdPart ps f) level i = thenR (rdPart ps f 7 (i + 1)) fun e j => .ok (.mn e, j) := (if_neg hn1).trans (if_pos hw)
    have hi1 := he.next hi (own_pos (by rw [hw]; decide +kernel))
    refine ⟨_, rfl, iteT ?_⟩
    refine ⟨_, rfl, _, rfl, _, _, rfl, rfl, p, n, ps, i + 1, 7, many + 1, rfl, by omega, by decide, hl1, hi1, he, hlen, fun e j hr' v H2 b2 hl2 hx2 => ⟨z2, fun t ht => ?_⟩, fun j hr' => (qe j (by rw [e0, hr']; rfl)).but b1⟩
    have u := same_upd (o := .tup [.str "minus", v]) ht
    exact q (.mn e) j (by rw [e0, hr']; rfl) (.ref t) _ ((b1.trans b2).trans (sameL u)) (hl2.keep u) ⟨t, v, rfl, upd_same, ExAt.keep (fun a xs h => u a _ h) hx2⟩
  refine ⟨_, rfl, p, dx, _, rfl, h1, rfl, p, n, ps, i, _, rfl, hl, hi, he, fun hw H1 b1 hl1 => ?_, fun hn3 => ⟨_, rfl, iteF ?_⟩⟩
  · have e0 : rdOper ps (rdPart ps f) level i = thenR (rdPart ps f 1 (i + 1)) (closeR ps id) := (if_neg hn1).trans ((if_neg hn2).trans (if_pos hw))
    have hi1 := he.next hi (own_pos (by rw [hw]; decide +kernel))
    have hf := part_fine he f 1 (i + 1) (by decide) hi1
    refine ⟨_, rfl, iteT ?_⟩
    refine ⟨_, rfl, _, rfl, _, _, rfl, rfl, p, n, ps, i + 1, 1, many + 1, rfl, by omega, by decide, hl1, hi1, he, hlen, fun e j hr' v H2 b2 hl2 hx2 => ?_, fun j hr' => (qe j (by rw [e0, hr']; rfl)).but b1⟩
    rw [hr'] at hf
    have e1 : rdOper ps (rdPart ps f) level i = closeR ps id e j := by rw [e0, hr']; rfl
    unfold closeR at e1
    obtain ⟨dx2, L2', as2, h2, _⟩ := id hl2
    refine ⟨_, rfl, p, dx2, _, rfl, h2, rfl, p, n, ps, j, _, rfl, hl2, hf.1, he, fun hw3 H3 b3 hl3 => ?_, fun hw3 => ?_⟩
    · rw [if_pos hw3] at e1
      exact ⟨_, rfl, q e (j + 1) e1 v _ ((b1.trans b2).trans b3) hl3 (ExAt.keep (fun a xs h => b3.b a _ (fun z => by rw [z, h2] at h; cases h) h) hx2)⟩
    · rw [if_neg hw3] at e1
      exact (qe j e1).at (b1.trans b2)
  refine ⟨_, rfl, p, dx, _, rfl, h1, rfl, p, n, ps, i, _, rfl, hl, hi, he, fun hw H1 b1 hl1 => ?_, fun hn4 => ⟨_, rfl, iteF ?_⟩⟩
  · have e0 : rdOper ps (rdPart ps f) level i = if ownW ps (i + 1) = "(" then thenR (rdPart ps f 1 (i + 2)) (closeR ps Ex.ln) else .error (i + 1) := (if_neg hn1).trans ((if_neg hn2).trans ((if_neg hn3).trans (if_pos hw)))
    have hi1 := he.next hi (own_pos (by rw [hw]; decide +kernel))
    refine ⟨_, rfl, iteT ?_⟩
    obtain ⟨dx1, L1', as1, h1', _⟩ := id hl1
    refine ⟨_, rfl, p, dx1, _, rfl, h1', rfl, p, n, ps, i + 1, _, rfl, hl1, hi1, he, fun hw2 H2 b2 hl2 => ?_, fun hw2 => ?_⟩
    · rw [if_pos hw2] at e0
      have hi2 := he.next hi1 (own_pos (by rw [hw2]; decide +kernel))
      have hf := part_fine he f 1 (i + 2) (by decide) hi2
      refine ⟨_, rfl, _, rfl, _, _, rfl, rfl, p, n, ps, i + 2, 1, many + 1, rfl, by omega, by decide, hl2, hi2, he, hlen, fun e j hr' v H3 b3 hl3 hx3 => ?_, fun j hr' => (qe j (by rw [e0, hr']; rfl)).but (b1.trans b2)⟩
      rw [hr'] at hf
      have e1 : rdOper ps (rdPart ps f) level i = closeR ps Ex.ln e j := by rw [e0, hr']; rfl
      unfold closeR at e1
      obtain ⟨dx3, L3', as3, h3, _⟩ := id hl3
      refine ⟨_, rfl, p, dx3, _, rfl, h3, rfl, p, n, ps, j, _, rfl, hl3, hf.1, he, fun hw3 H4 b4 hl4 => ?_, fun hw3 => ?_⟩
      · rw [if_pos hw3] at e1
        refine ⟨_, rfl, z2, fun t ht => ?_⟩
        have u := same_upd (o := .tup [.str "length", v]) ht
        exact q (.ln e) (j + 1) e1 (.ref t) _ ((((b1.trans b2).trans b3).trans b4).trans (sameL u)) (hl4.keep u) ⟨t, v, rfl, upd_same, ExAt.keep (fun a xs h => u a _ (b4.b a _ (fun z => by rw [z, h3] at h; cases h) h)) hx3⟩
      · rw [if_neg hw3] at e1
        exact (qe j e1).at ((b1.trans b2).trans b3)
    · rw [if_neg hw2] at e0
      exact (qe (i + 1) e0).at b1
  have e0 : rdOper ps (rdPart ps f) level i = match leafP (curP ps i) with
    | some e => .ok (e, i + 1)
    | none => .error i := (if_neg hn1).trans ((if_neg hn2).trans ((if_neg hn3).trans (if_neg hn4)))
  refine ⟨_, rfl, p, dx, _, rfl, h1, rfl, p, n, ps, i, _, rfl, hl, hi, _, rfl, ite2 (fun c5 => ?_) (fun c5 => ?_)⟩
  · have hk := of_decide_eq_true c5
    obtain ⟨m, hv⟩ := (cur_ok he hi (by rw [hk]; decide +kernel)).num hk
    have e1 : leafP (curP ps i) = some (.num m) := by
      unfold leafP
      rw [hv]
      exact if_pos hk
    rw [e1] at e0
    refine ⟨_, rfl, p, dx, _, rfl, h1, rfl, p, n, ps, i, _, rfl, hl, hi, fun _ H1 b1 hl1 => ⟨z2, fun t ht => ?_⟩, fun z => absurd hk z⟩
    rw [hv]
    have u := same_upd (o := .tup [.str "number", .int (m : Int)]) ht
    exact q (.num m) (i + 1) e0 (.ref t) _ (b1.trans (sameL u)) (hl1.keep u) ⟨t, rfl, upd_same⟩
  have k5 : (curP ps i).kind ≠ "number" := fun z => c5 (decide_eq_true z)
  refine ⟨_, rfl, p, dx, _, rfl, h1, rfl, p, n, ps, i, _, rfl, hl, hi, _, rfl, ite2 (fun c6 => ?_) (fun c6 => ?_)⟩
  · have hk := of_decide_eq_true c6
    obtain ⟨z, hv⟩ := (cur_ok he hi (by rw [hk]; decide +kernel)).txt (.inl hk)
    have e1 : leafP (curP ps i) = some (.quo z) := by
      unfold leafP
      rw [hv]
      exact if_pos hk
    rw [e1] at e0
    refine ⟨_, rfl, p, dx, _, rfl, h1, rfl, p, n, ps, i, _, rfl, hl, hi, fun _ H1 b1 hl1 => ⟨z2, fun t ht => ?_⟩, fun z => absurd hk z⟩
    rw [hv]
    have u := same_upd (o := .tup [.str "quoted", .str z]) ht
    exact q (.quo z) (i + 1) e0 (.ref t) _ (b1.trans (sameL u)) (hl1.keep u) ⟨t, rfl, upd_same⟩
  have k6 : (curP ps i).kind ≠ "quoted" := fun z => c6 (decide_eq_true z)
  refine ⟨_, rfl, p, dx, _, rfl, h1, rfl, p, n, ps, i, _, rfl, hl, hi, fun hk H1 b1 hl1 => ⟨z2, fun t ht => ?_⟩, fun hk => ?_⟩
  · obtain ⟨z, hv⟩ := (cur_ok he hi (by rw [hk]; decide +kernel)).txt (.inr hk)
    have e1 : leafP (curP ps i) = some (.col z) := by
      unfold leafP
      rw [hv]
      exact (if_neg k6).trans (if_pos hk)
    rw [e1] at e0
    rw [hv]
    have u := same_upd (o := .tup [.str "column", .str z]) ht
    exact q (.col z) (i + 1) e0 (.ref t) _ (b1.trans (sameL u)) (hl1.keep u) ⟨t, rfl, upd_same⟩
  · have e1 : leafP (curP ps i) = none := by
      unfold leafP
      cases (curP ps i).val with
      | nm m => exact if_neg k5
      | tx z => exact (if_neg k6).trans (if_neg hk)
    rw [e1] at e0
    exact (qe i e0).at (ButL.refl _ _)
end
end Kx

namespace Kx
open PySem PySem.Spec PyProof.Rows L2 TL
theorem lev_pos {ps : List Pc} {i : Nat} (h : 1 ≤ nextLev ps i) : levO (ownW ps i) = some (nextLev ps i) := by
  unfold nextLev levW at h ⊢
  cases e : levO (ownW ps i) with
  | none =>
    rw [e] at h
    exact absurd h (by decide)
  | some l => rfl
theorem own_kind {ps : List Pc} {i : Nat} (h : ownW ps i ≠ "") : (curP ps i).kind = "own" := Classical.byContradiction fun z => h (if_neg z)
section
variable {P : Program} {w : World} {K : PySem.W.Frag} {mg : Str → Option Value} {base : Heap}
abbrev N_read_part : List Str := ["line", "level", "many", "told", "op"]
theorem sc_part : FnScope N_read_part ["line", "level", "many"] (defScope s_read_part) := ⟨rfl, rfl, rfl, by decide +kernel, rfl, by decide +kernel, by decide +kernel⟩
theorem ok_part {g C CL : Addr} {fd : FuncData} {k f : Nat} (F : Fun K "read_part" "read_part" s_read_part g fd) (Z : LnC K CL) (LV : Lvl K w mg) (m_O : ∃ t, mg "MOST_OPEN" = some (.int 100 t)) (m_C : ∃ t, mg "COMPARISON" = some (.int 4 t)) (m_W : ∃ t, mg "WHOLE" = some (.int 1 t))
    (G_fail : ReadyM P w K mg base CL 2 "fail" ["self"] (spFail C CL)) (G_take : ReadyM P w K mg base CL 3 "take" ["self", "kind"] (spTake C CL)) (G_next : Ready P w K mg base 3 "next_level" ["line"] (spNextLv CL)) (G_large : Ready P w K mg base 4 "is_large" ["told"] spLarge)
    (G_oper : ReadyX P w K mg base (k + 6) "read_operand" ["line", "level", "many"] (spOper C CL f)) (G_part : ReadyX P w K mg base (k + 5) "read_part" ["line", "level", "many"] (spPart C CL f)) : FnOk P w K mg base (L2.CX P w) (k + 7) g fd ["line", "level", "many"] (spPart C CL (f + 1)) := by
  refine F.okX sc_part (fun vs H Q E h => ?_) (fun cdv A outer s H vs Q E hr h => ?_)
  · obtain ⟨p, n, ps, i, level, many, rfl, _⟩ := h
    rfl
  obtain ⟨p, n, ps, i, level, many, rfl, hm, hlev, hl, hi, he, hlen, q, qe⟩ := h
  obtain ⟨tO, mO⟩ := m_O
  obtain ⟨tC, mC⟩ := m_C
  obtain ⟨tW, mW⟩ := m_W
  obtain ⟨dL, esL, nL, m_L, kd, hk⟩ := LV.ex
  have nd := sc_part.nd
  have hr6 : Room (k + 6) _ := hr
  have hr5 : Room (k + 5) _ := hr6.mono (by omega)
  have hr4 : Room 4 _ := hr6.mono (by omega)
  have hr3 : Room 3 _ := hr6.mono (by omega)
  have hr2 : Room 2 _ := hr6.mono (by omega)
  have z4 : 4 ≤ sizeLine := by decide
  refine ⟨_, pss_cons (ps_if (pt_cmpR op_gt (pv 2) (pe_glob (v := .int 100) rfl mO ⟨_, rfl⟩) (nomark _)) (pss_one (ps_expr (pe_m0' G_fail Z.cls hr2 (onward (takes_of rfl rfl rfl rfl)) (pv 0)))) (pss_nil))
      (pss_cons (ps_set (i := 3) nd rfl (.inl rfl) (pe_fnX G_oper hr6 (takes_of rfl rfl rfl rfl) (pa_cons (pv 0) (pa_cons (pv 1) (pa_cons (pv 2) pa_nil)))))
      (pss_cons (ps_while (passes_of rfl) (pt_cmpR op_ge (pe_fn G_next hr3 (pa_cons (pv 0) pa_nil)) (pv 1) (nomark _)) (pss_cons (ps_set (i := 4) nd rfl (.inl rfl) (pe_m G_take Z.cls hr3 (onward (takes_of rfl rfl rfl rfl)) (pv 0) (pa_cons pe_str pa_nil)))
      (pss_cons (ps_set (i := 3) nd rfl (.inl rfl) (pe_tup (pa_cons pe_str (pa_cons (pv 4) (pa_cons (pv 3) (pa_cons (pe_fnX G_part hr5 (takes_of rfl rfl rfl rfl) (pa_cons (pv 0) (pa_cons (pe_op op_add (pe_ix ix_kdict (pe_glob (v := .ref dL) rfl m_L rfl) (pv 4) (fun _ _ => rfl)) pe_int) (pa_cons (pe_op op_add (pv 2) pe_int) pa_nil)))) pa_nil))))))
      (pss_one (ps_if (PW.pt (pw_and (pt_cmpR op_eq (pe_ix ix_kdict (pe_glob (v := .ref dL) rfl m_L rfl) (pv 4) (fun _ _ => rfl)) (pe_glob (v := .int 4) rfl mC ⟨_, rfl⟩) (nomark _)) (pw_and1 (pt_cmpR op_eq (pe_fn G_next hr3 (pa_cons (pv 0) pa_nil)) (pe_glob (v := .int 4) rfl mC ⟨_, rfl⟩) (nomark _))))) (pss_one (ps_expr (pe_m0' G_fail Z.cls hr2 (onward (takes_of rfl rfl rfl rfl)) (pv 0)))) (pss_nil))))))
      (pss_cons (ps_if (PW.pt (pw_and (pt_cmpR op_eq (pv 1) (pe_glob (v := .int 1) rfl mW ⟨_, rfl⟩) (nomark _)) (pw_and1 (pt_val (pe_fn G_large hr4 (pa_cons (pv 3) pa_nil)))))) (pss_one (ps_expr (pe_m0' G_fail Z.cls hr2 (onward (takes_of rfl rfl rfl rfl)) (pv 0)))) (pss_nil))
      (pss_one (ps_ret (pv 3)))))), ?_⟩
  refine ⟨_, rfl, _, _, rfl, rfl, _, rfl, ite2 (fun c => absurd (of_decide_eq_true c) (by omega)) (fun _ => ?_)⟩
  refine ⟨_, rfl, _, rfl, _, rfl, p, n, ps, i, level, many, rfl, by omega, hlev, hl, hi, he, hlen, fun e0 j0 hr0 v0 H0 b0 hl0 hx0 => ?_, fun j hr0 => qe j (by rw [rdPart, hr0]; rfl)⟩
  have hf0 := oper_fine he (rec := rdPart ps f) (fun l i h1 h2 => part_fine he f l i h1 h2) (level := level) hi
  rw [hr0] at hf0
  obtain ⟨f1, f2, f3⟩ := hf0
  have eP : rdPart ps (f + 1) level i = thenR (rdLoop ps (rdPart ps f) level ps.length e0 j0) fun e2 k => if level = 1 ∧ largeE e2 = true then .error k else .ok (e2, k) := by
    rw [rdPart, hr0]
    rfl
  let Inv : Nat → L2.St → Hp → Prop := fun gg σ H' => ∃ (e : Ex) (j : Nat) (v : V) (y4 : Option V), σ = [some (.ref p), some (.int (level : Int)), some (.int (many : Int)), some v, y4] ∧ ButL p H H' ∧ LineAt H' CL p n ps j ∧ j < ps.length ∧ i < j ∧ e.size + i ≤ j ∧ ExAt H' v e ∧ ps.length ≤ j + gg ∧ rdLoop ps (rdPart ps f) level ps.length e0 j0 = rdLoop ps (rdPart ps f) level gg e j
  refine ⟨Inv, ⟨ps.length, e0, j0, v0, none, rfl, b0, hl0, f1, f2, f3, hx0, by omega, rfl⟩, ?_⟩
  rintro gg σ H' ⟨e, j, v, y4, rfl, b, hlj, hj, hij, hsz, hx, hg, htot⟩
  obtain ⟨g', rfl⟩ : ∃ g', gg = g' + 1 := ⟨gg - 1, by omega⟩
  obtain ⟨dx, L, as, h1, _⟩ := id hlj
  refine ⟨_, rfl, p, n, ps, j, rfl, hlj, hj, he, _, rfl, _, _, rfl, rfl, _, rfl, ite2 (fun c => ?_) (fun c => ?_)⟩
  · have hle : level ≤ nextLev ps j := by
      have := of_decide_eq_true c
      omega
    have how := lev_own hlev hle
    have hkind := own_kind how
    have hval := he.own hj hkind
    have hj1 := he.next hj (own_pos how)
    have hlv := lev_pos (Nat.le_trans hlev hle)
    have hstep : rdLoop ps (rdPart ps f) level (g' + 1) e j = thenR (rdPart ps f (nextLev ps j + 1) (j + 1)) fun e2 j2 => if nextLev ps j = 4 ∧ nextLev ps j2 = 4 then .error j2 else rdLoop ps (rdPart ps f) level g' (.two (ownW ps j) e e2) j2 := by
      rw [rdLoop, if_pos hle]
    rw [hstep] at htot
    have kdct : KDct K w dL (ownW ps j) (.int (nextLev ps j : Nat)) := by
      rcases hk _ (own_in he hj) with ⟨u, v', e1, rv, e2⟩ | ⟨_, e2⟩
      · rw [hlv] at e2
        cases e2
        exact ⟨_, _, _, kd.at_, kd.lit, e1, rv⟩
      · rw [hlv] at e2
        cases e2
    refine ⟨fun σ' G => ∃ m', m' < g' + 1 ∧ Inv m' σ' G, fun σ' G h => h, ?_⟩
    refine ⟨_, rfl, p, dx, _, rfl, h1, rfl, p, n, ps, j, _, rfl, hlj, hj, fun _ H1 b1 hl1 => ?_, fun z => absurd hkind z⟩
    rw [hval, show pvV (.tx (ownW ps j)) = V.str (ownW ps j) from rfl]
    have kt1 : ∀ (a : Addr) (xs : List V), H' a = some (.tup xs) → H1 a = some (.tup xs) := fun a xs h => b1.b a _ (fun z => by rw [z, h1] at h; cases h) h
    obtain ⟨dx1, L1, as1, h1', _⟩ := id hl1
    have hf := part_fine he f (nextLev ps j + 1) (j + 1) (Nat.succ_pos _) hj1
    refine ⟨_, rfl, _, rfl, _, rfl, _, rfl, dL, _, _, rfl, rfl, kdct, _, _, rfl, rfl, _, rfl, _, _, rfl, rfl, p, n, ps, j + 1, nextLev ps j + 1, many + 1, rfl, by omega, Nat.succ_pos _, hl1, hj1, he, hlen, fun e2 j2 hr' v2 H2 b2 hl2 hx2 => ⟨z4, fun t ht => ?_⟩, fun j2 hr' => (qe j2 (by rw [eP, htot, hr']; rfl)).but (b.trans b1)⟩
    rw [hr'] at hf htot
    obtain ⟨k1, k2, k3⟩ := hf
    have u := same_upd (o := .tup [.str "two", .str (ownW ps j), v, v2]) ht
    have et : upd H2 t (.tup [.str "two", .str (ownW ps j), v, v2]) t = some (.tup [.str "two", .str (ownW ps j), v, v2]) := upd_same
    generalize upd H2 t (.tup [.str "two", .str (ownW ps j), v, v2]) = H3 at u et ⊢
    have kt2 : ∀ (a : Addr) (xs : List V), H1 a = some (.tup xs) → H2 a = some (.tup xs) := fun a xs h => b2.b a _ (fun z => by rw [z, h1'] at h; cases h) h
    have hx3 : ExAt H3 (.ref t) (.two (ownW ps j) e e2) := ⟨t, v, v2, rfl, et, ExAt.keep (fun a xs h => u a _ (kt2 _ _ (kt1 _ _ h))) hx, ExAt.keep (fun a xs h => u a _ h) hx2⟩
    have hl3 := hl2.keep u
    have b3 : ButL p H H3 := ((b.trans b1).trans b2).trans (sameL u)
    obtain ⟨dx3, L3, as3, h3, _⟩ := id hl3
    have next : ¬ (nextLev ps j = 4 ∧ nextLev ps j2 = 4) → ∃ m', m' < g' + 1 ∧ Inv m' [some (.ref p), some (.int (level : Int)), some (.int (many : Int)), some (.ref t), some (.str (ownW ps j))] H3 := fun hn => by
      refine ⟨g', by omega, _, j2, _, _, rfl, b3, hl3, k1, by omega, by show e.size + e2.size + 1 + i ≤ j2; omega, hx3, by omega, ?_⟩
      rw [htot]
      exact if_neg hn
    refine ⟨_, rfl, dL, _, _, rfl, rfl, kdct, rfl, _, rfl, ite2 (fun c4 => ?_) (fun c4 => ?_)⟩
    · have h4 : nextLev ps j = 4 := by
        have h := of_decide_eq_true c4
        injection h with h
        omega
      refine ⟨_, rfl, p, n, ps, j2, rfl, hl3, k1, he, rfl, _, rfl, ite2 (fun c5 => ?_) (fun c5 => ?_)⟩
      · have h5 : nextLev ps j2 = 4 := by
          have h := of_decide_eq_true c5
          injection h with h
          omega
        refine ⟨_, rfl, p, dx3, _, rfl, h3, rfl, p, n, ps, j2, rfl, hl3, k1, (qe j2 ?_).at b3⟩
        rw [eP, htot]
        show thenR (if nextLev ps j = 4 ∧ nextLev ps j2 = 4 then .error j2 else _) _ = _
        rw [if_pos ⟨h4, h5⟩]
        rfl
      · exact next fun z => c5 (decide_eq_true (by rw [z.2]; rfl))
    · exact next fun z => c4 (decide_eq_true (by rw [z.1]; rfl))
  · have hle : ¬ level ≤ nextLev ps j := fun z => c (decide_eq_true (by omega))
    rw [rdLoop, if_neg hle] at htot
    rw [htot] at eP
    have e1 : rdPart ps (f + 1) level i = if level = 1 ∧ largeE e = true then .error j else .ok (e, j) := eP
    have size : e.size ≤ 10000 := by omega
    refine ⟨_, rfl, rfl, _, rfl, ite2 (fun c1 => ?_) (fun c1 => ?_)⟩
    · have hl1 : level = 1 := by
        have h := of_decide_eq_true c1
        injection h with h
        omega
      refine ⟨_, rfl, v, e, rfl, hx, size, fun H1 s1 => ⟨_, rfl, ite2 (fun c2 => ?_) (fun c2 => ?_)⟩⟩
      · rw [if_pos ⟨hl1, c2⟩] at e1
        exact ⟨_, rfl, p, dx, _, rfl, s1 _ _ h1, rfl, p, n, ps, j, rfl, hlj.keep s1, hj, (qe j e1).at (b.trans (sameL s1))⟩
      · rw [if_neg (fun z => c2 z.2)] at e1
        exact ⟨_, rfl, q e j e1 v _ (b.trans (sameL s1)) (hlj.keep s1) (ExAt.keep (fun a xs h => s1 a _ h) hx)⟩
    · rw [if_neg (fun z => c1 (decide_eq_true (by rw [z.1]; rfl)))] at e1
      exact ⟨_, rfl, q e j e1 v _ b hlj hx⟩
end
end Kx

namespace Kx
open PySem PySem.Spec PyProof.Rows L2 TL
def spNo : Sp := fun _ _ _ _ => False
section
variable {P : Program} {w : World} {K : PySem.W.Frag} {mg : Str → Option Value} {base : Heap}
theorem no_defX {CX : CXT} {k : Nat} {f : Addr} {fd : FuncData} {sp : Sp} {ps : List Str} (h : ∀ vs H Q E, ¬ sp vs H Q E) : FnOk P w K mg base CX k f fd ps sp :=
  ⟨fun vs H Q E z => absurd z (h vs H Q E), fun A outer s H args us vs Q E _ _ _ _ z => absurd z (h vs H Q E)⟩
theorem ok_part0 {g C CL : Addr} {fd : FuncData} {k : Nat} (F : Fun K "read_part" "read_part" s_read_part g fd) (Z : LnC K CL) (LV : Lvl K w mg) (m_O : ∃ t, mg "MOST_OPEN" = some (.int 100 t)) (m_C : ∃ t, mg "COMPARISON" = some (.int 4 t)) (m_W : ∃ t, mg "WHOLE" = some (.int 1 t))
    (G_fail : ReadyM P w K mg base CL 2 "fail" ["self"] (spFail C CL)) (G_take : ReadyM P w K mg base CL 3 "take" ["self", "kind"] (spTake C CL)) (G_next : Ready P w K mg base 3 "next_level" ["line"] (spNextLv CL)) (G_large : Ready P w K mg base 4 "is_large" ["told"] spLarge)
    (G_oper : ReadyX P w K mg base (k + 4) "read_operand" ["line", "level", "many"] spNo) (G_part : ReadyX P w K mg base (k + 3) "read_part" ["line", "level", "many"] spNo) : FnOk P w K mg base (L2.CX P w) (k + 5) g fd ["line", "level", "many"] (spPart C CL 0) := by
  refine F.okX sc_part (fun vs H Q E h => ?_) (fun cdv A outer s H vs Q E hr h => ?_)
  · obtain ⟨p, n, ps, i, level, many, rfl, _⟩ := h
    rfl
  obtain ⟨p, n, ps, i, level, many, rfl, hm, hlev, hl, hi, he, hlen, q, qe⟩ := h
  obtain ⟨tO, mO⟩ := m_O
  obtain ⟨tC, mC⟩ := m_C
  obtain ⟨tW, mW⟩ := m_W
  obtain ⟨dL, esL, nL, m_L, kd, hk⟩ := LV.ex
  have nd := sc_part.nd
  have hr6 : Room (k + 4) _ := hr
  have hr5 : Room (k + 3) _ := hr6.mono (by omega)
  have hr4 : Room 4 _ := hr6.mono (by omega)
  have hr3 : Room 3 _ := hr6.mono (by omega)
  have hr2 : Room 2 _ := hr6.mono (by omega)
  refine ⟨_, pss_cons (ps_if (pt_cmpR op_gt (pv 2) (pe_glob (v := .int 100) rfl mO ⟨_, rfl⟩) (nomark _)) (pss_one (ps_expr (pe_m0' G_fail Z.cls hr2 (onward (takes_of rfl rfl rfl rfl)) (pv 0)))) (pss_nil))
      (pss_cons (ps_set (i := 3) nd rfl (.inl rfl) (pe_fnX G_oper hr6 (takes_of rfl rfl rfl rfl) (pa_cons (pv 0) (pa_cons (pv 1) (pa_cons (pv 2) pa_nil)))))
      (pss_cons (ps_while (passes_of rfl) (pt_cmpR op_ge (pe_fn G_next hr3 (pa_cons (pv 0) pa_nil)) (pv 1) (nomark _)) (pss_cons (ps_set (i := 4) nd rfl (.inl rfl) (pe_m G_take Z.cls hr3 (onward (takes_of rfl rfl rfl rfl)) (pv 0) (pa_cons pe_str pa_nil)))
      (pss_cons (ps_set (i := 3) nd rfl (.inl rfl) (pe_tup (pa_cons pe_str (pa_cons (pv 4) (pa_cons (pv 3) (pa_cons (pe_fnX G_part hr5 (takes_of rfl rfl rfl rfl) (pa_cons (pv 0) (pa_cons (pe_op op_add (pe_ix ix_kdict (pe_glob (v := .ref dL) rfl m_L rfl) (pv 4) (fun _ _ => rfl)) pe_int) (pa_cons (pe_op op_add (pv 2) pe_int) pa_nil)))) pa_nil))))))
      (pss_one (ps_if (PW.pt (pw_and (pt_cmpR op_eq (pe_ix ix_kdict (pe_glob (v := .ref dL) rfl m_L rfl) (pv 4) (fun _ _ => rfl)) (pe_glob (v := .int 4) rfl mC ⟨_, rfl⟩) (nomark _)) (pw_and1 (pt_cmpR op_eq (pe_fn G_next hr3 (pa_cons (pv 0) pa_nil)) (pe_glob (v := .int 4) rfl mC ⟨_, rfl⟩) (nomark _))))) (pss_one (ps_expr (pe_m0' G_fail Z.cls hr2 (onward (takes_of rfl rfl rfl rfl)) (pv 0)))) (pss_nil))))))
      (pss_cons (ps_if (PW.pt (pw_and (pt_cmpR op_eq (pv 1) (pe_glob (v := .int 1) rfl mW ⟨_, rfl⟩) (nomark _)) (pw_and1 (pt_val (pe_fn G_large hr4 (pa_cons (pv 3) pa_nil)))))) (pss_one (ps_expr (pe_m0' G_fail Z.cls hr2 (onward (takes_of rfl rfl rfl rfl)) (pv 0)))) (pss_nil))
      (pss_one (ps_ret (pv 3)))))), ?_⟩
  have e1 : rdPart ps 0 level i = .error i := rfl
  obtain ⟨dx, L, as, h1, _⟩ := id hl
  exact ⟨_, rfl, _, _, rfl, rfl, _, rfl, ite2 (fun _ => ⟨_, rfl, p, dx, _, rfl, h1, rfl, p, n, ps, i, rfl, hl, hi, (qe i e1).at (ButL.refl _ _)⟩) (fun c => absurd (decide_eq_true (by omega)) c)⟩
def spExpr (C CL : Addr) : Sp := fun vs H Q E => ∃ (p : Addr) (n : Int) (ps : List Pc) (i : Nat), vs = [.ref p] ∧ LineAt H CL p n ps i ∧ i < ps.length ∧ EndP ps ∧ ps.length ≤ 10000 ∧
  (∀ e j, rdPart ps 100 1 i = .ok (e, j) → ∀ v H', ButL p H H' → LineAt H' CL p n ps j → ExAt H' v e → Q v H') ∧ (∀ j, rdPart ps 100 1 i = .error j → BadP C p n ((curP ps j).col : Nat) H E)
theorem sc_expr : FnScope ["line"] ["line"] (defScope s_read_expression) := ⟨rfl, rfl, rfl, by decide +kernel, rfl, by decide +kernel, by decide +kernel⟩
theorem ok_expr {g C CL : Addr} {fd : FuncData} {k : Nat} (F : Fun K "read_expression" "read_expression" s_read_expression g fd) (m_W : ∃ t, mg "WHOLE" = some (.int 1 t)) (G_part : ReadyX P w K mg base k "read_part" ["line", "level", "many"] (spPart C CL 100)) : FnOk P w K mg base (L2.CX P w) (k + 1) g fd ["line"] (spExpr C CL) := by
  refine F.okX sc_expr (fun vs H Q E h => ?_) (fun cdv A outer s H vs Q E hr h => ?_)
  · obtain ⟨p, n, ps, i, rfl, _⟩ := h
    rfl
  obtain ⟨p, n, ps, i, rfl, hl, hi, he, hlen, q, qe⟩ := h
  obtain ⟨tW, mW⟩ := m_W
  have hrk : Room k _ := hr
  refine ⟨_, pss_one (ps_ret (pe_fnX G_part hrk (takes_of rfl rfl rfl rfl) (pa_cons (pv 0) (pa_cons (pe_glob (v := .int 1) rfl mW ⟨_, rfl⟩) (pa_cons pe_int pa_nil))))), ?_⟩
  exact ⟨_, rfl, p, n, ps, i, 1, 1, rfl, rfl, Nat.le_refl _, hl, hi, he, hlen, q, qe⟩
end
end Kx

namespace Kx
open PySem PySem.Spec PyProof.Rows L2 TL
abbrev s_read_list : Stmt := topS 37
abbrev s_read_name : Stmt := topS 38
abbrev s_read_column : Stmt := topS 39
abbrev s_read_new_name : Stmt := topS 40
abbrev s_read_mapped : Stmt := topS 41
abbrev s_read_folded : Stmt := topS 42
abbrev s_read_sorted : Stmt := topS 43
/-! ### a local name that holds one of some defs that may raise, called -/
structure CalX (P : Program) (w : World) (K : PySem.W.Frag) (mg : Str → Option Value) (base : Heap) (k : Nat) (f : Addr) (sp : Sp) : Prop where
  ex : ∃ (fd : FuncData) (ps : List Str), FnOk P w K mg base (L2.CX P w) k f fd ps sp ∧ PySem.W.keepIn K (.ref f) = true ∧ Binds K fd ps []
section
variable {X : Cx}
def tCallW (i : Nat) (fam : List (Addr × Sp)) (W : WX) (t : TA) : TE := fun σ H Q => ∃ p ∈ fam, σ[i]? = some (some (.ref p.1)) ∧ t σ H fun vs H1 => p.2 vs H1 Q (WE W σ)
theorem pe_cvX {i j : Nat} {fam : List (Addr × Sp)} {W : WX} {x : Str} {p pos : Pos} {e : Expr} {es : List Expr} {t : TA} (c : ∀ p ∈ fam, ∃ k, k ≤ j ∧ CalX X.prog X.w X.K X.mg X.base k p.1 p.2) (hr : Room j X.A) (tk : Takes X W) (hN : X.N[i]? = some x) (hv : Vis X.env.scope x) (ha : PA X (e :: es) t)
    (hd : (x == ("__debug__" : Str)) = false := by decide) (hcd : (x == ("__classdict__" : Str)) = false := by decide)
    (he : starEach (e :: es) X.env = (false, eval e X.env) :: starEach es X.env := by rfl) (hpl : (backTo pos (starEach es X.env)).any (·.1) = false := by rfl) :
    PE X (.Call (.Name x p) (e :: es) [] pos) (tCallW i fam W t) := by
  constructor
  intro pins s σ H Q I h
  obtain ⟨⟨f, sp⟩, hm, hs, ht⟩ := h
  obtain ⟨k, hk, ⟨fd, ps, F, kp, b⟩⟩ := c _ hm
  refine wpAny_Call_Name_kw (thn ((pe_var (pos := p) hN hv hd hcd).run pins s σ H (fun v H1 => v = .ref f ∧ H1 = H) I ⟨.ref f, hs, rfl, rfl⟩) ?_)
  rintro u s1 ⟨v, H1, I1, r1, rfl, rfl⟩
  cases r1
  refine PySem.W.callWith_K (h₀ := X.base) I.ok.mod.kin kp (thn (ha.run pos pins s1 σ _ _ I1 ht) ?_) he hpl
  rintro us s2 ⟨vs, H2, I2, r, q⟩
  exact ⟨I2.kIn, run_fnS F (hr.mono hk) b (passAt tk σ) I2 r q⟩
end
theorem LineAt.put {H G : Hp} {CL p N : Addr} {n : Int} {ps : List Pc} {i j : Nat} {o : HO} (hl : LineAt H CL p n ps i) (b : ButL p H G) (hg : LineAt G CL p n ps j) (hN : H N = none) : LineAt (upd G N o) CL p n ps j := by
  obtain ⟨dx, L, as, h1, h2, h3, h4⟩ := hl
  obtain ⟨i', e⟩ := b.f _ _ _ _ _ h1
  obtain ⟨dx2, L2, as2, g1, _, _, _⟩ := hg
  have ej : i' = j := by
    rw [e] at g1
    injection g1 with g1
    injection g1 with _ _ g3
    have h0 := congrArg (List.lookup ("place" : Str)) g3
    rw [lk3, lk3] at h0
    injection h0 with h0
    injection h0 with h0
    omega
  subst ej
  have nt : ∀ {a : Addr} {o' : HO}, H a = some o' → a ≠ N := fun h z => by
    rw [z, hN] at h
    cases h
  have np : ∀ {a : Addr} {o' : HO}, H a = some o' → (∀ C d f, o' ≠ .ins C d f) → a ≠ p := fun h k z => by
    rw [z, h1] at h
    cases h
    exact k _ _ _ rfl
  refine ⟨dx, L, as, ?_, ?_, fun x hx => ?_, h4⟩
  · rw [upd_ne (nt h1)]
    exact e
  · rw [upd_ne (nt h2)]
    exact b.b _ _ (np h2 fun _ _ _ z => by cases z) h2
  · have h := h3 x hx
    rw [upd_ne (nt h)]
    exact b.b _ _ (np h fun _ _ _ z => by cases z) h
theorem ButL.put {p N : Addr} {H G : Hp} {o : HO} (b : ButL p H G) (hN : H N = none) : ButL p H (upd G N o) := ⟨fun a o' ha e => by
  rw [upd_ne (fun z => by rw [z, hN] at e; cases e)]
  exact b.b a o' ha e, fun C dx L n i e => by
  obtain ⟨i', e'⟩ := b.f C dx L n i e
  refine ⟨i', ?_⟩
  rw [upd_ne (fun z => by rw [z, hN] at e; cases e)]
  exact e'⟩
/-! ### readings of any kind -/
abbrev Rdg (A : Type) : Type := List Pc → Nat → Except Nat (A × Nat)
def thenA {A B : Type} (r : Except Nat (A × Nat)) (k : A → Nat → Except Nat (B × Nat)) : Except Nat (B × Nat) := match r with
  | .error j => .error j
  | .ok (a, j) => k a j
def FineF {A : Type} (rd : Rdg A) : Prop := ∀ ps, EndP ps → ∀ i, i < ps.length → ∀ a j, rd ps i = .ok (a, j) → i < j ∧ j < ps.length
def KeepAt {A : Type} (At : Hp → V → A → Prop) : Prop := ∀ (H H' : Hp) (v : V) (a : A), (∀ (t : Addr) (xs : List V), H t = some (.tup xs) → H' t = some (.tup xs)) → At H v a → At H' v a
def spRd {A : Type} (C CL : Addr) (At : Hp → V → A → Prop) (rd : Rdg A) : Sp := fun vs H Q E => ∃ (p : Addr) (n : Int) (ps : List Pc) (i : Nat), vs = [.ref p] ∧ LineAt H CL p n ps i ∧ i < ps.length ∧ EndP ps ∧ ps.length ≤ 10000 ∧
  (∀ a j, rd ps i = .ok (a, j) → ∀ v H', ButL p H H' → LineAt H' CL p n ps j → At H' v a → Q v H') ∧ (∀ j, rd ps i = .error j → BadP C p n ((curP ps j).col : Nat) H E)
def rdItems {A : Type} (rd : Rdg A) (ps : List Pc) : Nat → List A → Nat → Except Nat (List A × Nat)
  | 0, as, i => .ok (as, i)
  | g + 1, as, i => if ownW ps i = "," then thenA (rd ps (i + 1)) fun a j => rdItems rd ps g (as ++ [a]) j else .ok (as, i)
def rdList {A : Type} (rd : Rdg A) : Rdg (List A) := fun ps i => thenA (rd ps i) fun a j => rdItems rd ps ps.length [a] j
def ListAt {A : Type} (At : Hp → V → A → Prop) (H : Hp) (v : V) (as : List A) : Prop := ∃ (t : Addr) (xs : List V), v = .ref t ∧ H t = some (.tup xs) ∧ Paired (At H) xs as
theorem ListAt.keep {A : Type} {At : Hp → V → A → Prop} (k : KeepAt At) : KeepAt (ListAt At) := fun H H' v as h ⟨t, xs, e, h1, h2⟩ => ⟨t, xs, e, h _ _ h1, Paired.mapP h2 fun a b q => k H H' a b h q⟩
theorem items_fine {A : Type} {rd : Rdg A} (hr : FineF rd) {ps : List Pc} (he : EndP ps) : ∀ (g : Nat) (as : List A) (i : Nat) (bs : List A) (j : Nat), i < ps.length → rdItems rd ps g as i = .ok (bs, j) → i ≤ j ∧ j < ps.length
  | 0, as, i, bs, j, hi, h => by
    cases h
    exact ⟨Nat.le_refl _, hi⟩
  | g + 1, as, i, bs, j, hi, h => by
    rw [rdItems] at h
    by_cases c : ownW ps i = ","
    · rw [if_pos c] at h
      have hi1 := he.next hi (own_pos (by rw [c]; decide +kernel))
      cases hh : rd ps (i + 1) with
      | error k =>
        rw [hh] at h
        cases h
      | ok t =>
        obtain ⟨a, k⟩ := t
        rw [hh] at h
        obtain ⟨k1, k2⟩ := hr ps he (i + 1) hi1 a k hh
        obtain ⟨m1, m2⟩ := items_fine hr he g _ k bs j k2 h
        exact ⟨by omega, m2⟩
    · rw [if_neg c] at h
      cases h
      exact ⟨Nat.le_refl _, hi⟩
theorem list_fine {A : Type} {rd : Rdg A} (hr : FineF rd) : FineF (rdList rd) := fun ps he i hi bs j h => by
  unfold rdList at h
  cases hh : rd ps i with
  | error k =>
    rw [hh] at h
    cases h
  | ok t =>
    obtain ⟨a, k⟩ := t
    rw [hh] at h
    obtain ⟨k1, k2⟩ := hr ps he i hi a k hh
    obtain ⟨m1, m2⟩ := items_fine hr he _ _ k bs j k2 h
    exact ⟨by omega, m2⟩
section
variable {P : Program} {w : World} {K : PySem.W.Frag} {mg : Str → Option Value} {base : Heap}
def spList {A : Type} (C CL fr : Addr) (At : Hp → V → A → Prop) (rd : Rdg A) : Sp := fun vs H Q E => ∃ p : Addr, vs = [.ref p, .ref fr] ∧ spRd C CL (ListAt At) (rdList rd) [.ref p] H Q E
abbrev N_read_list : List Str := ["line", "read_one", "things"]
theorem sc_list : FnScope N_read_list ["line", "read_one"] (defScope s_read_list) := ⟨rfl, rfl, rfl, by decide +kernel, rfl, by decide +kernel, by decide +kernel⟩
theorem ok_list {A : Type} {g C CL fr : Addr} {fd : FuncData} {k : Nat} {At : Hp → V → A → Prop} {rd : Rdg A} (F : Fun K "read_list" "read_list" s_read_list g fd) (Z : LnC K CL) (m_tuple : mg "tuple" = none) (hA : KeepAt At) (hR : FineF rd) (G_took : ReadyM P w K mg base CL 3 "took" ["self", "word"] (spTook CL)) (G_one : CalX P w K mg base k fr (spRd C CL At rd)) (hk : 3 ≤ k) : FnOk P w K mg base (L2.CX P w) (k + 1) g fd ["line", "read_one"] (spList C CL fr At rd) := by
  refine F.okX sc_list (fun vs H Q E h => ?_) (fun cdv A' outer s H vs Q E hr h => ?_)
  · obtain ⟨p, rfl, _⟩ := h
    rfl
  obtain ⟨p, rfl, p', n, ps, i, ep, hl, hi, he, hlen, q, qe⟩ := h
  cases ep
  have nd := sc_list.nd
  have hrk : Room k _ := hr
  have hr3 : Room 3 _ := hrk.mono hk
  have cal : ∀ x ∈ [(fr, spRd C CL At rd)], ∃ k', k' ≤ k ∧ CalX P w K mg base k' x.1 x.2 := fun x hx => by
    rw [List.mem_singleton.mp hx]
    exact ⟨k, Nat.le_refl _, G_one⟩
  refine ⟨_, pss_cons (ps_set (i := 2) nd rfl (.inl rfl) (pe_lst (pa_cons (pe_cvX (i := 1) cal hrk (takes_of rfl rfl rfl rfl) rfl (.inl rfl) (pa_cons (pv 0) pa_nil)) pa_nil)))
      (pss_cons (ps_while (passes_of rfl) (pt_val (pe_m G_took Z.cls hr3 noE (pv 0) (pa_cons pe_str pa_nil))) (pss_one (ps_expr (pe_bm PySem.F.plainAttrs_list PySem.F.slot_list_append PySem.F.type_list_append mt_append (pv 2) (pa_cons (pe_cvX (i := 1) cal hrk (takes_of rfl rfl rfl rfl) rfl (.inl rfl) (pa_cons (pv 0) pa_nil)) pa_nil)))))
      (pss_one (ps_ret (pe_callTy call_tuple_of (by rfl) m_tuple PyProof.Rows.boot_tuple (pa_cons (pv 2) pa_nil))))), ?_⟩
  have z1 : 1 ≤ sizeLine := by decide
  have eAll : rdList rd ps i = thenA (rd ps i) fun a j => rdItems rd ps ps.length [a] j := rfl
  refine ⟨(fr, spRd C CL At rd), List.mem_cons_self, rfl, _, rfl, p, n, ps, i, rfl, hl, hi, he, hlen, fun a0 j0 hr0 v0 H1 b1 hl1 ha0 => ⟨z1, fun L hL => ?_⟩, fun j hr0 => qe j (by rw [eAll, hr0]; rfl)⟩
  obtain ⟨f1, f2⟩ := hR ps he i hi a0 j0 hr0
  rw [hr0] at eAll
  change rdList rd ps i = rdItems rd ps ps.length [a0] j0 at eAll
  obtain ⟨dx, L0, as0, hp, _⟩ := id hl
  have nLp : L ≠ p := fun z => by
    obtain ⟨dx1, L1, as1, h1, _⟩ := hl1
    rw [z, h1] at hL
    cases hL
  have hLH : H L = none := by
    cases e : H L with
    | none => rfl
    | some o =>
      rw [b1.b _ _ nLp e] at hL
      cases hL
  let Inv : Nat → L2.St → Hp → Prop := fun gg σ G => ∃ (as : List A) (j : Nat) (xs : List V), σ = [some (.ref p), some (.ref fr), some (.ref L)] ∧ ButL p H G ∧ LineAt G CL p n ps j ∧ j < ps.length ∧ G L = some (.lst xs) ∧ Paired (At G) xs as ∧ ps.length ≤ j + gg ∧ as.length ≤ j + 1 ∧ rdList rd ps i = rdItems rd ps gg as j
  refine ⟨Inv, ⟨ps.length, [a0], j0, [v0], rfl, b1.put hLH, hl.put b1 hl1 hLH, f2, upd_same, .cons (hA _ _ _ _ (fun t xs h => same_upd hL t _ h) ha0) .nil, by omega, by show 1 ≤ _; omega, eAll⟩, ?_⟩
  rintro gg σ G ⟨as, j, xs, rfl, b, hlj, hj, eL, hx, hg, hlen2, htot⟩
  obtain ⟨g', rfl⟩ : ∃ g', gg = g' + 1 := ⟨gg - 1, by omega⟩
  obtain ⟨dx1, L1, as1, h1, _⟩ := id hlj
  refine ⟨_, rfl, p, dx1, _, rfl, h1, rfl, p, n, ps, j, _, rfl, hlj, hj, he, fun hw G1 c1 hl2 => ?_, fun hw => ?_⟩
  · have hj1 := he.next hj (own_pos (by rw [hw]; decide +kernel))
    rw [rdItems, if_pos hw] at htot
    have eL1 := c1.b _ _ nLp eL
    have kt1 : ∀ (a : Addr) (xs : List V), G a = some (.tup xs) → G1 a = some (.tup xs) := fun a xs h => c1.b a _ (fun z => by rw [z, h1] at h; cases h) h
    obtain ⟨dx2, L2', as2, h2, _⟩ := id hl2
    refine ⟨_, rfl, iteT ⟨fun σ' G2 => ∃ m', m' < g' + 1 ∧ Inv m' σ' G2, fun σ' G2 h => h, ?_⟩⟩
    refine ⟨_, rfl, .inl ⟨rfl, _, SqL.of eL1⟩, (fr, spRd C CL At rd), List.mem_cons_self, rfl, _, rfl, p, n, ps, j + 1, rfl, hl2, hj1, he, hlen, fun a j2 hra v G2 c2 hl3 ha => ?_, fun j2 hra => (qe j2 (by rw [htot, hra]; rfl)).but (b.trans c1)⟩
    obtain ⟨m1, m2⟩ := hR ps he (j + 1) hj1 a j2 hra
    rw [hra] at htot
    have eL2 := c2.b _ _ nLp eL1
    have kt2 : ∀ (a : Addr) (xs : List V), G1 a = some (.tup xs) → G2 a = some (.tup xs) := fun a xs h => c2.b a _ (fun z => by rw [z, h2] at h; cases h) h
    have ktL : ∀ (a : Addr) (ys : List V), G2 a = some (.tup ys) → upd G2 L (.lst (xs ++ [v])) a = some (.tup ys) := fun a ys h => by
      rw [upd_ne (fun z => by rw [z, eL2] at h; cases h)]
      exact h
    have lx : xs.length = as.length := Paired.length hx
    refine ⟨L, _, _, rfl, rfl, eL2, Nat.lt_of_le_of_lt (show _ ≤ 10001 by omega) (by decide), ?_⟩
    refine ⟨g', by omega, as ++ [a], j2, xs ++ [v], rfl, ((b.trans c1).trans c2).put hLH, hl.put ((b.trans c1).trans c2) hl3 hLH, m2, upd_same, Paired.snoc (Paired.mapP hx fun x y h => hA _ _ _ _ (fun t ys e => ktL _ _ (kt2 _ _ (kt1 _ _ e))) h) (hA _ _ _ _ ktL ha), by omega, by rw [List.length_append]; show as.length + 1 ≤ j2 + 1; omega, htot⟩
  · rw [rdItems, if_neg hw] at htot
    refine ⟨_, rfl, iteF ?_⟩
    refine ⟨_, rfl, L, _, rfl, .inl ⟨SqL.of eL, fun t ht => ?_⟩⟩
    have u := same_upd (o := .tup xs) ht
    exact q as j htot (.ref t) _ (b.trans (sameL u)) (hlj.keep u) ⟨t, xs, rfl, upd_same, Paired.mapP hx fun x y h => hA _ _ _ _ (fun t' ys e => u t' _ e) h⟩
end
end Kx

namespace Kx
open PySem PySem.Spec PyProof.Rows L2 TL
def StrAt (_ : Hp) (v : V) (z : Str) : Prop := v = .str z
theorem StrAt.keep : KeepAt StrAt := fun _ _ _ _ _ h => h
def txt (v : PV) : Str := match v with
  | .tx z => z
  | .nm _ => ""
def rdName : Rdg Str := fun ps i => if (curP ps i).kind = "name" then .ok (txt (curP ps i).val, i + 1) else .error i
def rdWord (ws : List Str) : Rdg Str := fun ps i => if ownW ps i ∈ ws then .ok (ownW ps i, i + 1) else .error i
def rdTwo (ws : List Str) : Rdg (Str × Str) := fun ps i => thenA (rdName ps i) fun z j => thenA (rdWord ws ps j) fun w k => .ok ((z, w), k)
def rdNew : Rdg Str := fun ps i => thenA (rdWord ["as"] ps i) fun _ j => rdName ps j
def TwoAt (H : Hp) (v : V) (x : Str × Str) : Prop := ∃ t : Addr, v = .ref t ∧ H t = some (.tup [.str x.1, .str x.2])
theorem TwoAt.keep : KeepAt TwoAt := fun _ _ _ _ h ⟨t, e, q⟩ => ⟨t, e, h _ _ q⟩
theorem name_fine : FineF rdName := fun ps he i hi a j h => by
  unfold rdName at h
  by_cases c : (curP ps i).kind = "name"
  · rw [if_pos c] at h
    cases h
    exact ⟨Nat.lt_succ_self _, he.next hi (by rw [c]; decide +kernel)⟩
  · rw [if_neg c] at h
    cases h
theorem word_fine {ws : List Str} (h0 : ("" : Str) ∉ ws) : FineF (rdWord ws) := fun ps he i hi a j h => by
  unfold rdWord at h
  by_cases c : ownW ps i ∈ ws
  · rw [if_pos c] at h
    cases h
    exact ⟨Nat.lt_succ_self _, he.next hi (own_pos fun z => h0 (by rw [← z]; exact c))⟩
  · rw [if_neg c] at h
    cases h
theorem thenA_fine {A B : Type} {rd : Rdg A} {k : A → Rdg B} (hr : FineF rd) (hk : ∀ a, FineF (k a)) : FineF (fun ps i => thenA (rd ps i) fun a j => k a ps j) := fun ps he i hi b j h => by
  cases hh : rd ps i with
  | error m =>
    dsimp only at h
    rw [hh] at h
    cases h
  | ok t =>
    obtain ⟨a, m⟩ := t
    dsimp only at h
    rw [hh] at h
    obtain ⟨k1, k2⟩ := hr ps he i hi a m hh
    obtain ⟨m1, m2⟩ := hk a ps he m k2 b j h
    exact ⟨by omega, m2⟩
theorem two_fine {ws : List Str} (h0 : ("" : Str) ∉ ws) : FineF (rdTwo ws) := fun ps he i hi x j h => by
  unfold rdTwo at h
  cases hh : rdName ps i with
  | error m =>
    rw [hh] at h
    cases h
  | ok t =>
    obtain ⟨a, m⟩ := t
    rw [hh] at h
    obtain ⟨k1, k2⟩ := name_fine ps he i hi a m hh
    change thenA (rdWord ws ps m) _ = _ at h
    cases h2 : rdWord ws ps m with
    | error m2 =>
      rw [h2] at h
      cases h
    | ok t2 =>
      obtain ⟨b, m2⟩ := t2
      rw [h2] at h
      cases h
      obtain ⟨l1, l2⟩ := word_fine h0 ps he m k2 b j h2
      exact ⟨by omega, l2⟩
theorem new_fine : FineF rdNew := thenA_fine (k := fun _ => rdName) (word_fine (by decide +kernel)) fun _ => name_fine
section
variable {P : Program} {w : World} {K : PySem.W.Frag} {mg : Str → Option Value} {base : Heap}
theorem val_name {ps : List Pc} (he : EndP ps) {i : Nat} (hi : i < ps.length) (hk : (curP ps i).kind = "name") : pvV (curP ps i).val = .str (txt (curP ps i).val) := by
  obtain ⟨z, hv⟩ := (cur_ok he hi (by rw [hk]; decide +kernel)).txt (.inr hk)
  rw [hv]
  rfl
theorem sc_rname : FnScope ["line"] ["line"] (defScope s_read_name) := ⟨rfl, rfl, rfl, by decide +kernel, rfl, by decide +kernel, by decide +kernel⟩
theorem ok_rname {g C CL : Addr} {fd : FuncData} (F : Fun K "read_name" "read_name" s_read_name g fd) (Z : LnC K CL) (G_take : ReadyM P w K mg base CL 3 "take" ["self", "kind"] (spTake C CL)) : FnOk P w K mg base (L2.CX P w) 4 g fd ["line"] (spRd C CL StrAt rdName) := by
  refine F.okX sc_rname (fun vs H Q E h => ?_) (fun cdv A outer s H vs Q E hr h => ?_)
  · obtain ⟨p, n, ps, i, rfl, _⟩ := h
    rfl
  obtain ⟨p, n, ps, i, rfl, hl, hi, he, hlen, q, qe⟩ := h
  have hr3 : Room 3 _ := hr
  refine ⟨_, pss_one (ps_ret (pe_m G_take Z.cls hr3 (onward (takes_of rfl rfl rfl rfl)) (pv 0) (pa_cons pe_str pa_nil))), ?_⟩
  obtain ⟨dx, L, as, h1, _⟩ := id hl
  exact ⟨_, rfl, p, dx, _, rfl, h1, rfl, p, n, ps, i, _, rfl, hl, hi, fun hk H1 b1 hl1 => q _ _ (if_pos hk) _ H1 b1 hl1 (val_name he hi hk), fun hk => (qe i (if_neg hk)).at (ButL.refl _ _)⟩
theorem sc_rnew : FnScope ["line"] ["line"] (defScope s_read_new_name) := ⟨rfl, rfl, rfl, by decide +kernel, rfl, by decide +kernel, by decide +kernel⟩
theorem ok_rnew {g C CL : Addr} {fd : FuncData} (F : Fun K "read_new_name" "read_new_name" s_read_new_name g fd) (Z : LnC K CL) (G_expect : ReadyM P w K mg base CL 4 "expect" ["self", "word"] (spExpect C CL)) (G_take : ReadyM P w K mg base CL 3 "take" ["self", "kind"] (spTake C CL)) : FnOk P w K mg base (L2.CX P w) 5 g fd ["line"] (spRd C CL StrAt rdNew) := by
  refine F.okX sc_rnew (fun vs H Q E h => ?_) (fun cdv A outer s H vs Q E hr h => ?_)
  · obtain ⟨p, n, ps, i, rfl, _⟩ := h
    rfl
  obtain ⟨p, n, ps, i, rfl, hl, hi, he, hlen, q, qe⟩ := h
  have hr4 : Room 4 _ := hr
  have hr3 : Room 3 _ := hr.mono (by decide)
  refine ⟨_, pss_cons (ps_expr (pe_m G_expect Z.cls hr4 (onward (takes_of rfl rfl rfl rfl)) (pv 0) (pa_cons pe_str pa_nil)))
      (pss_one (ps_ret (pe_m G_take Z.cls hr3 (onward (takes_of rfl rfl rfl rfl)) (pv 0) (pa_cons pe_str pa_nil)))), ?_⟩
  obtain ⟨dx, L, as, h1, _⟩ := id hl
  refine ⟨_, rfl, p, dx, _, rfl, h1, rfl, p, n, ps, i, _, rfl, hl, hi, he, fun hw H1 b1 hl1 => ?_, fun hw => ?_⟩
  · have e1 : rdWord ["as"] ps i = .ok (ownW ps i, i + 1) := if_pos (by rw [hw]; exact List.mem_cons_self)
    have e2 : rdNew ps i = rdName ps (i + 1) := by
      unfold rdNew
      rw [e1]
      rfl
    have hi1 := he.next hi (own_pos (by rw [hw]; decide +kernel))
    obtain ⟨dx1, L1, as1, h1', _⟩ := id hl1
    exact ⟨_, rfl, p, dx1, _, rfl, h1', rfl, p, n, ps, i + 1, _, rfl, hl1, hi1, fun hk H2 b2 hl2 => q _ _ (e2.trans (if_pos hk)) _ H2 (b1.trans b2) hl2 (val_name he hi1 hk), fun hk => (qe (i + 1) (e2.trans (if_neg hk))).at b1⟩
  · have e1 : rdWord ["as"] ps i = .error i := if_neg (fun z => hw (List.mem_singleton.mp z))
    refine (qe i ?_).at (ButL.refl _ _)
    unfold rdNew
    rw [e1]
    rfl
theorem sc_rcolumn : FnScope ["line", "name"] ["line"] (defScope s_read_column) := ⟨rfl, rfl, rfl, by decide +kernel, rfl, by decide +kernel, by decide +kernel⟩
theorem ok_rcolumn {g C CL : Addr} {fd : FuncData} (F : Fun K "read_column" "read_column" s_read_column g fd) (Z : LnC K CL) (G_take : ReadyM P w K mg base CL 3 "take" ["self", "kind"] (spTake C CL)) (G_one : ReadyM P w K mg base CL 4 "take_one_of" ["self", "words"] (spTakeOne K C CL)) : FnOk P w K mg base (L2.CX P w) 5 g fd ["line"] (spRd C CL TwoAt (rdTwo ["int", "text"])) := by
  refine F.okX sc_rcolumn (fun vs H Q E h => ?_) (fun cdv A outer s H vs Q E hr h => ?_)
  · obtain ⟨p, n, ps, i, rfl, _⟩ := h
    rfl
  obtain ⟨p, n, ps, i, rfl, hl, hi, he, hlen, q, qe⟩ := h
  have nd := sc_rcolumn.nd
  have hr4 : Room 4 _ := hr
  have hr3 : Room 3 _ := hr.mono (by decide)
  have z2 : 2 ≤ sizeLine := by decide
  refine ⟨_, pss_cons (ps_set (i := 1) nd rfl (.inl rfl) (pe_m G_take Z.cls hr3 (onward (takes_of rfl rfl rfl rfl)) (pv 0) (pa_cons pe_str pa_nil)))
      (pss_one (ps_ret (pe_tup (pa_cons (pv 1) (pa_cons (pe_m G_one Z.cls hr4 (onward (takes_of rfl rfl rfl rfl)) (pv 0) (pa_cons (pe_tup (pa_cons pe_str (pa_cons pe_str pa_nil))) pa_nil)) pa_nil))))), ?_⟩
  obtain ⟨dx, L, as, h1, _⟩ := id hl
  refine ⟨_, rfl, p, dx, _, rfl, h1, rfl, p, n, ps, i, _, rfl, hl, hi, fun hk H1 b1 hl1 => ?_, fun hk => ?_⟩
  · have e1 : rdName ps i = .ok (txt (curP ps i).val, i + 1) := if_pos hk
    have hi1 := he.next hi (by rw [hk]; decide +kernel)
    have e2 : rdTwo ["int", "text"] ps i = thenA (rdWord ["int", "text"] ps (i + 1)) fun w k => .ok ((txt (curP ps i).val, w), k) := by
      unfold rdTwo
      rw [e1]
      rfl
    rw [val_name he hi hk]
    obtain ⟨dx1, L1, as1, h1', _⟩ := id hl1
    refine ⟨_, rfl, _, rfl, p, dx1, _, rfl, h1', rfl, z2, fun wt hwt => ?_⟩
    have u := same_upd (o := .tup ((["int", "text"] : List Str).map V.str)) hwt
    refine ⟨p, wt, n, ps, i + 1, ["int", "text"], rfl, hl1.keep u, hi1, he, .inr (SqT.of upd_same), by decide +kernel, fun hw H2 b2 hl2 => ⟨z2, fun t ht => ?_⟩, fun hw => ?_⟩
    · have e3 : rdWord ["int", "text"] ps (i + 1) = .ok (ownW ps (i + 1), i + 2) := if_pos hw
      have u2 := same_upd (o := .tup [.str (txt (curP ps i).val), .str (ownW ps (i + 1))]) ht
      exact q _ (i + 2) (by rw [e2, e3]; rfl) (.ref t) _ (((b1.trans (sameL u)).trans b2).trans (sameL u2)) (hl2.keep u2) ⟨t, rfl, upd_same⟩
    · have e3 : rdWord ["int", "text"] ps (i + 1) = .error (i + 1) := if_neg hw
      exact (qe (i + 1) (by rw [e2, e3]; rfl)).at (b1.trans (sameL u))
  · have e1 : rdName ps i = .error i := if_neg hk
    refine (qe i ?_).at (ButL.refl _ _)
    unfold rdTwo
    rw [e1]
    rfl
theorem sc_rsorted : FnScope ["line", "name"] ["line"] (defScope s_read_sorted) := ⟨rfl, rfl, rfl, by decide +kernel, rfl, by decide +kernel, by decide +kernel⟩
theorem ok_rsorted {g C CL : Addr} {fd : FuncData} (F : Fun K "read_sorted" "read_sorted" s_read_sorted g fd) (Z : LnC K CL) (G_take : ReadyM P w K mg base CL 3 "take" ["self", "kind"] (spTake C CL)) (G_one : ReadyM P w K mg base CL 4 "take_one_of" ["self", "words"] (spTakeOne K C CL)) : FnOk P w K mg base (L2.CX P w) 5 g fd ["line"] (spRd C CL TwoAt (rdTwo ["up", "down"])) := by
  refine F.okX sc_rsorted (fun vs H Q E h => ?_) (fun cdv A outer s H vs Q E hr h => ?_)
  · obtain ⟨p, n, ps, i, rfl, _⟩ := h
    rfl
  obtain ⟨p, n, ps, i, rfl, hl, hi, he, hlen, q, qe⟩ := h
  have nd := sc_rsorted.nd
  have hr4 : Room 4 _ := hr
  have hr3 : Room 3 _ := hr.mono (by decide)
  have z2 : 2 ≤ sizeLine := by decide
  refine ⟨_, pss_cons (ps_set (i := 1) nd rfl (.inl rfl) (pe_m G_take Z.cls hr3 (onward (takes_of rfl rfl rfl rfl)) (pv 0) (pa_cons pe_str pa_nil)))
      (pss_one (ps_ret (pe_tup (pa_cons (pv 1) (pa_cons (pe_m G_one Z.cls hr4 (onward (takes_of rfl rfl rfl rfl)) (pv 0) (pa_cons (pe_tup (pa_cons pe_str (pa_cons pe_str pa_nil))) pa_nil)) pa_nil))))), ?_⟩
  obtain ⟨dx, L, as, h1, _⟩ := id hl
  refine ⟨_, rfl, p, dx, _, rfl, h1, rfl, p, n, ps, i, _, rfl, hl, hi, fun hk H1 b1 hl1 => ?_, fun hk => ?_⟩
  · have e1 : rdName ps i = .ok (txt (curP ps i).val, i + 1) := if_pos hk
    have hi1 := he.next hi (by rw [hk]; decide +kernel)
    have e2 : rdTwo ["up", "down"] ps i = thenA (rdWord ["up", "down"] ps (i + 1)) fun w k => .ok ((txt (curP ps i).val, w), k) := by
      unfold rdTwo
      rw [e1]
      rfl
    rw [val_name he hi hk]
    obtain ⟨dx1, L1, as1, h1', _⟩ := id hl1
    refine ⟨_, rfl, _, rfl, p, dx1, _, rfl, h1', rfl, z2, fun wt hwt => ?_⟩
    have u := same_upd (o := .tup ((["up", "down"] : List Str).map V.str)) hwt
    refine ⟨p, wt, n, ps, i + 1, ["up", "down"], rfl, hl1.keep u, hi1, he, .inr (SqT.of upd_same), by decide +kernel, fun hw H2 b2 hl2 => ⟨z2, fun t ht => ?_⟩, fun hw => ?_⟩
    · have e3 : rdWord ["up", "down"] ps (i + 1) = .ok (ownW ps (i + 1), i + 2) := if_pos hw
      have u2 := same_upd (o := .tup [.str (txt (curP ps i).val), .str (ownW ps (i + 1))]) ht
      exact q _ (i + 2) (by rw [e2, e3]; rfl) (.ref t) _ (((b1.trans (sameL u)).trans b2).trans (sameL u2)) (hl2.keep u2) ⟨t, rfl, upd_same⟩
    · have e3 : rdWord ["up", "down"] ps (i + 1) = .error (i + 1) := if_neg hw
      exact (qe (i + 1) (by rw [e2, e3]; rfl)).at (b1.trans (sameL u))
  · have e1 : rdName ps i = .error i := if_neg hk
    refine (qe i ?_).at (ButL.refl _ _)
    unfold rdTwo
    rw [e1]
    rfl
end
end Kx

namespace Kx
open PySem PySem.Spec PyProof.Rows L2 TL
def rdExpr : Rdg Ex := fun ps i => rdPart ps 100 1 i
def ExA (H : Hp) (v : V) (e : Ex) : Prop := ExAt H v e
theorem ExA.keep : KeepAt ExA := fun _ _ _ _ h q => ExAt.keep h q
theorem expr_fine : FineF rdExpr := fun ps he i hi e j h => by
  have hf := part_fine he 100 1 i (Nat.le_refl _) hi
  unfold rdExpr at h
  rw [h] at hf
  exact ⟨hf.2.1, hf.1⟩
def Ex.word : Ex → Str
  | .num _ => "number"
  | .quo _ => "quoted"
  | .col _ => "column"
  | .two _ _ _ => "two"
  | .nt _ => "not"
  | .mn _ => "minus"
  | .ln _ => "length"
def Ex.colN : Ex → Str
  | .col x => x
  | _ => ""
theorem word_at {H : Hp} {v : V} : ∀ {e : Ex}, ExAt H v e → ∃ a xs, v = .ref a ∧ H a = some (.tup (.str e.word :: xs)) ∧ (e.word = "column" → xs = [.str e.colN])
  | .num i, ⟨a, e, h⟩ => ⟨a, _, e, h, fun z => absurd z (show ¬ ("number" : Str) = "column" by decide +kernel)⟩
  | .quo i, ⟨a, e, h⟩ => ⟨a, _, e, h, fun z => absurd z (show ¬ ("quoted" : Str) = "column" by decide +kernel)⟩
  | .col i, ⟨a, e, h⟩ => ⟨a, _, e, h, fun _ => rfl⟩
  | .two _ _ _, ⟨a, _, _, e, h, _⟩ => ⟨a, _, e, h, fun z => absurd z (show ¬ ("two" : Str) = "column" by decide +kernel)⟩
  | .nt _, ⟨a, _, e, h, _⟩ => ⟨a, _, e, h, fun z => absurd z (show ¬ ("not" : Str) = "column" by decide +kernel)⟩
  | .mn _, ⟨a, _, e, h, _⟩ => ⟨a, _, e, h, fun z => absurd z (show ¬ ("minus" : Str) = "column" by decide +kernel)⟩
  | .ln _, ⟨a, _, e, h, _⟩ => ⟨a, _, e, h, fun z => absurd z (show ¬ ("length" : Str) = "column" by decide +kernel)⟩
def rdMapped : Rdg (Ex × Str) := fun ps i => thenA (rdExpr ps i) fun e j => if e.word = "column" ∧ ownW ps j ≠ "as" then .ok ((e, e.colN), j) else thenA (rdNew ps j) fun z k => .ok ((e, z), k)
def MapAt (H : Hp) (v : V) (x : Ex × Str) : Prop := ∃ (t : Addr) (told : V), v = .ref t ∧ H t = some (.tup [told, .str x.2]) ∧ ExAt H told x.1
theorem MapAt.keep : KeepAt MapAt := fun _ _ _ _ h ⟨t, o, e, q, k⟩ => ⟨t, o, e, h _ _ q, ExAt.keep h k⟩
theorem mapped_fine : FineF rdMapped := fun ps he i hi x j h => by
  unfold rdMapped at h
  cases hh : rdExpr ps i with
  | error m =>
    rw [hh] at h
    cases h
  | ok t =>
    obtain ⟨e, m⟩ := t
    rw [hh] at h
    obtain ⟨k1, k2⟩ := expr_fine ps he i hi e m hh
    change (if e.word = "column" ∧ ownW ps m ≠ "as" then _ else _) = _ at h
    by_cases c : e.word = "column" ∧ ownW ps m ≠ "as"
    · rw [if_pos c] at h
      cases h
      exact ⟨k1, k2⟩
    · rw [if_neg c] at h
      cases h2 : rdNew ps m with
      | error m2 =>
        rw [h2] at h
        cases h
      | ok t2 =>
        obtain ⟨b, m2⟩ := t2
        rw [h2] at h
        cases h
        obtain ⟨l1, l2⟩ := new_fine ps he m k2 b j h2
        exact ⟨by omega, l2⟩
section
variable {P : Program} {w : World} {K : PySem.W.Frag} {mg : Str → Option Value} {base : Heap}
theorem sc_rmapped : FnScope ["line", "told"] ["line"] (defScope s_read_mapped) := ⟨rfl, rfl, rfl, by decide +kernel, rfl, by decide +kernel, by decide +kernel⟩
theorem ok_rmapped {g C CL : Addr} {fd : FuncData} {k : Nat} (F : Fun K "read_mapped" "read_mapped" s_read_mapped g fd) (Z : LnC K CL) (hk5 : 5 ≤ k) (G_own : ReadyM P w K mg base CL 2 "own_word" ["self"] (spOwn CL)) (G_expr : ReadyX P w K mg base k "read_expression" ["line"] (spRd C CL ExA rdExpr)) (G_new : ReadyX P w K mg base 5 "read_new_name" ["line"] (spRd C CL StrAt rdNew)) : FnOk P w K mg base (L2.CX P w) (k + 1) g fd ["line"] (spRd C CL MapAt rdMapped) := by
  refine F.okX sc_rmapped (fun vs H Q E h => ?_) (fun cdv A outer s H vs Q E hr h => ?_)
  · obtain ⟨p, n, ps, i, rfl, _⟩ := h
    rfl
  obtain ⟨p, n, ps, i, rfl, hl, hi, he, hlen, q, qe⟩ := h
  have nd := sc_rmapped.nd
  have hrk : Room k _ := hr
  have hr5 : Room 5 _ := hrk.mono hk5
  have hr2 : Room 2 _ := hrk.mono (by omega)
  have z2 : 2 ≤ sizeLine := by decide
  refine ⟨_, pss_cons (ps_set (i := 1) nd rfl (.inl rfl) (pe_fnX G_expr hrk (takes_of rfl rfl rfl rfl) (pa_cons (pv 0) pa_nil)))
      (pss_cons (ps_if (PW.pt (pw_and (pt_cmpR op_eq (pe_ix ix_tup (pv 1) pe_int (fun _ _ => rfl)) pe_str (nomark _)) (pw_and1 (pt_cmpR op_ne (pe_m0' G_own Z.cls hr2 noE (pv 0)) pe_str (nomark _))))) (pss_one (ps_ret (pe_tup (pa_cons (pv 1) (pa_cons (pe_ix ix_tup (pv 1) pe_int (fun _ _ => rfl)) pa_nil))))) (pss_nil))
      (pss_one (ps_ret (pe_tup (pa_cons (pv 1) (pa_cons (pe_fnX G_new hr5 (takes_of rfl rfl rfl rfl) (pa_cons (pv 0) pa_nil)) pa_nil)))))), ?_⟩
  have eAll : rdMapped ps i = thenA (rdExpr ps i) fun e j => if e.word = "column" ∧ ownW ps j ≠ "as" then .ok ((e, e.colN), j) else thenA (rdNew ps j) fun z k => .ok ((e, z), k) := rfl
  refine ⟨_, rfl, p, n, ps, i, rfl, hl, hi, he, hlen, fun e j hr0 v H1 b1 hl1 hx => ?_, fun j hr0 => qe j (by rw [eAll, hr0]; rfl)⟩
  obtain ⟨f1, f2⟩ := expr_fine ps he i hi e j hr0
  rw [hr0] at eAll
  change rdMapped ps i = (if e.word = "column" ∧ ownW ps j ≠ "as" then .ok ((e, e.colN), j) else thenA (rdNew ps j) fun z k => .ok ((e, z), k)) at eAll
  obtain ⟨a, xs, rfl, ha, hcol⟩ := word_at hx
  obtain ⟨dx, L, as, h1, _⟩ := id hl1
  have last : ¬ (e.word = "column" ∧ ownW ps j ≠ "as") → ∃ x, some (V.ref a) = some x ∧ ∃ x_1, some (V.ref p) = some x_1 ∧ True := fun _ => ⟨_, rfl, _, rfl, trivial⟩
  refine ⟨_, rfl, a, _, ((0 : Nat) : Int), _, rfl, rfl, SqT.of ha, atI_nat (j := 0) rfl, rfl, _, rfl, ?_⟩
  rw [dec_str]
  refine ite2 (fun c => ?_) (fun c => ?_)
  · have hw := of_decide_eq_true c
    refine ⟨_, rfl, p, dx, _, rfl, h1, rfl, p, n, ps, j, rfl, hl1, f2, he, rfl, _, rfl, ?_⟩
    rw [dec_str]
    by_cases c2 : ownW ps j = "as"
    · rw [decide_eq_true c2]
      refine iteF ?_
      rw [if_neg (fun z => z.2 c2)] at eAll
      refine ⟨_, rfl, _, rfl, p, n, ps, j, rfl, hl1, f2, he, hlen, fun z k hrz v2 H2 b2 hl2 hs => ⟨z2, fun t ht => ?_⟩, fun k hrz => (qe k (by rw [eAll, hrz]; rfl)).but b1⟩
      have hs' : v2 = .str z := hs
      subst hs'
      have u := same_upd (o := .tup [.ref a, .str z]) ht
      exact q (e, z) k (by rw [eAll, hrz]; rfl) (.ref t) _ ((b1.trans b2).trans (sameL u)) (hl2.keep u) ⟨t, .ref a, rfl, upd_same, ExAt.keep (fun x ys h => u x _ (b2.b x _ (fun zz => by rw [zz, h1] at h; cases h) h)) hx⟩
    · rw [decide_eq_false c2]
      refine iteT ?_
      rw [if_pos ⟨hw, c2⟩] at eAll
      have hxs := hcol hw
      subst hxs
      refine ⟨_, rfl, _, rfl, a, _, 1, _, rfl, rfl, SqT.of ha, rfl, z2, fun t ht => ?_⟩
      have u := same_upd (o := .tup [.ref a, .str e.colN]) ht
      exact q (e, e.colN) j eAll (.ref t) _ (b1.trans (sameL u)) (hl1.keep u) ⟨t, .ref a, rfl, upd_same, ExAt.keep (fun x ys h => u x _ h) hx⟩
  · have hw : ¬ e.word = "column" := fun z => c (decide_eq_true z)
    rw [if_neg (fun z => hw z.1)] at eAll
    refine ⟨_, rfl, _, rfl, p, n, ps, j, rfl, hl1, f2, he, hlen, fun z k hrz v2 H2 b2 hl2 hs => ⟨z2, fun t ht => ?_⟩, fun k hrz => (qe k (by rw [eAll, hrz]; rfl)).but b1⟩
    have hs' : v2 = .str z := hs
    subst hs'
    have u := same_upd (o := .tup [.ref a, .str z]) ht
    exact q (e, z) k (by rw [eAll, hrz]; rfl) (.ref t) _ ((b1.trans b2).trans (sameL u)) (hl2.keep u) ⟨t, .ref a, rfl, upd_same, ExAt.keep (fun x ys h => u x _ (b2.b x _ (fun zz => by rw [zz, h1] at h; cases h) h)) hx⟩
end
end Kx

namespace Kx
open PySem PySem.Spec PyProof.Rows L2 TL
def six : List Str := ["count", "sum", "least", "greatest", "mean", "unlike"]
def rdOpt (z : Str) : Rdg (Option Ex) := fun ps i => if z = "count" then .ok (none, i) else thenA (rdExpr ps i) fun e j => .ok (some e, j)
/-- from behind the opening bracket -/
def rdFold2 (z : Str) : Rdg (Str × Option Ex × Str) := fun ps i => thenA (rdOpt z ps i) fun o j => thenA (rdWord [")"] ps j) fun _ j2 => thenA (rdNew ps j2) fun x k => .ok ((z, o, x), k)
def rdFolded : Rdg (Str × Option Ex × Str) := fun ps i => thenA (rdWord six ps i) fun z j => thenA (rdWord ["("] ps j) fun _ j2 => rdFold2 z ps j2
def OptAt (H : Hp) (v : V) : Option Ex → Prop
  | none => v = .non
  | some e => ExAt H v e
theorem OptAt.keep {H H' : Hp} {v : V} (k : ∀ (t : Addr) (xs : List V), H t = some (.tup xs) → H' t = some (.tup xs)) : ∀ {o : Option Ex}, OptAt H v o → OptAt H' v o
  | none, h => h
  | some _, h => ExAt.keep k h
def FoldAt (H : Hp) (v : V) (x : Str × Option Ex × Str) : Prop := ∃ (t : Addr) (told : V), v = .ref t ∧ H t = some (.tup [.str x.1, told, .str x.2.2]) ∧ OptAt H told x.2.1
theorem FoldAt.keep : KeepAt FoldAt := fun _ _ _ _ h ⟨t, o, e, q, k⟩ => ⟨t, o, e, h _ _ q, OptAt.keep h k⟩
theorem fold2_fine {z : Str} {ps : List Pc} (he : EndP ps) {i : Nat} (hi : i < ps.length) {x : Str × Option Ex × Str} {j : Nat} (h : rdFold2 z ps i = .ok (x, j)) : i < j ∧ j < ps.length := by
  have opt : ∀ o m, rdOpt z ps i = .ok (o, m) → i ≤ m ∧ m < ps.length := fun o m h => by
    unfold rdOpt at h
    by_cases c : z = "count"
    · rw [if_pos c] at h
      cases h
      exact ⟨Nat.le_refl _, hi⟩
    · rw [if_neg c] at h
      cases hh : rdExpr ps i with
      | error m2 =>
        rw [hh] at h
        cases h
      | ok t =>
        obtain ⟨e, m2⟩ := t
        rw [hh] at h
        cases h
        obtain ⟨k1, k2⟩ := expr_fine ps he i hi e m hh
        exact ⟨by omega, k2⟩
  unfold rdFold2 at h
  cases h1 : rdOpt z ps i with
  | error m =>
    rw [h1] at h
    cases h
  | ok t =>
    obtain ⟨o, m⟩ := t
    rw [h1] at h
    obtain ⟨k1, k2⟩ := opt o m h1
    change thenA (rdWord [")"] ps m) _ = _ at h
    cases h2 : rdWord [")"] ps m with
    | error m2 =>
      rw [h2] at h
      cases h
    | ok t2 =>
      obtain ⟨b, m2⟩ := t2
      rw [h2] at h
      obtain ⟨l1, l2⟩ := word_fine (by decide +kernel) ps he m k2 b m2 h2
      change thenA (rdNew ps m2) _ = _ at h
      cases h3 : rdNew ps m2 with
      | error m3 =>
        rw [h3] at h
        cases h
      | ok t3 =>
        obtain ⟨b3, m3⟩ := t3
        rw [h3] at h
        cases h
        obtain ⟨n1, n2⟩ := new_fine ps he m2 l2 b3 j h3
        exact ⟨by omega, n2⟩
theorem folded_fine : FineF rdFolded := fun ps he i hi x j h => by
  unfold rdFolded at h
  cases h1 : rdWord six ps i with
  | error m =>
    rw [h1] at h
    cases h
  | ok t =>
    obtain ⟨o, m⟩ := t
    rw [h1] at h
    obtain ⟨k1, k2⟩ := word_fine (by decide +kernel) ps he i hi o m h1
    change thenA (rdWord ["("] ps m) _ = _ at h
    cases h2 : rdWord ["("] ps m with
    | error m2 =>
      rw [h2] at h
      cases h
    | ok t2 =>
      obtain ⟨b, m2⟩ := t2
      rw [h2] at h
      obtain ⟨l1, l2⟩ := word_fine (by decide +kernel) ps he m k2 b m2 h2
      obtain ⟨n1, n2⟩ := fold2_fine he l2 h
      exact ⟨by omega, n2⟩
section
variable {P : Program} {w : World} {K : PySem.W.Frag} {mg : Str → Option Value} {base : Heap}
theorem sc_rfolded : FnScope ["line", "kind", "told"] ["line"] (defScope s_read_folded) := ⟨rfl, rfl, rfl, by decide +kernel, rfl, by decide +kernel, by decide +kernel⟩
theorem ok_rfolded {g C CL : Addr} {fd : FuncData} {k : Nat} (F : Fun K "read_folded" "read_folded" s_read_folded g fd) (Z : LnC K CL) (hk5 : 5 ≤ k) (G_one : ReadyM P w K mg base CL 4 "take_one_of" ["self", "words"] (spTakeOne K C CL)) (G_expect : ReadyM P w K mg base CL 4 "expect" ["self", "word"] (spExpect C CL)) (G_expr : ReadyX P w K mg base k "read_expression" ["line"] (spRd C CL ExA rdExpr)) (G_new : ReadyX P w K mg base 5 "read_new_name" ["line"] (spRd C CL StrAt rdNew)) : FnOk P w K mg base (L2.CX P w) (k + 1) g fd ["line"] (spRd C CL FoldAt rdFolded) := by
  refine F.okX sc_rfolded (fun vs H Q E h => ?_) (fun cdv A outer s H vs Q E hr h => ?_)
  · obtain ⟨p, n, ps, i, rfl, _⟩ := h
    rfl
  obtain ⟨p, n, ps, i, rfl, hl, hi, he, hlen, q, qe⟩ := h
  have nd := sc_rfolded.nd
  have hrk : Room k _ := hr
  have hr5 : Room 5 _ := hrk.mono hk5
  have hr4 : Room 4 _ := hrk.mono (by omega)
  have z3 : 3 ≤ sizeLine := by decide
  refine ⟨_, pss_cons (ps_set (i := 1) nd rfl (.inl rfl) (pe_m G_one Z.cls hr4 (onward (takes_of rfl rfl rfl rfl)) (pv 0) (pa_cons (pe_tup (pa_cons pe_str (pa_cons pe_str (pa_cons pe_str (pa_cons pe_str (pa_cons pe_str (pa_cons pe_str pa_nil))))))) pa_nil)))
      (pss_cons (ps_expr (pe_m G_expect Z.cls hr4 (onward (takes_of rfl rfl rfl rfl)) (pv 0) (pa_cons pe_str pa_nil)))
      (pss_cons (ps_set (i := 2) nd rfl (.inl rfl) pe_non)
      (C8.pss_cut (ps_if (pt_cmpR op_ne (pv 1) pe_str (nomark _)) (pss_one (ps_set (i := 2) nd rfl (.inl rfl) (pe_fnX G_expr hrk (takes_of rfl rfl rfl rfl) (pa_cons (pv 0) pa_nil)))) (pss_nil))
      (pss_cons (ps_expr (pe_m G_expect Z.cls hr4 (onward (takes_of rfl rfl rfl rfl)) (pv 0) (pa_cons pe_str pa_nil)))
      (pss_one (ps_ret (pe_tup (pa_cons (pv 1) (pa_cons (pv 2) (pa_cons (pe_fnX G_new hr5 (takes_of rfl rfl rfl rfl) (pa_cons (pv 0) pa_nil)) pa_nil)))))))))), ?_⟩
  obtain ⟨dx, L, as, h1, _⟩ := id hl
  have eAll : rdFolded ps i = thenA (rdWord six ps i) fun z j => thenA (rdWord ["("] ps j) fun _ j2 => rdFold2 z ps j2 := rfl
  refine ⟨_, rfl, p, dx, _, rfl, h1, rfl, by show 6 ≤ sizeLine; decide, fun wt hwt => ?_⟩
  have u := same_upd (o := .tup (six.map V.str)) hwt
  refine ⟨p, wt, n, ps, i, six, rfl, hl.keep u, hi, he, .inr (SqT.of upd_same), by decide +kernel, fun hw H1 b1 hl1 => ?_, fun hw => ?_⟩
  · have e1 : rdWord six ps i = .ok (ownW ps i, i + 1) := if_pos hw
    rw [e1] at eAll
    change rdFolded ps i = thenA (rdWord ["("] ps (i + 1)) fun _ j2 => rdFold2 (ownW ps i) ps j2 at eAll
    have hi1 := he.next hi (own_pos fun z => absurd (show ("" : Str) ∈ six by rw [← z]; exact hw) (by decide +kernel))
    obtain ⟨dx1, L1, as1, h1', _⟩ := id hl1
    have c1 : ButL p H H1 := (sameL u).trans b1
    refine ⟨_, rfl, p, dx1, _, rfl, h1', rfl, p, n, ps, i + 1, _, rfl, hl1, hi1, he, fun hw2 H2 b2 hl2 => ?_, fun hw2 => ?_⟩
    · have e2 : rdWord ["("] ps (i + 1) = .ok (ownW ps (i + 1), i + 2) := if_pos (by rw [hw2]; exact List.mem_cons_self)
      rw [e2] at eAll
      change rdFolded ps i = rdFold2 (ownW ps i) ps (i + 2) at eAll
      have hi2 := he.next hi1 (own_pos (by rw [hw2]; decide +kernel))
      have c2 := c1.trans b2
      generalize ownW ps i = kd at eAll ⊢
      refine ⟨fun σ G => ∃ (o : Option Ex) (j : Nat) (v : V), σ = [some (.ref p), some (.str kd), some v] ∧ ButL p H G ∧ LineAt G CL p n ps j ∧ j < ps.length ∧ OptAt G v o ∧ rdOpt kd ps (i + 2) = .ok (o, j), ?_, ?_⟩
      · refine ⟨_, rfl, rfl, _, rfl, ?_⟩
        rw [dec_str]
        by_cases hc : kd = "count"
        · rw [decide_eq_true hc]
          exact iteF ⟨none, i + 2, .non, rfl, c2, hl2, hi2, rfl, if_pos hc⟩
        · rw [decide_eq_false hc]
          have e3 : rdOpt kd ps (i + 2) = thenA (rdExpr ps (i + 2)) fun e j => .ok (some e, j) := if_neg hc
          refine iteT ⟨_, rfl, p, n, ps, i + 2, rfl, hl2, hi2, he, hlen, fun e j hr0 v H3 b3 hl3 hx => ?_, fun j hr0 => (qe j ?_).but c2⟩
          · obtain ⟨f1, f2⟩ := expr_fine ps he (i + 2) hi2 e j hr0
            exact ⟨some e, j, v, rfl, c2.trans b3, hl3, f2, hx, by rw [e3, hr0]; rfl⟩
          · rw [eAll]
            unfold rdFold2
            rw [e3, hr0]
            rfl
      · rintro σ G ⟨o, j, v, rfl, cG, hlG, hj, ho, eo⟩
        have e4 : rdFolded ps i = thenA (rdWord [")"] ps j) fun _ j2 => thenA (rdNew ps j2) fun x k => .ok ((kd, o, x), k) := by
          rw [eAll]
          unfold rdFold2
          rw [eo]
          rfl
        obtain ⟨dxG, LG, asG, hG, _⟩ := id hlG
        refine ⟨_, rfl, p, dxG, _, rfl, hG, rfl, p, n, ps, j, _, rfl, hlG, hj, he, fun hw3 G1 b3 hl3 => ?_, fun hw3 => ?_⟩
        · have e5 : rdWord [")"] ps j = .ok (ownW ps j, j + 1) := if_pos (by rw [hw3]; exact List.mem_cons_self)
          rw [e5] at e4
          change rdFolded ps i = thenA (rdNew ps (j + 1)) fun x k => .ok ((kd, o, x), k) at e4
          have hj1 := he.next hj (own_pos (by rw [hw3]; decide +kernel))
          obtain ⟨dx4, L4, as4, h4, _⟩ := id hl3
          refine ⟨_, rfl, _, rfl, _, rfl, p, n, ps, j + 1, rfl, hl3, hj1, he, hlen, fun x k hrz v2 G2 b4 hl4 hs => ⟨z3, fun t ht => ?_⟩, fun k hrz => (qe k (by rw [e4, hrz]; rfl)).but (cG.trans b3)⟩
          have hs' : v2 = .str x := hs
          subst hs'
          have u4 := same_upd (o := .tup [.str kd, v, .str x]) ht
          exact q (kd, o, x) k (by rw [e4, hrz]; rfl) (.ref t) _ (((cG.trans b3).trans b4).trans (sameL u4)) (hl4.keep u4) ⟨t, v, rfl, upd_same, OptAt.keep (fun x ys h => u4 x _ (b4.b x _ (fun zz => by rw [zz, hG] at h; cases h) (b3.b x _ (fun zz => by rw [zz, hG] at h; cases h) h))) ho⟩
        · have e5 : rdWord [")"] ps j = .error j := if_neg (fun z => hw3 (List.mem_singleton.mp z))
          rw [e5] at e4
          exact (qe j e4).at cG
    · have e2 : rdWord ["("] ps (i + 1) = .error (i + 1) := if_neg (fun z => hw2 (List.mem_singleton.mp z))
      rw [e2] at eAll
      exact (qe (i + 1) eAll).at c1
  · have e1 : rdWord six ps i = .error i := if_neg hw
    rw [e1] at eAll
    exact (qe i eAll).at (sameL u)
end
end Kx

namespace Kx
open PySem PySem.Spec PyProof.Rows L2 TL
abbrev s_read_one_input : Stmt := topS 44
abbrev s_read_two_inputs : Stmt := topS 45
abbrev s_read_filter : Stmt := topS 46
abbrev s_read_map : Stmt := topS 47
abbrev s_read_fold : Stmt := topS 48
abbrev s_read_join : Stmt := topS 49
abbrev s_read_union : Stmt := topS 50
abbrev s_read_unlike : Stmt := topS 51
abbrev s_read_sort : Stmt := topS 52
abbrev s_read_table_head : Stmt := topS 54
def rdOne : Rdg (List Str) := fun ps i => thenA (rdName ps i) fun z j => .ok ([z], j)
def rdThen {A B : Type} (rx : Rdg A) (w : Str) (ry : Rdg B) : Rdg (A × B) := fun ps i => thenA (rx ps i) fun a j => thenA (rdWord [w] ps j) fun _ j2 => thenA (ry ps j2) fun b k => .ok ((a, b), k)
def rdTwoIn : Rdg (List Str) := fun ps i => thenA (rdThen rdName "," rdName ps i) fun x k => .ok ([x.1, x.2], k)
def InAt : Hp → V → List Str → Prop := ListAt StrAt
theorem InAt.keep : KeepAt InAt := ListAt.keep StrAt.keep
def PairAt {A B : Type} (At1 : Hp → V → A → Prop) (At2 : Hp → V → B → Prop) (H : Hp) (v : V) (x : A × B) : Prop := ∃ (t : Addr) (a b : V), v = .ref t ∧ H t = some (.tup [a, b]) ∧ At1 H a x.1 ∧ At2 H b x.2
theorem PairAt.keep {A B : Type} {At1 : Hp → V → A → Prop} {At2 : Hp → V → B → Prop} (k1 : KeepAt At1) (k2 : KeepAt At2) : KeepAt (PairAt At1 At2) := fun H H' v x h ⟨t, a, b, e, q, q1, q2⟩ => ⟨t, a, b, e, h _ _ q, k1 H H' _ _ h q1, k2 H H' _ _ h q2⟩
theorem then_fine {A B : Type} {rx : Rdg A} {w : Str} {ry : Rdg B} (hw : w ≠ "") (h1 : FineF rx) (h2 : FineF ry) : FineF (rdThen rx w ry) := fun ps he i hi x j h => by
  unfold rdThen at h
  cases e1 : rx ps i with
  | error m =>
    rw [e1] at h
    cases h
  | ok t =>
    obtain ⟨a, m⟩ := t
    rw [e1] at h
    obtain ⟨k1, k2⟩ := h1 ps he i hi a m e1
    change thenA (rdWord [w] ps m) _ = _ at h
    cases e2 : rdWord [w] ps m with
    | error m2 =>
      rw [e2] at h
      cases h
    | ok t2 =>
      obtain ⟨b, m2⟩ := t2
      rw [e2] at h
      obtain ⟨l1, l2⟩ := word_fine (fun z => hw (List.mem_singleton.mp z).symm) ps he m k2 b m2 e2
      change thenA (ry ps m2) _ = _ at h
      cases e3 : ry ps m2 with
      | error m3 =>
        rw [e3] at h
        cases h
      | ok t3 =>
        obtain ⟨c, m3⟩ := t3
        rw [e3] at h
        cases h
        obtain ⟨n1, n2⟩ := h2 ps he m2 l2 c j e3
        exact ⟨by omega, n2⟩
theorem map_fine {A B : Type} {rd : Rdg A} {g : A → B} (h1 : FineF rd) : FineF (fun ps i => thenA (rd ps i) fun a j => .ok (g a, j)) := fun ps he i hi x j h => by
  cases e1 : rd ps i with
  | error m =>
    dsimp only at h
    rw [e1] at h
    cases h
  | ok t =>
    obtain ⟨a, m⟩ := t
    dsimp only at h
    rw [e1] at h
    cases h
    exact h1 ps he i hi a j e1
theorem one_fine : FineF rdOne := map_fine name_fine
theorem twoIn_fine : FineF rdTwoIn := map_fine (then_fine (by decide +kernel) name_fine name_fine)
section
variable {P : Program} {w : World} {K : PySem.W.Frag} {mg : Str → Option Value} {base : Heap}
theorem sc_rone : FnScope ["line"] ["line"] (defScope s_read_one_input) := ⟨rfl, rfl, rfl, by decide +kernel, rfl, by decide +kernel, by decide +kernel⟩
theorem ok_rone {g C CL : Addr} {fd : FuncData} (F : Fun K "read_one_input" "read_one_input" s_read_one_input g fd) (Z : LnC K CL) (G_take : ReadyM P w K mg base CL 3 "take" ["self", "kind"] (spTake C CL)) : FnOk P w K mg base (L2.CX P w) 4 g fd ["line"] (spRd C CL InAt rdOne) := by
  refine F.okX sc_rone (fun vs H Q E h => ?_) (fun cdv A outer s H vs Q E hr h => ?_)
  · obtain ⟨p, n, ps, i, rfl, _⟩ := h
    rfl
  obtain ⟨p, n, ps, i, rfl, hl, hi, he, hlen, q, qe⟩ := h
  have hr3 : Room 3 _ := hr
  refine ⟨_, pss_one (ps_ret (pe_tup (pa_cons (pe_m G_take Z.cls hr3 (onward (takes_of rfl rfl rfl rfl)) (pv 0) (pa_cons pe_str pa_nil)) pa_nil))), ?_⟩
  obtain ⟨dx, L, as, h1, _⟩ := id hl
  refine ⟨_, rfl, p, dx, _, rfl, h1, rfl, p, n, ps, i, _, rfl, hl, hi, fun hk H1 b1 hl1 => ⟨by show 1 ≤ sizeLine; decide, fun t ht => ?_⟩, fun hk => ?_⟩
  · have e1 : rdName ps i = .ok (txt (curP ps i).val, i + 1) := if_pos hk
    rw [val_name he hi hk]
    have u := same_upd (o := .tup [.str (txt (curP ps i).val)]) ht
    exact q [txt (curP ps i).val] (i + 1) (by unfold rdOne; rw [e1]; rfl) (.ref t) _ (b1.trans (sameL u)) (hl1.keep u) ⟨t, _, rfl, upd_same, .cons rfl .nil⟩
  · have e1 : rdName ps i = .error i := if_neg hk
    exact (qe i (by unfold rdOne; rw [e1]; rfl)).at (ButL.refl _ _)
theorem sc_rfilter : FnScope ["line", "inputs"] ["line"] (defScope s_read_filter) := ⟨rfl, rfl, rfl, by decide +kernel, rfl, by decide +kernel, by decide +kernel⟩
theorem ok_rfilter {g C CL : Addr} {fd : FuncData} {k : Nat} (F : Fun K "read_filter" "read_filter" s_read_filter g fd) (Z : LnC K CL) (hk6 : 6 ≤ k) (G_in : ReadyX P w K mg base 6 "read_one_input" ["line"] (spRd C CL InAt rdOne)) (G_expect : ReadyM P w K mg base CL 4 "expect" ["self", "word"] (spExpect C CL)) (G_y : ReadyX P w K mg base k "read_expression" ["line"] (spRd C CL ExA rdExpr)) : FnOk P w K mg base (L2.CX P w) (k + 1) g fd ["line"] (spRd C CL (PairAt InAt (ExA)) (rdThen rdOne "where" (rdExpr))) := by
  refine F.okX sc_rfilter (fun vs H Q E h => ?_) (fun cdv A outer s H vs Q E hr h => ?_)
  · obtain ⟨p, n, ps, i, rfl, _⟩ := h
    rfl
  obtain ⟨p, n, ps, i, rfl, hl, hi, he, hlen, q, qe⟩ := h
  have nd := sc_rfilter.nd
  have hrk : Room k _ := hr
  have hr6 : Room 6 _ := hrk.mono hk6
  have hr4 : Room 4 _ := hrk.mono (by omega)
  have z2 : 2 ≤ sizeLine := by decide
  refine ⟨_, pss_cons (ps_set (i := 1) nd rfl (.inl rfl) (pe_fnX G_in hr6 (takes_of rfl rfl rfl rfl) (pa_cons (pv 0) pa_nil)))
      (pss_cons (ps_expr (pe_m G_expect Z.cls hr4 (onward (takes_of rfl rfl rfl rfl)) (pv 0) (pa_cons pe_str pa_nil)))
      (pss_one (ps_ret (pe_tup (pa_cons (pv 1) (pa_cons (pe_fnX G_y hrk (takes_of rfl rfl rfl rfl) (pa_cons (pv 0) pa_nil)) pa_nil)))))), ?_⟩
  have eAll : rdThen rdOne "where" (rdExpr) ps i = thenA (rdOne ps i) fun a j => thenA (rdWord ["where"] ps j) fun _ j2 => thenA ((rdExpr) ps j2) fun b k => .ok ((a, b), k) := rfl
  refine ⟨_, rfl, p, n, ps, i, rfl, hl, hi, he, hlen, fun ins j hr0 v H1 b1 hl1 hx => ?_, fun j hr0 => qe j (by rw [eAll, hr0]; rfl)⟩
  obtain ⟨f1, f2⟩ := one_fine ps he i hi ins j hr0
  rw [hr0] at eAll
  change rdThen rdOne "where" (rdExpr) ps i = thenA (rdWord ["where"] ps j) fun _ j2 => thenA ((rdExpr) ps j2) fun b k => .ok ((ins, b), k) at eAll
  obtain ⟨dx, L, as, h1, _⟩ := id hl1
  refine ⟨_, rfl, p, dx, _, rfl, h1, rfl, p, n, ps, j, _, rfl, hl1, f2, he, fun hw H2 b2 hl2 => ?_, fun hw => ?_⟩
  · have e1 : rdWord ["where"] ps j = .ok (ownW ps j, j + 1) := if_pos (by rw [hw]; exact List.mem_cons_self)
    rw [e1] at eAll
    change rdThen rdOne "where" (rdExpr) ps i = thenA ((rdExpr) ps (j + 1)) fun b k => .ok ((ins, b), k) at eAll
    have hj1 := he.next f2 (own_pos (by rw [hw]; decide +kernel))
    obtain ⟨dx2, L2', as2, h2, _⟩ := id hl2
    refine ⟨_, rfl, _, rfl, p, n, ps, j + 1, rfl, hl2, hj1, he, hlen, fun b k hrb v2 H3 b3 hl3 hb => ⟨z2, fun t ht => ?_⟩, fun k hrb => (qe k (by rw [eAll, hrb]; rfl)).but (b1.trans b2)⟩
    have u := same_upd (o := .tup [v, v2]) ht
    exact q (ins, b) k (by rw [eAll, hrb]; rfl) (.ref t) _ (((b1.trans b2).trans b3).trans (sameL u)) (hl3.keep u) ⟨t, v, v2, rfl, upd_same, InAt.keep _ _ _ _ (fun x ys h => u x _ (b3.b x _ (fun zz => by rw [zz, h1] at h; cases h) (b2.b x _ (fun zz => by rw [zz, h1] at h; cases h) h))) hx, ExA.keep _ _ _ _ (fun x ys h => u x _ h) hb⟩
  · have e1 : rdWord ["where"] ps j = .error j := if_neg (fun z => hw (List.mem_singleton.mp z))
    rw [e1] at eAll
    exact (qe j eAll).at b1
theorem sc_rmap : FnScope ["line", "inputs"] ["line"] (defScope s_read_map) := ⟨rfl, rfl, rfl, by decide +kernel, rfl, by decide +kernel, by decide +kernel⟩
theorem ok_rmap {g C CL fr : Addr} {fd : FuncData} {k : Nat} (F : Fun K "read_map" "read_map" s_read_map g fd) (Z : LnC K CL) (hk6 : 6 ≤ k) (G_in : ReadyX P w K mg base 6 "read_one_input" ["line"] (spRd C CL InAt rdOne)) (G_expect : ReadyM P w K mg base CL 4 "expect" ["self", "word"] (spExpect C CL)) (m_f : mg "read_mapped" = some (.ref fr)) (G_y : ReadyX P w K mg base k "read_list" ["line", "read_one"] (spList C CL fr MapAt rdMapped)) : FnOk P w K mg base (L2.CX P w) (k + 1) g fd ["line"] (spRd C CL (PairAt InAt (ListAt MapAt)) (rdThen rdOne "to" (rdList rdMapped))) := by
  refine F.okX sc_rmap (fun vs H Q E h => ?_) (fun cdv A outer s H vs Q E hr h => ?_)
  · obtain ⟨p, n, ps, i, rfl, _⟩ := h
    rfl
  obtain ⟨p, n, ps, i, rfl, hl, hi, he, hlen, q, qe⟩ := h
  have nd := sc_rmap.nd
  have hrk : Room k _ := hr
  have hr6 : Room 6 _ := hrk.mono hk6
  have hr4 : Room 4 _ := hrk.mono (by omega)
  have z2 : 2 ≤ sizeLine := by decide
  refine ⟨_, pss_cons (ps_set (i := 1) nd rfl (.inl rfl) (pe_fnX G_in hr6 (takes_of rfl rfl rfl rfl) (pa_cons (pv 0) pa_nil)))
      (pss_cons (ps_expr (pe_m G_expect Z.cls hr4 (onward (takes_of rfl rfl rfl rfl)) (pv 0) (pa_cons pe_str pa_nil)))
      (pss_one (ps_ret (pe_tup (pa_cons (pv 1) (pa_cons (pe_fnX G_y hrk (takes_of rfl rfl rfl rfl) (pa_cons (pv 0) (pa_cons (pe_glob (v := .ref fr) rfl m_f rfl) pa_nil))) pa_nil)))))), ?_⟩
  have eAll : rdThen rdOne "to" (rdList rdMapped) ps i = thenA (rdOne ps i) fun a j => thenA (rdWord ["to"] ps j) fun _ j2 => thenA ((rdList rdMapped) ps j2) fun b k => .ok ((a, b), k) := rfl
  refine ⟨_, rfl, p, n, ps, i, rfl, hl, hi, he, hlen, fun ins j hr0 v H1 b1 hl1 hx => ?_, fun j hr0 => qe j (by rw [eAll, hr0]; rfl)⟩
  obtain ⟨f1, f2⟩ := one_fine ps he i hi ins j hr0
  rw [hr0] at eAll
  change rdThen rdOne "to" (rdList rdMapped) ps i = thenA (rdWord ["to"] ps j) fun _ j2 => thenA ((rdList rdMapped) ps j2) fun b k => .ok ((ins, b), k) at eAll
  obtain ⟨dx, L, as, h1, _⟩ := id hl1
  refine ⟨_, rfl, p, dx, _, rfl, h1, rfl, p, n, ps, j, _, rfl, hl1, f2, he, fun hw H2 b2 hl2 => ?_, fun hw => ?_⟩
  · have e1 : rdWord ["to"] ps j = .ok (ownW ps j, j + 1) := if_pos (by rw [hw]; exact List.mem_cons_self)
    rw [e1] at eAll
    change rdThen rdOne "to" (rdList rdMapped) ps i = thenA ((rdList rdMapped) ps (j + 1)) fun b k => .ok ((ins, b), k) at eAll
    have hj1 := he.next f2 (own_pos (by rw [hw]; decide +kernel))
    obtain ⟨dx2, L2', as2, h2, _⟩ := id hl2
    refine ⟨_, rfl, _, rfl, p, rfl, p, n, ps, j + 1, rfl, hl2, hj1, he, hlen, fun b k hrb v2 H3 b3 hl3 hb => ⟨z2, fun t ht => ?_⟩, fun k hrb => (qe k (by rw [eAll, hrb]; rfl)).but (b1.trans b2)⟩
    have u := same_upd (o := .tup [v, v2]) ht
    exact q (ins, b) k (by rw [eAll, hrb]; rfl) (.ref t) _ (((b1.trans b2).trans b3).trans (sameL u)) (hl3.keep u) ⟨t, v, v2, rfl, upd_same, InAt.keep _ _ _ _ (fun x ys h => u x _ (b3.b x _ (fun zz => by rw [zz, h1] at h; cases h) (b2.b x _ (fun zz => by rw [zz, h1] at h; cases h) h))) hx, (ListAt.keep MapAt.keep) _ _ _ _ (fun x ys h => u x _ h) hb⟩
  · have e1 : rdWord ["to"] ps j = .error j := if_neg (fun z => hw (List.mem_singleton.mp z))
    rw [e1] at eAll
    exact (qe j eAll).at b1
theorem sc_rjoin : FnScope ["line", "inputs"] ["line"] (defScope s_read_join) := ⟨rfl, rfl, rfl, by decide +kernel, rfl, by decide +kernel, by decide +kernel⟩
theorem ok_rjoin {g C CL fr : Addr} {fd : FuncData} {k : Nat} (F : Fun K "read_join" "read_join" s_read_join g fd) (Z : LnC K CL) (hk6 : 6 ≤ k) (G_in : ReadyX P w K mg base 6 "read_two_inputs" ["line"] (spRd C CL InAt rdTwoIn)) (G_expect : ReadyM P w K mg base CL 4 "expect" ["self", "word"] (spExpect C CL)) (m_f : mg "read_name" = some (.ref fr)) (G_y : ReadyX P w K mg base k "read_list" ["line", "read_one"] (spList C CL fr StrAt rdName)) : FnOk P w K mg base (L2.CX P w) (k + 1) g fd ["line"] (spRd C CL (PairAt InAt (ListAt StrAt)) (rdThen rdTwoIn "by" (rdList rdName))) := by
  refine F.okX sc_rjoin (fun vs H Q E h => ?_) (fun cdv A outer s H vs Q E hr h => ?_)
  · obtain ⟨p, n, ps, i, rfl, _⟩ := h
    rfl
  obtain ⟨p, n, ps, i, rfl, hl, hi, he, hlen, q, qe⟩ := h
  have nd := sc_rjoin.nd
  have hrk : Room k _ := hr
  have hr6 : Room 6 _ := hrk.mono hk6
  have hr4 : Room 4 _ := hrk.mono (by omega)
  have z2 : 2 ≤ sizeLine := by decide
  refine ⟨_, pss_cons (ps_set (i := 1) nd rfl (.inl rfl) (pe_fnX G_in hr6 (takes_of rfl rfl rfl rfl) (pa_cons (pv 0) pa_nil)))
      (pss_cons (ps_expr (pe_m G_expect Z.cls hr4 (onward (takes_of rfl rfl rfl rfl)) (pv 0) (pa_cons pe_str pa_nil)))
      (pss_one (ps_ret (pe_tup (pa_cons (pv 1) (pa_cons (pe_fnX G_y hrk (takes_of rfl rfl rfl rfl) (pa_cons (pv 0) (pa_cons (pe_glob (v := .ref fr) rfl m_f rfl) pa_nil))) pa_nil)))))), ?_⟩
  have eAll : rdThen rdTwoIn "by" (rdList rdName) ps i = thenA (rdTwoIn ps i) fun a j => thenA (rdWord ["by"] ps j) fun _ j2 => thenA ((rdList rdName) ps j2) fun b k => .ok ((a, b), k) := rfl
  refine ⟨_, rfl, p, n, ps, i, rfl, hl, hi, he, hlen, fun ins j hr0 v H1 b1 hl1 hx => ?_, fun j hr0 => qe j (by rw [eAll, hr0]; rfl)⟩
  obtain ⟨f1, f2⟩ := twoIn_fine ps he i hi ins j hr0
  rw [hr0] at eAll
  change rdThen rdTwoIn "by" (rdList rdName) ps i = thenA (rdWord ["by"] ps j) fun _ j2 => thenA ((rdList rdName) ps j2) fun b k => .ok ((ins, b), k) at eAll
  obtain ⟨dx, L, as, h1, _⟩ := id hl1
  refine ⟨_, rfl, p, dx, _, rfl, h1, rfl, p, n, ps, j, _, rfl, hl1, f2, he, fun hw H2 b2 hl2 => ?_, fun hw => ?_⟩
  · have e1 : rdWord ["by"] ps j = .ok (ownW ps j, j + 1) := if_pos (by rw [hw]; exact List.mem_cons_self)
    rw [e1] at eAll
    change rdThen rdTwoIn "by" (rdList rdName) ps i = thenA ((rdList rdName) ps (j + 1)) fun b k => .ok ((ins, b), k) at eAll
    have hj1 := he.next f2 (own_pos (by rw [hw]; decide +kernel))
    obtain ⟨dx2, L2', as2, h2, _⟩ := id hl2
    refine ⟨_, rfl, _, rfl, p, rfl, p, n, ps, j + 1, rfl, hl2, hj1, he, hlen, fun b k hrb v2 H3 b3 hl3 hb => ⟨z2, fun t ht => ?_⟩, fun k hrb => (qe k (by rw [eAll, hrb]; rfl)).but (b1.trans b2)⟩
    have u := same_upd (o := .tup [v, v2]) ht
    exact q (ins, b) k (by rw [eAll, hrb]; rfl) (.ref t) _ (((b1.trans b2).trans b3).trans (sameL u)) (hl3.keep u) ⟨t, v, v2, rfl, upd_same, InAt.keep _ _ _ _ (fun x ys h => u x _ (b3.b x _ (fun zz => by rw [zz, h1] at h; cases h) (b2.b x _ (fun zz => by rw [zz, h1] at h; cases h) h))) hx, (ListAt.keep StrAt.keep) _ _ _ _ (fun x ys h => u x _ h) hb⟩
  · have e1 : rdWord ["by"] ps j = .error j := if_neg (fun z => hw (List.mem_singleton.mp z))
    rw [e1] at eAll
    exact (qe j eAll).at b1
end
end Kx

namespace Kx
open PySem PySem.Spec PyProof.Rows L2 TL
def EmptyAt (H : Hp) (v : V) (_ : Unit) : Prop := ∃ t : Addr, v = .ref t ∧ H t = some (.tup [])
theorem EmptyAt.keep : KeepAt EmptyAt := fun _ _ _ _ h ⟨t, e, q⟩ => ⟨t, e, h _ _ q⟩
def rdUnit {A : Type} (rd : Rdg A) : Rdg (A × Unit) := fun ps i => thenA (rd ps i) fun a j => .ok ((a, ()), j)
theorem unit_fine {A : Type} {rd : Rdg A} (h : FineF rd) : FineF (rdUnit rd) := map_fine h
/-- name ( columns ) -/
def rdHead : Rdg (Str × List (Str × Str)) := fun ps i => thenA (rdThen rdName "(" (rdList (rdTwo ["int", "text"])) ps i) fun x j => thenA (rdWord [")"] ps j) fun _ k => .ok (x, k)
def HeadAt : Hp → V → Str × List (Str × Str) → Prop := PairAt StrAt (ListAt TwoAt)
theorem HeadAt.keep : KeepAt HeadAt := PairAt.keep StrAt.keep (ListAt.keep TwoAt.keep)
section
variable {P : Program} {w : World} {K : PySem.W.Frag} {mg : Str → Option Value} {base : Heap}
theorem sc_rtwoin : FnScope ["line", "one"] ["line"] (defScope s_read_two_inputs) := ⟨rfl, rfl, rfl, by decide +kernel, rfl, by decide +kernel, by decide +kernel⟩
theorem ok_rtwoin {g C CL : Addr} {fd : FuncData} (F : Fun K "read_two_inputs" "read_two_inputs" s_read_two_inputs g fd) (Z : LnC K CL) (G_take : ReadyM P w K mg base CL 3 "take" ["self", "kind"] (spTake C CL)) (G_expect : ReadyM P w K mg base CL 4 "expect" ["self", "word"] (spExpect C CL)) : FnOk P w K mg base (L2.CX P w) 5 g fd ["line"] (spRd C CL InAt rdTwoIn) := by
  refine F.okX sc_rtwoin (fun vs H Q E h => ?_) (fun cdv A outer s H vs Q E hr h => ?_)
  · obtain ⟨p, n, ps, i, rfl, _⟩ := h
    rfl
  obtain ⟨p, n, ps, i, rfl, hl, hi, he, hlen, q, qe⟩ := h
  have nd := sc_rtwoin.nd
  have hr4 : Room 4 _ := hr
  have hr3 : Room 3 _ := hr.mono (by decide)
  have z2 : 2 ≤ sizeLine := by decide
  refine ⟨_, pss_cons (ps_set (i := 1) nd rfl (.inl rfl) (pe_m G_take Z.cls hr3 (onward (takes_of rfl rfl rfl rfl)) (pv 0) (pa_cons pe_str pa_nil)))
      (pss_cons (ps_expr (pe_m G_expect Z.cls hr4 (onward (takes_of rfl rfl rfl rfl)) (pv 0) (pa_cons pe_str pa_nil)))
      (pss_one (ps_ret (pe_tup (pa_cons (pv 1) (pa_cons (pe_m G_take Z.cls hr3 (onward (takes_of rfl rfl rfl rfl)) (pv 0) (pa_cons pe_str pa_nil)) pa_nil)))))), ?_⟩
  obtain ⟨dx, L, as, h1, _⟩ := id hl
  have eAll : rdTwoIn ps i = thenA (thenA (rdName ps i) fun a j => thenA (rdWord [","] ps j) fun _ j2 => thenA (rdName ps j2) fun b k => .ok ((a, b), k)) fun x k => .ok ([x.1, x.2], k) := rfl
  refine ⟨_, rfl, p, dx, _, rfl, h1, rfl, p, n, ps, i, _, rfl, hl, hi, fun hk H1 b1 hl1 => ?_, fun hk => ?_⟩
  · have e1 : rdName ps i = .ok (txt (curP ps i).val, i + 1) := if_pos hk
    rw [e1] at eAll
    have hi1 := he.next hi (by rw [hk]; decide +kernel)
    rw [val_name he hi hk]
    obtain ⟨dx1, L1, as1, h1', _⟩ := id hl1
    refine ⟨_, rfl, p, dx1, _, rfl, h1', rfl, p, n, ps, i + 1, _, rfl, hl1, hi1, he, fun hw H2 b2 hl2 => ?_, fun hw => ?_⟩
    · have e2 : rdWord [","] ps (i + 1) = .ok (ownW ps (i + 1), i + 2) := if_pos (by rw [hw]; exact List.mem_cons_self)
      have hi2 := he.next hi1 (own_pos (by rw [hw]; decide +kernel))
      have e3 : rdTwoIn ps i = thenA (thenA (rdName ps (i + 2)) fun b k => .ok ((txt (curP ps i).val, b), k)) fun x k => .ok ([x.1, x.2], k) := by
        rw [eAll]
        show thenA (thenA (rdWord [","] ps (i + 1)) _) _ = _
        rw [e2]
        rfl
      obtain ⟨dx2, L2', as2, h2, _⟩ := id hl2
      refine ⟨_, rfl, _, rfl, p, dx2, _, rfl, h2, rfl, p, n, ps, i + 2, _, rfl, hl2, hi2, fun hk2 H3 b3 hl3 => ⟨z2, fun t ht => ?_⟩, fun hk2 => ?_⟩
      · have e4 : rdName ps (i + 2) = .ok (txt (curP ps (i + 2)).val, i + 3) := if_pos hk2
        rw [val_name he hi2 hk2]
        have u := same_upd (o := .tup [.str (txt (curP ps i).val), .str (txt (curP ps (i + 2)).val)]) ht
        exact q [txt (curP ps i).val, txt (curP ps (i + 2)).val] (i + 3) (by rw [e3, e4]; rfl) (.ref t) _ (((b1.trans b2).trans b3).trans (sameL u)) (hl3.keep u) ⟨t, _, rfl, upd_same, .cons rfl (.cons rfl .nil)⟩
      · have e4 : rdName ps (i + 2) = .error (i + 2) := if_neg hk2
        exact (qe (i + 2) (by rw [e3, e4]; rfl)).at (b1.trans b2)
    · have e2 : rdWord [","] ps (i + 1) = .error (i + 1) := if_neg (fun z => hw (List.mem_singleton.mp z))
      refine (qe (i + 1) ?_).at b1
      rw [eAll]
      show thenA (thenA (rdWord [","] ps (i + 1)) _) _ = _
      rw [e2]
      rfl
  · have e1 : rdName ps i = .error i := if_neg hk
    exact (qe i (by rw [eAll, e1]; rfl)).at (ButL.refl _ _)
theorem sc_runion : FnScope ["line"] ["line"] (defScope s_read_union) := ⟨rfl, rfl, rfl, by decide +kernel, rfl, by decide +kernel, by decide +kernel⟩
theorem ok_runion {g C CL : Addr} {fd : FuncData} (F : Fun K "read_union" "read_union" s_read_union g fd) (G_in : ReadyX P w K mg base 6 "read_two_inputs" ["line"] (spRd C CL InAt rdTwoIn)) : FnOk P w K mg base (L2.CX P w) 7 g fd ["line"] (spRd C CL (PairAt InAt EmptyAt) (rdUnit rdTwoIn)) := by
  refine F.okX sc_runion (fun vs H Q E h => ?_) (fun cdv A outer s H vs Q E hr h => ?_)
  · obtain ⟨p, n, ps, i, rfl, _⟩ := h
    rfl
  obtain ⟨p, n, ps, i, rfl, hl, hi, he, hlen, q, qe⟩ := h
  have hr6 : Room 6 _ := hr
  refine ⟨_, pss_one (ps_ret (pe_tup (pa_cons (pe_fnX G_in hr6 (takes_of rfl rfl rfl rfl) (pa_cons (pv 0) pa_nil)) (pa_cons (pe_tup pa_nil) pa_nil)))), ?_⟩
  have eAll : rdUnit rdTwoIn ps i = thenA (rdTwoIn ps i) fun a j => .ok ((a, ()), j) := rfl
  refine ⟨_, rfl, p, n, ps, i, rfl, hl, hi, he, hlen, fun ins j hr0 v H1 b1 hl1 hx => ⟨by show 0 ≤ sizeLine; decide, fun e0 he0 => ⟨by show 2 ≤ sizeLine; decide, fun t ht => ?_⟩⟩, fun j hr0 => qe j (by rw [eAll, hr0]; rfl)⟩
  have u1 := same_upd (o := .tup []) he0
  have u2 := same_upd (o := .tup [v, .ref e0]) ht
  have u := u1.trans u2
  exact q (ins, ()) j (by rw [eAll, hr0]; rfl) (.ref t) _ (b1.trans (sameL u)) (hl1.keep u) ⟨t, v, .ref e0, rfl, upd_same, InAt.keep _ _ _ _ (fun x ys h => u x _ h) hx, e0, rfl, u2 _ _ upd_same⟩
theorem sc_runlike : FnScope ["line"] ["line"] (defScope s_read_unlike) := ⟨rfl, rfl, rfl, by decide +kernel, rfl, by decide +kernel, by decide +kernel⟩
theorem ok_runlike {g C CL : Addr} {fd : FuncData} (F : Fun K "read_unlike" "read_unlike" s_read_unlike g fd) (G_in : ReadyX P w K mg base 6 "read_one_input" ["line"] (spRd C CL InAt rdOne)) : FnOk P w K mg base (L2.CX P w) 7 g fd ["line"] (spRd C CL (PairAt InAt EmptyAt) (rdUnit rdOne)) := by
  refine F.okX sc_runlike (fun vs H Q E h => ?_) (fun cdv A outer s H vs Q E hr h => ?_)
  · obtain ⟨p, n, ps, i, rfl, _⟩ := h
    rfl
  obtain ⟨p, n, ps, i, rfl, hl, hi, he, hlen, q, qe⟩ := h
  have hr6 : Room 6 _ := hr
  refine ⟨_, pss_one (ps_ret (pe_tup (pa_cons (pe_fnX G_in hr6 (takes_of rfl rfl rfl rfl) (pa_cons (pv 0) pa_nil)) (pa_cons (pe_tup pa_nil) pa_nil)))), ?_⟩
  have eAll : rdUnit rdOne ps i = thenA (rdOne ps i) fun a j => .ok ((a, ()), j) := rfl
  refine ⟨_, rfl, p, n, ps, i, rfl, hl, hi, he, hlen, fun ins j hr0 v H1 b1 hl1 hx => ⟨by show 0 ≤ sizeLine; decide, fun e0 he0 => ⟨by show 2 ≤ sizeLine; decide, fun t ht => ?_⟩⟩, fun j hr0 => qe j (by rw [eAll, hr0]; rfl)⟩
  have u1 := same_upd (o := .tup []) he0
  have u2 := same_upd (o := .tup [v, .ref e0]) ht
  have u := u1.trans u2
  exact q (ins, ()) j (by rw [eAll, hr0]; rfl) (.ref t) _ (b1.trans (sameL u)) (hl1.keep u) ⟨t, v, .ref e0, rfl, upd_same, InAt.keep _ _ _ _ (fun x ys h => u x _ h) hx, e0, rfl, u2 _ _ upd_same⟩
end
end Kx

namespace Kx
open PySem PySem.Spec PyProof.Rows L2 TL
theorem after_fine {A B C : Type} {rd : Rdg A} {w : Str} {g : A → C} (hw : w ≠ "") (h1 : FineF rd) : FineF (fun ps i => thenA (rd ps i) fun a j => thenA (rdWord [w] ps j) fun _ k => .ok (g a, k)) := fun ps he i hi x j h => by
  cases e1 : rd ps i with
  | error m =>
    dsimp only at h
    rw [e1] at h
    cases h
  | ok t =>
    obtain ⟨a, m⟩ := t
    dsimp only at h
    rw [e1] at h
    obtain ⟨k1, k2⟩ := h1 ps he i hi a m e1
    change thenA (rdWord [w] ps m) _ = _ at h
    cases e2 : rdWord [w] ps m with
    | error m2 =>
      rw [e2] at h
      cases h
    | ok t2 =>
      obtain ⟨b, m2⟩ := t2
      rw [e2] at h
      cases h
      obtain ⟨l1, l2⟩ := word_fine (fun z => hw (List.mem_singleton.mp z).symm) ps he m k2 b j e2
      exact ⟨by omega, l2⟩
theorem head_fine : FineF rdHead := after_fine (C := Str × List (Str × Str)) (g := id) (B := Unit) (by decide +kernel) (then_fine (by decide +kernel) name_fine (list_fine (two_fine (by decide +kernel))))
section
variable {P : Program} {w : World} {K : PySem.W.Frag} {mg : Str → Option Value} {base : Heap}
theorem sc_rhead : FnScope ["line", "name", "columns"] ["line"] (defScope s_read_table_head) := ⟨rfl, rfl, rfl, by decide +kernel, rfl, by decide +kernel, by decide +kernel⟩
theorem ok_rhead {g C CL fr : Addr} {fd : FuncData} (F : Fun K "read_table_head" "read_table_head" s_read_table_head g fd) (Z : LnC K CL) (m_f : mg "read_column" = some (.ref fr)) (G_take : ReadyM P w K mg base CL 3 "take" ["self", "kind"] (spTake C CL)) (G_expect : ReadyM P w K mg base CL 4 "expect" ["self", "word"] (spExpect C CL)) (G_y : ReadyX P w K mg base 6 "read_list" ["line", "read_one"] (spList C CL fr TwoAt (rdTwo ["int", "text"]))) : FnOk P w K mg base (L2.CX P w) 7 g fd ["line"] (spRd C CL HeadAt rdHead) := by
  refine F.okX sc_rhead (fun vs H Q E h => ?_) (fun cdv A outer s H vs Q E hr h => ?_)
  · obtain ⟨p, n, ps, i, rfl, _⟩ := h
    rfl
  obtain ⟨p, n, ps, i, rfl, hl, hi, he, hlen, q, qe⟩ := h
  have nd := sc_rhead.nd
  have hr6 : Room 6 _ := hr
  have hr4 : Room 4 _ := hr.mono (by decide)
  have hr3 : Room 3 _ := hr.mono (by decide)
  have z2 : 2 ≤ sizeLine := by decide
  refine ⟨_, pss_cons (ps_set (i := 1) nd rfl (.inl rfl) (pe_m G_take Z.cls hr3 (onward (takes_of rfl rfl rfl rfl)) (pv 0) (pa_cons pe_str pa_nil)))
      (pss_cons (ps_expr (pe_m G_expect Z.cls hr4 (onward (takes_of rfl rfl rfl rfl)) (pv 0) (pa_cons pe_str pa_nil)))
      (pss_cons (ps_set (i := 2) nd rfl (.inl rfl) (pe_fnX G_y hr6 (takes_of rfl rfl rfl rfl) (pa_cons (pv 0) (pa_cons (pe_glob (v := .ref fr) rfl m_f rfl) pa_nil))))
      (pss_cons (ps_expr (pe_m G_expect Z.cls hr4 (onward (takes_of rfl rfl rfl rfl)) (pv 0) (pa_cons pe_str pa_nil)))
      (pss_one (ps_ret (pe_tup (pa_cons (pv 1) (pa_cons (pv 2) pa_nil)))))))), ?_⟩
  obtain ⟨dx, L, as, h1, _⟩ := id hl
  have eAll : rdHead ps i = thenA (thenA (rdName ps i) fun a j => thenA (rdWord ["("] ps j) fun _ j2 => thenA (rdList (rdTwo ["int", "text"]) ps j2) fun b k => .ok ((a, b), k)) fun x j => thenA (rdWord [")"] ps j) fun _ k => .ok (x, k) := rfl
  refine ⟨_, rfl, p, dx, _, rfl, h1, rfl, p, n, ps, i, _, rfl, hl, hi, fun hk H1 b1 hl1 => ?_, fun hk => ?_⟩
  · have e1 : rdName ps i = .ok (txt (curP ps i).val, i + 1) := if_pos hk
    rw [e1] at eAll
    have hi1 := he.next hi (by rw [hk]; decide +kernel)
    rw [val_name he hi hk]
    obtain ⟨dx1, L1, as1, h1', _⟩ := id hl1
    generalize txt (curP ps i).val = nm at eAll ⊢
    refine ⟨_, rfl, p, dx1, _, rfl, h1', rfl, p, n, ps, i + 1, _, rfl, hl1, hi1, he, fun hw H2 b2 hl2 => ?_, fun hw => ?_⟩
    · have e2 : rdWord ["("] ps (i + 1) = .ok (ownW ps (i + 1), i + 2) := if_pos (by rw [hw]; exact List.mem_cons_self)
      have hi2 := he.next hi1 (own_pos (by rw [hw]; decide +kernel))
      have e3 : rdHead ps i = thenA (thenA (rdList (rdTwo ["int", "text"]) ps (i + 2)) fun b k => .ok ((nm, b), k)) fun x j => thenA (rdWord [")"] ps j) fun _ k => .ok (x, k) := by
        rw [eAll]
        show thenA (thenA (rdWord ["("] ps (i + 1)) _) _ = _
        rw [e2]
        rfl
      refine ⟨_, rfl, p, rfl, p, n, ps, i + 2, rfl, hl2, hi2, he, hlen, fun cs j hrc v H3 b3 hl3 hc => ?_, fun j hrc => (qe j (by rw [e3, hrc]; rfl)).but (b1.trans b2)⟩
      obtain ⟨f1, f2⟩ := list_fine (two_fine (by decide +kernel)) ps he (i + 2) hi2 cs j hrc
      rw [hrc] at e3
      change rdHead ps i = thenA (rdWord [")"] ps j) fun _ k => .ok ((nm, cs), k) at e3
      obtain ⟨dx3, L3, as3, h3, _⟩ := id hl3
      refine ⟨_, rfl, p, dx3, _, rfl, h3, rfl, p, n, ps, j, _, rfl, hl3, f2, he, fun hw2 H4 b4 hl4 => ?_, fun hw2 => ?_⟩
      · have e4 : rdWord [")"] ps j = .ok (ownW ps j, j + 1) := if_pos (by rw [hw2]; exact List.mem_cons_self)
        refine ⟨_, rfl, _, rfl, z2, fun t ht => ?_⟩
        have u := same_upd (o := .tup [.str nm, v]) ht
        exact q (nm, cs) (j + 1) (by rw [e3, e4]; rfl) (.ref t) _ ((((b1.trans b2).trans b3).trans b4).trans (sameL u)) (hl4.keep u) ⟨t, .str nm, v, rfl, upd_same, rfl, ListAt.keep TwoAt.keep _ _ _ _ (fun x ys h => u x _ (b4.b x _ (fun zz => by rw [zz, h3] at h; cases h) h)) hc⟩
      · have e4 : rdWord [")"] ps j = .error j := if_neg (fun z => hw2 (List.mem_singleton.mp z))
        exact (qe j (by rw [e3, e4]; rfl)).at ((b1.trans b2).trans b3)
    · have e2 : rdWord ["("] ps (i + 1) = .error (i + 1) := if_neg (fun z => hw (List.mem_singleton.mp z))
      refine (qe (i + 1) ?_).at b1
      rw [eAll]
      show thenA (thenA (rdWord ["("] ps (i + 1)) _) _ = _
      rw [e2]
      rfl
  · have e1 : rdName ps i = .error i := if_neg hk
    exact (qe i (by rw [eAll, e1]; rfl)).at (ButL.refl _ _)
end
end Kx

namespace Kx
open PySem PySem.Spec PyProof.Rows L2 TL
def rdNum : Rdg Nat := fun ps i => if (curP ps i).kind = "number" then .ok ((match (curP ps i).val with
  | .nm n => n
  | .tx _ => 0), i + 1) else .error i
def IntAt (_ : Hp) (v : V) (n : Nat) : Prop := v = .int (n : Int)
theorem IntAt.keep : KeepAt IntAt := fun _ _ _ _ _ h => h
theorem num_fine : FineF rdNum := fun ps he i hi a j h => by
  unfold rdNum at h
  by_cases c : (curP ps i).kind = "number"
  · rw [if_pos c] at h
    cases h
    exact ⟨Nat.lt_succ_self _, he.next hi (by rw [c]; decide +kernel)⟩
  · rw [if_neg c] at h
    cases h
def rdWays : Rdg (List (Str × Str)) := rdList (rdTwo ["up", "down"])
def rdSort : Rdg (List Str × List (Str × Str) × Nat) := fun ps i => thenA (rdThen rdOne "by" rdWays ps i) fun x j => thenA (rdWord ["first"] ps j) fun _ j2 => thenA (rdNum ps j2) fun m k => .ok ((x.1, x.2, m), k)
def SortAt : Hp → V → List Str × List (Str × Str) × Nat → Prop := PairAt InAt (PairAt (ListAt TwoAt) IntAt)
theorem SortAt.keep : KeepAt SortAt := PairAt.keep InAt.keep (PairAt.keep (ListAt.keep TwoAt.keep) IntAt.keep)
section
variable {P : Program} {w : World} {K : PySem.W.Frag} {mg : Str → Option Value} {base : Heap}
theorem sc_rsort : FnScope ["line", "inputs", "order"] ["line"] (defScope s_read_sort) := ⟨rfl, rfl, rfl, by decide +kernel, rfl, by decide +kernel, by decide +kernel⟩
theorem ok_rsort {g C CL fr : Addr} {fd : FuncData} (F : Fun K "read_sort" "read_sort" s_read_sort g fd) (Z : LnC K CL) (m_f : mg "read_sorted" = some (.ref fr)) (G_in : ReadyX P w K mg base 6 "read_one_input" ["line"] (spRd C CL InAt rdOne)) (G_take : ReadyM P w K mg base CL 3 "take" ["self", "kind"] (spTake C CL)) (G_expect : ReadyM P w K mg base CL 4 "expect" ["self", "word"] (spExpect C CL)) (G_y : ReadyX P w K mg base 6 "read_list" ["line", "read_one"] (spList C CL fr TwoAt (rdTwo ["up", "down"]))) : FnOk P w K mg base (L2.CX P w) 7 g fd ["line"] (spRd C CL SortAt rdSort) := by
  refine F.okX sc_rsort (fun vs H Q E h => ?_) (fun cdv A outer s H vs Q E hr h => ?_)
  · obtain ⟨p, n, ps, i, rfl, _⟩ := h
    rfl
  obtain ⟨p, n, ps, i, rfl, hl, hi, he, hlen, q, qe⟩ := h
  have nd := sc_rsort.nd
  have hr6 : Room 6 _ := hr
  have hr4 : Room 4 _ := hr.mono (by decide)
  have hr3 : Room 3 _ := hr.mono (by decide)
  have z2 : 2 ≤ sizeLine := by decide
  refine ⟨_, pss_cons (ps_set (i := 1) nd rfl (.inl rfl) (pe_fnX G_in hr6 (takes_of rfl rfl rfl rfl) (pa_cons (pv 0) pa_nil)))
      (pss_cons (ps_expr (pe_m G_expect Z.cls hr4 (onward (takes_of rfl rfl rfl rfl)) (pv 0) (pa_cons pe_str pa_nil)))
      (pss_cons (ps_set (i := 2) nd rfl (.inl rfl) (pe_fnX G_y hr6 (takes_of rfl rfl rfl rfl) (pa_cons (pv 0) (pa_cons (pe_glob (v := .ref fr) rfl m_f rfl) pa_nil))))
      (pss_cons (ps_expr (pe_m G_expect Z.cls hr4 (onward (takes_of rfl rfl rfl rfl)) (pv 0) (pa_cons pe_str pa_nil)))
      (pss_one (ps_ret (pe_tup (pa_cons (pv 1) (pa_cons (pe_tup (pa_cons (pv 2) (pa_cons (pe_m G_take Z.cls hr3 (onward (takes_of rfl rfl rfl rfl)) (pv 0) (pa_cons pe_str pa_nil)) pa_nil))) pa_nil)))))))), ?_⟩
  have eAll : rdSort ps i = thenA (thenA (rdOne ps i) fun a j => thenA (rdWord ["by"] ps j) fun _ j2 => thenA (rdWays ps j2) fun b k => .ok ((a, b), k)) fun x j => thenA (rdWord ["first"] ps j) fun _ j2 => thenA (rdNum ps j2) fun m k => .ok ((x.1, x.2, m), k) := rfl
  refine ⟨_, rfl, p, n, ps, i, rfl, hl, hi, he, hlen, fun ins j hr0 v H1 b1 hl1 hx => ?_, fun j hr0 => qe j (by rw [eAll, hr0]; rfl)⟩
  obtain ⟨f1, f2⟩ := one_fine ps he i hi ins j hr0
  rw [hr0] at eAll
  obtain ⟨dx1, L1, as1, h1, _⟩ := id hl1
  refine ⟨_, rfl, p, dx1, _, rfl, h1, rfl, p, n, ps, j, _, rfl, hl1, f2, he, fun hw H2 b2 hl2 => ?_, fun hw => ?_⟩
  · have e2 : rdWord ["by"] ps j = .ok (ownW ps j, j + 1) := if_pos (by rw [hw]; exact List.mem_cons_self)
    have hj1 := he.next f2 (own_pos (by rw [hw]; decide +kernel))
    have e3 : rdSort ps i = thenA (thenA (rdWays ps (j + 1)) fun b k => .ok ((ins, b), k)) fun x j => thenA (rdWord ["first"] ps j) fun _ j2 => thenA (rdNum ps j2) fun m k => .ok ((x.1, x.2, m), k) := by
      rw [eAll]
      show thenA (thenA (rdWord ["by"] ps j) _) _ = _
      rw [e2]
      rfl
    refine ⟨_, rfl, p, rfl, p, n, ps, j + 1, rfl, hl2, hj1, he, hlen, fun cs k hrc v2 H3 b3 hl3 hc => ?_, fun k hrc => (qe k (by rw [e3, show rdWays ps (j + 1) = .error k from hrc]; rfl)).but (b1.trans b2)⟩
    obtain ⟨g1, g2⟩ := list_fine (two_fine (by decide +kernel)) ps he (j + 1) hj1 cs k hrc
    rw [show rdWays ps (j + 1) = .ok (cs, k) from hrc] at e3
    change rdSort ps i = thenA (rdWord ["first"] ps k) fun _ j2 => thenA (rdNum ps j2) fun m k => .ok ((ins, cs, m), k) at e3
    obtain ⟨dx2, L2', as2, h2, _⟩ := id hl2
    obtain ⟨dx3, L3, as3, h3, _⟩ := id hl3
    refine ⟨_, rfl, p, dx3, _, rfl, h3, rfl, p, n, ps, k, _, rfl, hl3, g2, he, fun hw2 H4 b4 hl4 => ?_, fun hw2 => ?_⟩
    · have e4 : rdWord ["first"] ps k = .ok (ownW ps k, k + 1) := if_pos (by rw [hw2]; exact List.mem_cons_self)
      rw [e4] at e3
      change rdSort ps i = thenA (rdNum ps (k + 1)) fun m k => .ok ((ins, cs, m), k) at e3
      have hk1 := he.next g2 (own_pos (by rw [hw2]; decide +kernel))
      obtain ⟨dx4, L4, as4, h4, _⟩ := id hl4
      refine ⟨_, rfl, _, rfl, _, rfl, p, dx4, _, rfl, h4, rfl, p, n, ps, k + 1, _, rfl, hl4, hk1, fun hk H5 b5 hl5 => ⟨z2, fun t2 ht2 => ⟨z2, fun t ht => ?_⟩⟩, fun hk => ?_⟩
      · obtain ⟨m, hv⟩ := (cur_ok he hk1 (by rw [hk]; decide +kernel)).num hk
        have e5 : rdNum ps (k + 1) = .ok (m, k + 2) := by
          unfold rdNum
          rw [if_pos hk, hv]
        rw [hv] at ht ⊢
        have u1 := same_upd (o := .tup [v2, pvV (.nm m)]) ht2
        have u2 := same_upd (o := .tup [v, .ref t2]) ht
        have u := u1.trans u2
        have kA : ∀ (x : Addr) (ys : List V), H3 x = some (.tup ys) → upd (upd H5 t2 (.tup [v2, pvV (.nm m)])) t (.tup [v, .ref t2]) x = some (.tup ys) := fun x ys h => u x _ (b5.b x _ (fun zz => by rw [zz, h3] at h; cases h) (b4.b x _ (fun zz => by rw [zz, h3] at h; cases h) h))
        have kB : ∀ (x : Addr) (ys : List V), H1 x = some (.tup ys) → H3 x = some (.tup ys) := fun x ys h => b3.b x _ (fun zz => by rw [zz, h1] at h; cases h) (b2.b x _ (fun zz => by rw [zz, h1] at h; cases h) h)
        exact q (ins, cs, m) (k + 2) (by rw [e3, e5]; rfl) (.ref t) _ (((((b1.trans b2).trans b3).trans b4).trans b5).trans (sameL u)) (hl5.keep u) ⟨t, v, .ref t2, rfl, upd_same, InAt.keep _ _ _ _ (fun x ys h => kA _ _ (kB _ _ h)) hx, t2, v2, _, rfl, u2 _ _ upd_same, ListAt.keep TwoAt.keep _ _ _ _ kA hc, rfl⟩
      · have e5 : rdNum ps (k + 1) = .error (k + 1) := if_neg hk
        exact (qe (k + 1) (by rw [e3, e5]; rfl)).at (((b1.trans b2).trans b3).trans b4)
    · have e4 : rdWord ["first"] ps k = .error k := if_neg (fun z => hw2 (List.mem_singleton.mp z))
      exact (qe k (by rw [e3, e4]; rfl)).at ((b1.trans b2).trans b3)
  · have e2 : rdWord ["by"] ps j = .error j := if_neg (fun z => hw (List.mem_singleton.mp z))
    refine (qe j ?_).at b1
    rw [eAll]
    show thenA (thenA (rdWord ["by"] ps j) _) _ = _
    rw [e2]
    rfl
end
end Kx

namespace Kx
open PySem PySem.Spec PyProof.Rows L2 TL
def rdKeys : Rdg (List Str) := fun ps i => if ownW ps i = "by" then rdList rdName ps (i + 1) else .ok ([], i)
def rdFolds : Rdg (List (Str × Option Ex × Str)) := rdList rdFolded
def rdFoldAll : Rdg (List Str × List Str × List (Str × Option Ex × Str)) := fun ps i => thenA (rdOne ps i) fun ins j => thenA (rdKeys ps j) fun ks j2 => thenA (rdWord [":"] ps j2) fun _ j3 => thenA (rdFolds ps j3) fun fs k => .ok ((ins, ks, fs), k)
def FoldAllAt : Hp → V → List Str × List Str × List (Str × Option Ex × Str) → Prop := PairAt InAt (PairAt (ListAt StrAt) (ListAt FoldAt))
theorem FoldAllAt.keep : KeepAt FoldAllAt := PairAt.keep InAt.keep (PairAt.keep (ListAt.keep StrAt.keep) (ListAt.keep FoldAt.keep))
section
variable {P : Program} {w : World} {K : PySem.W.Frag} {mg : Str → Option Value} {base : Heap}
theorem sc_rfold : FnScope ["line", "inputs", "keys"] ["line"] (defScope s_read_fold) := ⟨rfl, rfl, rfl, by decide +kernel, rfl, by decide +kernel, by decide +kernel⟩
theorem ok_rfold {g C CL fn ff : Addr} {fd : FuncData} {k : Nat} (F : Fun K "read_fold" "read_fold" s_read_fold g fd) (Z : LnC K CL) (hk6 : 6 ≤ k) (m_n : mg "read_name" = some (.ref fn)) (m_f : mg "read_folded" = some (.ref ff)) (G_in : ReadyX P w K mg base 6 "read_one_input" ["line"] (spRd C CL InAt rdOne)) (G_took : ReadyM P w K mg base CL 3 "took" ["self", "word"] (spTook CL)) (G_expect : ReadyM P w K mg base CL 4 "expect" ["self", "word"] (spExpect C CL)) (G_n : ReadyX P w K mg base 6 "read_list" ["line", "read_one"] (spList C CL fn StrAt rdName)) (G_y : ReadyX P w K mg base k "read_list" ["line", "read_one"] (spList C CL ff FoldAt rdFolded)) : FnOk P w K mg base (L2.CX P w) (k + 1) g fd ["line"] (spRd C CL FoldAllAt rdFoldAll) := by
  refine F.okX sc_rfold (fun vs H Q E h => ?_) (fun cdv A outer s H vs Q E hr h => ?_)
  · obtain ⟨p, n, ps, i, rfl, _⟩ := h
    rfl
  obtain ⟨p, n, ps, i, rfl, hl, hi, he, hlen, q, qe⟩ := h
  have nd := sc_rfold.nd
  have hrk : Room k _ := hr
  have hr6 : Room 6 _ := hrk.mono hk6
  have hr4 : Room 4 _ := hrk.mono (by omega)
  have hr3 : Room 3 _ := hrk.mono (by omega)
  have z2 : 2 ≤ sizeLine := by decide
  refine ⟨_, pss_cons (ps_set (i := 1) nd rfl (.inl rfl) (pe_fnX G_in hr6 (takes_of rfl rfl rfl rfl) (pa_cons (pv 0) pa_nil)))
      (pss_cons (ps_set (i := 2) nd rfl (.inl rfl) (pe_tup pa_nil))
      (C8.pss_cut (ps_if (pt_val (pe_m G_took Z.cls hr3 noE (pv 0) (pa_cons pe_str pa_nil))) (pss_one (ps_set (i := 2) nd rfl (.inl rfl) (pe_fnX G_n hr6 (takes_of rfl rfl rfl rfl) (pa_cons (pv 0) (pa_cons (pe_glob (v := .ref fn) rfl m_n rfl) pa_nil))))) (pss_nil))
      (pss_cons (ps_expr (pe_m G_expect Z.cls hr4 (onward (takes_of rfl rfl rfl rfl)) (pv 0) (pa_cons pe_str pa_nil)))
      (pss_one (ps_ret (pe_tup (pa_cons (pv 1) (pa_cons (pe_tup (pa_cons (pv 2) (pa_cons (pe_fnX G_y hrk (takes_of rfl rfl rfl rfl) (pa_cons (pv 0) (pa_cons (pe_glob (v := .ref ff) rfl m_f rfl) pa_nil))) pa_nil))) pa_nil)))))))), ?_⟩
  have eAll : rdFoldAll ps i = thenA (rdOne ps i) fun ins j => thenA (rdKeys ps j) fun ks j2 => thenA (rdWord [":"] ps j2) fun _ j3 => thenA (rdFolds ps j3) fun fs k => .ok ((ins, ks, fs), k) := rfl
  refine ⟨_, rfl, p, n, ps, i, rfl, hl, hi, he, hlen, fun ins j hr0 v H1 b1 hl1 hx => ?_, fun j hr0 => qe j (by rw [eAll, hr0]; rfl)⟩
  obtain ⟨f1, f2⟩ := one_fine ps he i hi ins j hr0
  rw [hr0] at eAll
  change rdFoldAll ps i = thenA (rdKeys ps j) fun ks j2 => thenA (rdWord [":"] ps j2) fun _ j3 => thenA (rdFolds ps j3) fun fs k => .ok ((ins, ks, fs), k) at eAll
  refine ⟨by show 0 ≤ sizeLine; decide, fun e0 he0 => ?_⟩
  have u0 := same_upd (o := .tup []) he0
  have hl2 := hl1.keep u0
  have c1 : ButL p H (upd H1 e0 (.tup [])) := b1.trans (sameL u0)
  have hx2 : InAt (upd H1 e0 (.tup [])) v ins := InAt.keep _ _ _ _ (fun x ys h => u0 x _ h) hx
  have ee : upd H1 e0 (.tup []) e0 = some (.tup []) := upd_same
  generalize upd H1 e0 (.tup []) = H2 at hl2 c1 hx2 ee ⊢
  obtain ⟨dx2, L2', as2, h2, _⟩ := id hl2
  refine ⟨fun σ G => ∃ (ks : List Str) (m : Nat) (kv : V), σ = [some (.ref p), some v, some kv] ∧ ButL p H G ∧ LineAt G CL p n ps m ∧ m < ps.length ∧ InAt G v ins ∧ ListAt StrAt G kv ks ∧ rdKeys ps j = .ok (ks, m), ?_, ?_⟩
  · refine ⟨_, rfl, p, dx2, _, rfl, h2, rfl, p, n, ps, j, _, rfl, hl2, f2, he, fun hw H3 b3 hl3 => ?_, fun hw => ?_⟩
    · have hj1 := he.next f2 (own_pos (by rw [hw]; decide +kernel))
      have e1 : rdKeys ps j = rdList rdName ps (j + 1) := if_pos hw
      obtain ⟨dx3, L3, as3, h3, _⟩ := id hl3
      refine ⟨_, rfl, iteT ⟨_, rfl, p, rfl, p, n, ps, j + 1, rfl, hl3, hj1, he, hlen, fun ks m hrk' kv H4 b4 hl4 hkv => ?_, fun m hrk' => (qe m (by rw [eAll, e1, hrk']; rfl)).but (c1.trans b3)⟩⟩
      obtain ⟨g1, g2⟩ := list_fine name_fine ps he (j + 1) hj1 ks m hrk'
      exact ⟨ks, m, kv, rfl, (c1.trans b3).trans b4, hl4, g2, InAt.keep _ _ _ _ (fun x ys h => b4.b x _ (fun zz => by rw [zz, h2] at h; cases h) (b3.b x _ (fun zz => by rw [zz, h2] at h; cases h) h)) hx2, hkv, e1.trans hrk'⟩
    · exact ⟨_, rfl, iteF ⟨[], j, .ref e0, rfl, c1, hl2, f2, hx2, ⟨e0, [], rfl, ee, .nil⟩, if_neg hw⟩⟩
  · rintro σ G ⟨ks, m, kv, rfl, cG, hlG, hm, hxG, hkG, ek⟩
    rw [ek] at eAll
    change rdFoldAll ps i = thenA (rdWord [":"] ps m) fun _ j3 => thenA (rdFolds ps j3) fun fs k => .ok ((ins, ks, fs), k) at eAll
    obtain ⟨dxG, LG, asG, hG, _⟩ := id hlG
    refine ⟨_, rfl, p, dxG, _, rfl, hG, rfl, p, n, ps, m, _, rfl, hlG, hm, he, fun hw G1 b5 hl5 => ?_, fun hw => ?_⟩
    · have e4 : rdWord [":"] ps m = .ok (ownW ps m, m + 1) := if_pos (by rw [hw]; exact List.mem_cons_self)
      rw [e4] at eAll
      change rdFoldAll ps i = thenA (rdFolds ps (m + 1)) fun fs k => .ok ((ins, ks, fs), k) at eAll
      have hm1 := he.next hm (own_pos (by rw [hw]; decide +kernel))
      refine ⟨_, rfl, _, rfl, _, rfl, p, rfl, p, n, ps, m + 1, rfl, hl5, hm1, he, hlen, fun fs k hrf fv G2 b6 hl6 hf => ⟨z2, fun t2 ht2 => ⟨z2, fun t ht => ?_⟩⟩, fun k hrf => (qe k (by rw [eAll, show rdFolds ps (m + 1) = .error k from hrf]; rfl)).but (cG.trans b5)⟩
      have u1 := same_upd (o := .tup [kv, fv]) ht2
      have u2 := same_upd (o := .tup [v, .ref t2]) ht
      have u := u1.trans u2
      have kA : ∀ (x : Addr) (ys : List V), G x = some (.tup ys) → upd (upd G2 t2 (.tup [kv, fv])) t (.tup [v, .ref t2]) x = some (.tup ys) := fun x ys h => u x _ (b6.b x _ (fun zz => by rw [zz, hG] at h; cases h) (b5.b x _ (fun zz => by rw [zz, hG] at h; cases h) h))
      exact q (ins, ks, fs) k (by rw [eAll, show rdFolds ps (m + 1) = .ok (fs, k) from hrf]; rfl) (.ref t) _ (((cG.trans b5).trans b6).trans (sameL u)) (hl6.keep u) ⟨t, v, .ref t2, rfl, upd_same, InAt.keep _ _ _ _ kA hxG, t2, kv, fv, rfl, u2 _ _ upd_same, ListAt.keep StrAt.keep _ _ _ _ kA hkG, ListAt.keep FoldAt.keep _ _ _ _ (fun x ys h => u x _ h) hf⟩
    · have e4 : rdWord [":"] ps m = .error m := if_neg (fun z => hw (List.mem_singleton.mp z))
      rw [e4] at eAll
      exact (qe m eAll).at cG
end
end Kx

namespace Kx
open PySem PySem.Spec PyProof.Rows L2 TL
abbrev s_read_step : Stmt := topS 55
/-! ### list(d) of a written dict -/
theorem dicW_at {K : PySem.W.Frag} {w : World} {a : Addr} {ks : List Str} (h : He.dicW K a = some (He.keysIn w.params ks)) : ∃ es n, KDict K w a es n ∧ es.toList.map He.keyOf = He.keysIn w.params ks := by
  obtain ⟨es, n, D⟩ := He.dicW_ok h
  refine ⟨es, n, D, ?_⟩
  unfold He.dicW at h
  rw [D.at_] at h
  have e : (decide (("dict" : String) = "dict") && ((#[] : Array (Option Value)).isEmpty && !(a == sysModules))) = true := by
    rw [D.low]
    rfl
  dsimp only at h
  rw [e] at h
  exact Option.some.inj h
theorem pairs_of {P : Program} {w : World} : ∀ {l : List DictEntry} {ks : List Str}, l.map He.keyOf = He.keysIn w.params ks → ∃ kvs : List (Str × Value), Pairs (strKind P w) l kvs ∧ kvs.map (·.1) = ks
  | [], [], _ => ⟨[], .nil, rfl⟩
  | [], _ :: _, h => by cases h
  | _ :: _, [], h => by cases h
  | e :: r, k :: ks, h => by
    have h1 : He.keyOf e :: r.map He.keyOf = some (k, PyData.keyHash w.params k) :: He.keysIn w.params ks := h
    injection h1 with h2 h3
    obtain ⟨kvs, h4, h5⟩ := pairs_of (P := P) (w := w) h3
    refine ⟨(k, e.val) :: kvs, .cons ?_ rfl h4, by rw [List.map_cons, h5]⟩
    unfold He.keyOf at h2
    split at h2
    · rename_i x t q
      have h6 := Option.some.inj h2
      obtain ⟨h7, _⟩ := Prod.mk.inj h6
      subst h7
      rw [q]
      exact strKind_is P w x t
    · cases h2
theorem keysOf_lit {P : Program} {w : World} {es : Array DictEntry} (h : PySem.W.KeysLit w.params es.toList) : KeysOf (strKind P w) es := fun e he => by
  obtain ⟨x, t, e1, e2⟩ := h.all e (Array.mem_toList_iff.mpr he)
  exact ⟨x, by rw [e1]; exact strKind_is P w x t, e2⟩
def rListKd (K : PySem.W.Frag) (w : World) : List V → Hp → VK → Prop := fun xs H Q => ∃ (d : Addr) (ks : List Str), xs = [.ref d] ∧ He.dicW K d = some (He.keysIn w.params ks) ∧ ks.Nodup ∧ ks.length ≤ 1000 ∧ ∀ p, H p = none → Q (.ref p) (upd H p (.lst (ks.map V.str)))
theorem call_list_kd {X : Cx} (hc : X.calm = true) : CallR X (.type "list") (rListKd X.K X.w) := by
  intro pins s σ H xs us Q I r q
  obtain ⟨d, ks, rfl, hd, hn, hz, q⟩ := q
  obtain ⟨u, rfl, rx⟩ := vals1 r
  cases rx
  obtain ⟨es, n, D, he⟩ := dicW_at hd
  obtain ⟨kvs, hp, hk⟩ := pairs_of (P := X.prog) he
  have hlen : kvs.length = ks.length := by rw [← hk, List.length_map]
  have hat : s.heap.DictAt (strKind X.prog X.w) d kvs n := ⟨_, es, I.kIn _ _ D.at_, ⟨rfl, rfl, rfl⟩, rfl, keysOf_lit D.lit, hp, by rw [hk]; exact hn⟩
  have z1 : 1000 ≤ sizeLine := by decide
  refine PySem.W.kdl_call (PySem.W.kdl_dict (knd := strKind X.prog X.w) (kvs := kvs) (ep := n) D.low) (I.ok.hd hc) hat (by rw [hlen]; omega) fun h' tk acc c' hkp hD hacc => ?_
  have hv : Vals (ks.map V.str) acc.toList := vals_of_at (by rw [List.length_map, Array.length_toList]; exact (hacc.1.trans hlen).symm) fun j x u ex eu => by
    obtain ⟨k, y, e1, e2⟩ := hacc.2 j u (by rw [← Array.getElem?_toList]; exact eu)
    have e3 : ks[j]? = some k := by rw [← hk, List.getElem?_map, e1]; rfl
    rw [List.getElem?_map, e3] at ex
    cases ex
    have e4 : Value.isStrOf k u = true := e2
    cases u with
    | str z t =>
      have e5 : k = z := (by simpa [Value.isStrOf] using e4 : z = k).symm
      exact ⟨t, by rw [e5]⟩
    | _ => cases e4
  refine ⟨.ref s.heap.objs.size, upd H s.heap.objs.size (.lst (ks.map V.str)), I.laid (t' := tk) hkp (Nat.le_refl _)
    (show ObjOk X.prog X.w _ _ _ (.lst (ks.map V.str)) from ⟨by rw [List.length_map]; omega, acc.toList, c', hv, by rw [Array.toArray_toList]; exact hD⟩), rfl, q _ (I.hok.fresh (Nat.le_refl _))⟩
/-! ### fineness that was left -/
theorem thenA_fine2 {A B : Type} {rd : Rdg A} {k : A → Nat → Nat → Except Nat (B × Nat)} {ps : List Pc} {i : Nat} {b : B} {j : Nat} {L : Nat} (h1 : ∀ a m, rd ps i = .ok (a, m) → i ≤ m ∧ m < L) (h2 : ∀ a m, i ≤ m → m < L → k a m L = .ok (b, j) → m < j ∧ j < L) (h : thenA (rd ps i) (fun a m => k a m L) = .ok (b, j)) : i < j ∧ j < L := by
  cases hh : rd ps i with
  | error m =>
    rw [hh] at h
    cases h
  | ok t =>
    obtain ⟨a, m⟩ := t
    rw [hh] at h
    obtain ⟨k1, k2⟩ := h1 a m hh
    obtain ⟨m1, m2⟩ := h2 a m k1 k2 h
    exact ⟨by omega, m2⟩
/-- weakly fine: the place doesn't fall -/
def WeakF {A : Type} (rd : Rdg A) : Prop := ∀ ps, EndP ps → ∀ i, i < ps.length → ∀ a j, rd ps i = .ok (a, j) → i ≤ j ∧ j < ps.length
theorem FineF.weak {A : Type} {rd : Rdg A} (h : FineF rd) : WeakF rd := fun ps he i hi a j e => let ⟨h1, h2⟩ := h ps he i hi a j e; ⟨Nat.le_of_lt h1, h2⟩
theorem then_weak {A B : Type} {rd : Rdg A} {k : A → Rdg B} (hr : WeakF rd) (hk : ∀ a, WeakF (k a)) : WeakF (fun ps i => thenA (rd ps i) fun a j => k a ps j) := fun ps he i hi b j h => by
  cases hh : rd ps i with
  | error m =>
    dsimp only at h
    rw [hh] at h
    cases h
  | ok t =>
    obtain ⟨a, m⟩ := t
    dsimp only at h
    rw [hh] at h
    obtain ⟨k1, k2⟩ := hr ps he i hi a m hh
    obtain ⟨m1, m2⟩ := hk a ps he m k2 b j h
    exact ⟨by omega, m2⟩
theorem then_fineW {A B : Type} {rd : Rdg A} {k : A → Rdg B} (hr : FineF rd) (hk : ∀ a, WeakF (k a)) : FineF (fun ps i => thenA (rd ps i) fun a j => k a ps j) := fun ps he i hi b j h => by
  cases hh : rd ps i with
  | error m =>
    dsimp only at h
    rw [hh] at h
    cases h
  | ok t =>
    obtain ⟨a, m⟩ := t
    dsimp only at h
    rw [hh] at h
    obtain ⟨k1, k2⟩ := hr ps he i hi a m hh
    obtain ⟨m1, m2⟩ := hk a ps he m k2 b j h
    exact ⟨by omega, m2⟩
theorem pure_weak {A : Type} {a : A} : WeakF (fun _ i => (.ok (a, i) : Except Nat (A × Nat))) := fun ps he i hi b j h => by
  cases h
  exact ⟨Nat.le_refl _, hi⟩
theorem ways_fine : FineF rdWays := list_fine (two_fine (by decide +kernel))
theorem sort_fine : FineF rdSort := then_fineW (B := List Str × List (Str × Str) × Nat) (rd := rdThen rdOne "by" rdWays) (k := fun x ps j => thenA (rdWord ["first"] ps j) fun _ j2 => thenA (rdNum ps j2) fun m k => .ok ((x.1, x.2, m), k)) (then_fine (by decide +kernel) one_fine ways_fine) fun x => then_weak (B := List Str × List (Str × Str) × Nat) (rd := rdWord ["first"]) (k := fun _ ps j2 => thenA (rdNum ps j2) fun m k => .ok ((x.1, x.2, m), k)) (word_fine (by decide +kernel)).weak fun _ => then_weak (B := List Str × List (Str × Str) × Nat) (rd := rdNum) (k := fun m _ k => .ok ((x.1, x.2, m), k)) num_fine.weak fun m => pure_weak
theorem keys_weak : WeakF rdKeys := fun ps he i hi ks j h => by
  unfold rdKeys at h
  by_cases c : ownW ps i = "by"
  · rw [if_pos c] at h
    have hi1 := he.next hi (own_pos (by rw [c]; decide +kernel))
    obtain ⟨k1, k2⟩ := list_fine name_fine ps he (i + 1) hi1 ks j h
    exact ⟨by omega, k2⟩
  · rw [if_neg c] at h
    cases h
    exact ⟨Nat.le_refl _, hi⟩
abbrev FoldV : Type := List Str × List Str × List (Str × Option Ex × Str)
theorem foldAll_fine : FineF rdFoldAll := then_fineW (B := FoldV) (rd := rdOne) (k := fun ins ps j => thenA (rdKeys ps j) fun ks j2 => thenA (rdWord [":"] ps j2) fun _ j3 => thenA (rdFolds ps j3) fun fs k => .ok ((ins, ks, fs), k)) one_fine fun ins => then_weak (B := FoldV) (rd := rdKeys) (k := fun ks ps j2 => thenA (rdWord [":"] ps j2) fun _ j3 => thenA (rdFolds ps j3) fun fs k => .ok ((ins, ks, fs), k)) keys_weak fun ks => then_weak (B := FoldV) (rd := rdWord [":"]) (k := fun _ ps j3 => thenA (rdFolds ps j3) fun fs k => .ok ((ins, ks, fs), k)) (word_fine (by decide +kernel)).weak fun _ => then_weak (B := FoldV) (rd := rdFolds) (k := fun fs _ k => .ok ((ins, ks, fs), k)) (list_fine folded_fine).weak fun fs => pure_weak
/-! ### steps -/
inductive Dt where
  | filter (e : Ex)
  | map (ms : List (Ex × Str))
  | fold (ks : List Str) (fs : List (Str × Option Ex × Str))
  | join (ks : List Str)
  | union
  | unlike
  | sort (ws : List (Str × Str)) (n : Nat)
def DtAt (H : Hp) (v : V) : Dt → Prop
  | .filter e => ExA H v e
  | .map ms => ListAt MapAt H v ms
  | .fold ks fs => PairAt (ListAt StrAt) (ListAt FoldAt) H v (ks, fs)
  | .join ks => ListAt StrAt H v ks
  | .union => EmptyAt H v ()
  | .unlike => EmptyAt H v ()
  | .sort ws n => PairAt (ListAt TwoAt) IntAt H v (ws, n)
theorem DtAt.keep : KeepAt DtAt := fun H H' v d h q => by
  cases d with
  | filter e => exact ExA.keep H H' v e h q
  | map ms => exact ListAt.keep MapAt.keep H H' v ms h q
  | fold ks fs => exact PairAt.keep (ListAt.keep StrAt.keep) (ListAt.keep FoldAt.keep) H H' v (ks, fs) h q
  | join ks => exact ListAt.keep StrAt.keep H H' v ks h q
  | union => exact EmptyAt.keep H H' v () h q
  | unlike => exact EmptyAt.keep H H' v () h q
  | sort ws n => exact PairAt.keep (ListAt.keep TwoAt.keep) IntAt.keep H H' v (ws, n) h q
abbrev Rst : Type := List Str × Dt
def RstAt : Hp → V → Rst → Prop := PairAt InAt DtAt
theorem RstAt.keep : KeepAt RstAt := PairAt.keep InAt.keep DtAt.keep
def mapR {A B : Type} (g : A → B) (rd : Rdg A) : Rdg B := fun ps i => thenA (rd ps i) fun a j => .ok (g a, j)
theorem mapR_fine {A B : Type} {g : A → B} {rd : Rdg A} (h : FineF rd) : FineF (mapR g rd) := map_fine h
theorem spRd_map {A B : Type} {C CL : Addr} {At : Hp → V → A → Prop} {At' : Hp → V → B → Prop} {g : A → B} {rd : Rdg A} (h : ∀ H v a, At H v a → At' H v (g a)) : ∀ vs H Q E, spRd C CL At' (mapR g rd) vs H Q E → spRd C CL At rd vs H Q E := fun vs H Q E ⟨p, n, ps, i, e, hl, hi, he, hz, q, qe⟩ =>
  ⟨p, n, ps, i, e, hl, hi, he, hz, fun a j hr v H' b hl' ha => q (g a) j (by unfold mapR; rw [hr]; rfl) v H' b hl' (h H' v a ha), fun j hr => qe j (by unfold mapR; rw [hr]; rfl)⟩
def seven : List Str := ["filter", "map", "fold", "join", "union", "unlike", "sort"]
def rdRest (wh : Str) : Rdg Rst :=
  if wh = "filter" then mapR (fun x => (x.1, .filter x.2)) (rdThen rdOne "where" rdExpr)
  else if wh = "map" then mapR (fun x => (x.1, .map x.2)) (rdThen rdOne "to" (rdList rdMapped))
  else if wh = "fold" then mapR (fun x => (x.1, .fold x.2.1 x.2.2)) rdFoldAll
  else if wh = "join" then mapR (fun x => (x.1, .join x.2)) (rdThen rdTwoIn "by" (rdList rdName))
  else if wh = "union" then mapR (fun x => (x.1, .union)) (rdUnit rdTwoIn)
  else if wh = "unlike" then mapR (fun x => (x.1, .unlike)) (rdUnit rdOne)
  else mapR (fun x => (x.1, .sort x.2.1 x.2.2)) rdSort
theorem rest_fine {wh : Str} : FineF (rdRest wh) := by
  unfold rdRest
  repeat' split
  · exact mapR_fine (then_fine (by decide +kernel) one_fine expr_fine)
  · exact mapR_fine (then_fine (by decide +kernel) one_fine (list_fine mapped_fine))
  · exact mapR_fine foldAll_fine
  · exact mapR_fine (then_fine (by decide +kernel) twoIn_fine (list_fine name_fine))
  · exact mapR_fine (unit_fine twoIn_fine)
  · exact mapR_fine (unit_fine one_fine)
  · exact mapR_fine sort_fine
inductive Stq where
  | read (nm : Str) (cs : List (Str × Str))
  | step (nm wh : Str) (r : Rst)
def StqAt (H : Hp) (v : V) : Stq → Prop
  | .read nm cs => ∃ (t e : Addr) (c : V), v = .ref t ∧ H t = some (.tup [.str nm, .str "read", .ref e, c]) ∧ H e = some (.tup []) ∧ ListAt TwoAt H c cs
  | .step nm wh r => ∃ (t : Addr) (a b : V), v = .ref t ∧ H t = some (.tup [.str nm, .str wh, a, b]) ∧ InAt H a r.1 ∧ DtAt H b r.2
theorem StqAt.keep : KeepAt StqAt := fun H H' v s h q => by
  cases s with
  | read nm cs =>
    obtain ⟨t, e, c, rfl, h1, h2, h3⟩ := q
    exact ⟨t, e, c, rfl, h _ _ h1, h _ _ h2, ListAt.keep TwoAt.keep H H' c cs h h3⟩
  | step nm wh r =>
    obtain ⟨t, a, b, rfl, h1, h2, h3⟩ := q
    exact ⟨t, a, b, rfl, h _ _ h1, InAt.keep H H' a _ h h2, DtAt.keep H H' b _ h h3⟩
def rdStepN : Rdg Stq := fun ps i => thenA (rdName ps i) fun nm j => thenA (rdWord ["="] ps j) fun _ j2 => thenA (rdWord seven ps j2) fun wh j3 => thenA (rdRest wh ps j3) fun r k => .ok (.step nm wh r, k)
def rdStep : Rdg Stq := fun ps i => if ownW ps i = "read" then thenA (rdHead ps (i + 1)) fun x j => .ok (.read x.1 x.2, j) else rdStepN ps i
theorem stepN_fine : FineF rdStepN := then_fineW (B := Stq) (rd := rdName) (k := fun nm ps j => thenA (rdWord ["="] ps j) fun _ j2 => thenA (rdWord seven ps j2) fun wh j3 => thenA (rdRest wh ps j3) fun r k => .ok (.step nm wh r, k)) name_fine fun nm => then_weak (B := Stq) (rd := rdWord ["="]) (k := fun _ ps j2 => thenA (rdWord seven ps j2) fun wh j3 => thenA (rdRest wh ps j3) fun r k => .ok (.step nm wh r, k)) (word_fine (by decide +kernel)).weak fun _ => then_weak (B := Stq) (rd := rdWord seven) (k := fun wh ps j3 => thenA (rdRest wh ps j3) fun r k => .ok (.step nm wh r, k)) (word_fine (by decide +kernel)).weak fun wh => then_weak (B := Stq) (rd := rdRest wh) (k := fun r _ k => .ok (.step nm wh r, k)) rest_fine.weak fun r => pure_weak
theorem step_fine : FineF rdStep := fun ps he i hi s j h => by
  unfold rdStep at h
  by_cases c : ownW ps i = "read"
  · rw [if_pos c] at h
    have hi1 := he.next hi (own_pos (by rw [c]; decide +kernel))
    obtain ⟨k1, k2⟩ := map_fine (g := fun x => Stq.read x.1 x.2) head_fine ps he (i + 1) hi1 s j h
    exact ⟨by omega, k2⟩
  · rw [if_neg c] at h
    exact stepN_fine ps he i hi s j h
/-- the table of the readers -/
def RdsAt (P : Program) (w : World) (K : PySem.W.Frag) (mg : Str → Option Value) (base : Heap) (C CL : Addr) (k : Nat) : Prop := ∃ (dl : Addr) (ff : Str → Addr), mg "READERS" = some (.ref dl) ∧ He.dicW K dl = some (He.keysIn w.params seven) ∧ ∀ wh ∈ seven, KDct K w dl wh (.ref (ff wh)) ∧ ∃ j, j ≤ k ∧ CalX P w K mg base j (ff wh) (spRd C CL RstAt (rdRest wh))
section
variable {P : Program} {w : World} {K : PySem.W.Frag} {mg : Str → Option Value} {base : Heap}
abbrev N_rstep : List Str := ["line", "name", "columns", "what", "read_rest", "inputs", "details"]
theorem sc_rstep : FnScope N_rstep ["line"] (defScope s_read_step) := ⟨rfl, rfl, rfl, by decide +kernel, rfl, by decide +kernel, by decide +kernel⟩
theorem ok_rstep {g C CL : Addr} {fd : FuncData} {k : Nat} (F : Fun K "read_step" "read_step" s_read_step g fd) (Z : LnC K CL) (hk8 : 8 ≤ k) (m_list : mg "list" = none) (RD : RdsAt P w K mg base C CL k) (G_took : ReadyM P w K mg base CL 3 "took" ["self", "word"] (spTook CL)) (G_take : ReadyM P w K mg base CL 3 "take" ["self", "kind"] (spTake C CL)) (G_expect : ReadyM P w K mg base CL 4 "expect" ["self", "word"] (spExpect C CL)) (G_takeone : ReadyM P w K mg base CL 4 "take_one_of" ["self", "words"] (spTakeOne K C CL)) (G_head : ReadyX P w K mg base 8 "read_table_head" ["line"] (spRd C CL HeadAt rdHead)) : FnOk P w K mg base (L2.CX P w) (k + 1) g fd ["line"] (spRd C CL StqAt rdStep) := by
  refine F.okX sc_rstep (fun vs H Q E h => ?_) (fun cdv A outer s H vs Q E hr h => ?_)
  · obtain ⟨p, n, ps, i, rfl, _⟩ := h
    rfl
  obtain ⟨p, n, ps, i, rfl, hl, hi, he, hlen, q, qe⟩ := h
  obtain ⟨dl, ff, m_R, hdk, hck⟩ := RD
  have cal : ∀ p ∈ (seven.map fun wh => (ff wh, spRd C CL RstAt (rdRest wh))), ∃ j, j ≤ k ∧ CalX P w K mg base j p.1 p.2 := fun p hp => by
    obtain ⟨wh, hw, rfl⟩ := List.mem_map.mp hp
    exact (hck wh hw).2
  have nd := sc_rstep.nd
  have hrk : Room k _ := hr
  have hr8 : Room 8 _ := hrk.mono hk8
  have hr4 : Room 4 _ := hrk.mono (by omega)
  have hr3 : Room 3 _ := hrk.mono (by omega)
  refine ⟨_, pss_cons (ps_if (pt_val (pe_m G_took Z.cls hr3 noE (pv 0) (pa_cons pe_str pa_nil))) (pss_cons (ps_asg (pe_fnX G_head hr8 (takes_of rfl rfl rfl rfl) (pa_cons (pv 0) pa_nil)) (pg_tup rfl (pgs_cons (pg_name (i := 1) nd rfl (.inl rfl)) (pgs_cons (pg_name (i := 2) nd rfl (.inl rfl)) pgs_nil))))
      (pss_one (ps_ret (pe_tup (pa_cons (pv 1) (pa_cons pe_str (pa_cons (pe_tup pa_nil) (pa_cons (pv 2) pa_nil)))))))) (pss_nil))
      (pss_cons (ps_set (i := 1) nd rfl (.inl rfl) (pe_m G_take Z.cls hr3 (onward (takes_of rfl rfl rfl rfl)) (pv 0) (pa_cons pe_str pa_nil)))
      (pss_cons (ps_expr (pe_m G_expect Z.cls hr4 (onward (takes_of rfl rfl rfl rfl)) (pv 0) (pa_cons pe_str pa_nil)))
      (pss_cons (ps_set (i := 3) nd rfl (.inl rfl) (pe_m G_takeone Z.cls hr4 (onward (takes_of rfl rfl rfl rfl)) (pv 0) (pa_cons (pe_callTy (call_list_kd rfl) (by rfl) m_list PyProof.Rows.boot_list (pa_cons (pe_glob (v := .ref dl) rfl m_R rfl) pa_nil)) pa_nil)))
      (pss_cons (ps_set (i := 4) nd rfl (.inl rfl) (pe_ix ix_kdict (pe_glob (v := .ref dl) rfl m_R rfl) (pv 3) (fun _ _ => rfl)))
      (pss_cons (ps_asg (pe_cvX (i := 4) cal hrk (takes_of rfl rfl rfl rfl) rfl (.inl rfl) (pa_cons (pv 0) pa_nil)) (pg_tup rfl (pgs_cons (pg_name (i := 5) nd rfl (.inl rfl)) (pgs_cons (pg_name (i := 6) nd rfl (.inl rfl)) pgs_nil))))
      (pss_one (ps_ret (pe_tup (pa_cons (pv 1) (pa_cons (pv 3) (pa_cons (pv 5) (pa_cons (pv 6) pa_nil)))))))))))), ?_⟩
  obtain ⟨dx, L, as, h1, _⟩ := id hl
  refine ⟨_, rfl, p, dx, _, rfl, h1, rfl, p, n, ps, i, _, rfl, hl, hi, he, fun hw H1 b1 hl1 => ?_, fun hw => ?_⟩
  · have e1 : rdStep ps i = thenA (rdHead ps (i + 1)) fun x j => .ok (.read x.1 x.2, j) := if_pos hw
    have hi1 := he.next hi (own_pos (by rw [hw]; decide +kernel))
    refine ⟨_, rfl, iteT ⟨_, rfl, p, n, ps, i + 1, rfl, hl1, hi1, he, hlen, fun x j hrd v H2 b2 hl2 hx => ?_, fun j hrd => (qe j (by rw [e1, hrd]; rfl)).but b1⟩⟩
    obtain ⟨t, a, c, rfl, ht, ha, hc⟩ := hx
    cases ha
    refine ⟨t, _, rfl, SqT.of ht, rfl, _, _, rfl, _, _, rfl, rfl, _, rfl, by show 0 ≤ sizeLine; decide, fun e0 he0 => ⟨_, rfl, by show 4 ≤ sizeLine; decide, fun t4 ht4 => ?_⟩⟩
    have u1 := same_upd (o := .tup []) he0
    have u2 := same_upd (o := .tup [.str x.1, .str "read", .ref e0, c]) ht4
    have u := u1.trans u2
    exact q (.read x.1 x.2) j (by rw [e1, hrd]; rfl) (.ref t4) _ ((b1.trans b2).trans (sameL u)) (hl2.keep u) ⟨t4, e0, c, rfl, upd_same, u2 _ _ upd_same, ListAt.keep TwoAt.keep _ _ _ _ (fun y ys h => u y _ h) hc⟩
  · have e1 : rdStep ps i = thenA (rdName ps i) fun nm j => thenA (rdWord ["="] ps j) fun _ j2 => thenA (rdWord seven ps j2) fun wh j3 => thenA (rdRest wh ps j3) fun r k => .ok (.step nm wh r, k) := if_neg hw
    refine ⟨_, rfl, iteF ⟨_, rfl, p, dx, _, rfl, h1, rfl, p, n, ps, i, _, rfl, hl, hi, fun hk H1 b1 hl1 => ?_, fun hk => ?_⟩⟩
    · have e2 : rdName ps i = .ok (txt (curP ps i).val, i + 1) := if_pos hk
      rw [e2] at e1
      have hi1 := he.next hi (by rw [hk]; decide +kernel)
      rw [val_name he hi hk]
      obtain ⟨dx1, L1, as1, h1', _⟩ := id hl1
      generalize txt (curP ps i).val = nm at e1 ⊢
      change rdStep ps i = thenA (rdWord ["="] ps (i + 1)) fun _ j2 => thenA (rdWord seven ps j2) fun wh j3 => thenA (rdRest wh ps j3) fun r k => .ok (.step nm wh r, k) at e1
      refine ⟨_, rfl, p, dx1, _, rfl, h1', rfl, p, n, ps, i + 1, _, rfl, hl1, hi1, he, fun hw1 H2 b2 hl2 => ?_, fun hw1 => ?_⟩
      · have e3 : rdWord ["="] ps (i + 1) = .ok (ownW ps (i + 1), i + 2) := if_pos (by rw [hw1]; exact List.mem_cons_self)
        rw [e3] at e1
        have hi2 := he.next hi1 (own_pos (by rw [hw1]; decide +kernel))
        change rdStep ps i = thenA (rdWord seven ps (i + 2)) fun wh j3 => thenA (rdRest wh ps j3) fun r k => .ok (.step nm wh r, k) at e1
        obtain ⟨dx2, L2', as2, h2, _⟩ := id hl2
        refine ⟨_, rfl, p, dx2, _, rfl, h2, rfl, dl, seven, rfl, hdk, by decide +kernel, by decide, fun W hW => ?_⟩
        have s3 := same_upd (o := .lst (seven.map V.str)) hW
        have hl3 := hl2.keep s3
        have eW : upd H2 W (.lst (seven.map V.str)) W = some (.lst (seven.map V.str)) := upd_same
        have c3 : ButL p H (upd H2 W (.lst (seven.map V.str))) := (b1.trans b2).trans (sameL s3)
        generalize upd H2 W (.lst (seven.map V.str)) = H3 at s3 hl3 eW c3 ⊢
        obtain ⟨dx3, L3, as3, h3, _⟩ := id hl3
        refine ⟨p, W, n, ps, i + 2, seven, rfl, hl3, hi2, he, .inl (SqL.of eW), by decide +kernel, fun hin H4 b4 hl4 => ?_, fun hin => ?_⟩
        · have e4 : rdWord seven ps (i + 2) = .ok (ownW ps (i + 2), i + 3) := if_pos hin
          rw [e4] at e1
          have hi3 := he.next hi2 (own_pos fun z => (by decide +kernel : ("" : Str) ∉ seven) (z ▸ hin))
          generalize ownW ps (i + 2) = wh at e1 hin ⊢
          change rdStep ps i = thenA (rdRest wh ps (i + 3)) fun r k => .ok (.step nm wh r, k) at e1
          refine ⟨_, rfl, dl, wh, _, rfl, rfl, (hck wh hin).1, ?_⟩
          refine ⟨(ff wh, spRd C CL RstAt (rdRest wh)), List.mem_map.mpr ⟨wh, hin, rfl⟩, rfl, _, rfl, p, n, ps, i + 3, rfl, hl4, hi3, he, hlen, fun r j hr0 v H5 b5 hl5 hr1 => ?_, fun j hr0 => (qe j (by rw [e1, hr0]; rfl)).but (c3.trans b4)⟩
          obtain ⟨t, a, b, rfl, ht, ha, hb⟩ := hr1
          refine ⟨t, _, rfl, SqT.of ht, rfl, _, _, rfl, _, _, rfl, rfl, _, rfl, _, rfl, _, rfl, _, rfl, by show 4 ≤ sizeLine; decide, fun t4 ht4 => ?_⟩
          have u := same_upd (o := .tup [.str nm, .str wh, a, b]) ht4
          exact q (.step nm wh r) j (by rw [e1, hr0]; rfl) (.ref t4) _ (((c3.trans b4).trans b5).trans (sameL u)) (hl5.keep u) ⟨t4, a, b, rfl, upd_same, InAt.keep _ _ _ _ (fun y ys h => u y _ h) ha, DtAt.keep _ _ _ _ (fun y ys h => u y _ h) hb⟩
        · have e4 : rdWord seven ps (i + 2) = .error (i + 2) := if_neg hin
          exact (qe (i + 2) (by rw [e1, e4]; rfl)).at c3
      · have e3 : rdWord ["="] ps (i + 1) = .error (i + 1) := if_neg (fun z => hw1 (List.mem_singleton.mp z))
        exact (qe (i + 1) (by rw [e1, e3]; rfl)).at b1
    · have e2 : rdName ps i = .error i := if_neg hk
      exact (qe i (by rw [e1, e2]; rfl)).at (ButL.refl _ _)
end
end Kx

namespace Kx
open PySem PySem.Spec PyProof.Rows L2 TL
abbrev s_read_job : Stmt := topS 56
/-! ### a class of one's own, made -/
structure ReadyC (P : Program) (w : World) (K : PySem.W.Frag) (mg : Str → Option Value) (base : Heap) (CL : Addr) (k : Nat) (x : Str) (ps : List Str) (sp : Sp) : Prop where
  ex : ∃ f fd, mg x = some (.ref CL) ∧ Mk K CL f ∧ FnOk P w K mg base (L2.CX P w) k f fd ps sp ∧ Binds K fd ps []
theorem pe_mk {X : Cx} {E : XK} {CL : Addr} {k : Nat} {x : Str} {ps : List Str} {sp : Sp} {p pos : Pos} {e : Expr} {es : List Expr} {t : TA} (G : ReadyC X.prog X.w X.K X.mg X.base CL k x ps sp) (hr : Room (k + 1) X.A) (hx : Passes (L2.CX X.prog X.w) X E) (ha : PA X (e :: es) t) (hg : Gl X x := by rfl)
    (hdb : (x == ("__debug__" : Str)) = false := by decide) (he : starEach (e :: es) X.env = (false, eval e X.env) :: starEach es X.env := by rfl) (hpl : (backTo pos (starEach es X.env)).any (·.1) = false := by rfl) :
    PE X (.Call (.Name x p) (e :: es) [] pos) (tMake CL sp [] E t) := by
  obtain ⟨f, fd, hm, M, F, hb⟩ := G.ex
  exact pe_make M F hr hg hm hb .nil hx ha hdb he hpl
/-! ### rows and jobs -/
abbrev JSt : Type := Option Str × List Stq
def rdTold (st : JSt) (ps : List Pc) : Except Nat (JSt × Nat) := match st.1 with
  | some a => .ok ((some a, st.2), 0)
  | none => if ownW ps 0 = "answer" then thenA (rdName ps 1) fun nm j => .ok ((some nm, st.2), j) else if (curP ps 0).kind = "end" then .ok ((none, st.2), 0) else thenA (rdStep ps 0) fun s j => .ok ((none, st.2 ++ [s]), j)
def toEnd (ps : List Pc) (r : Except Nat (JSt × Nat)) : Except Nat JSt := match r with
  | .error j => .error (curP ps j).col
  | .ok (st, j) => if (curP ps j).kind = "end" then .ok st else .error (curP ps j).col
def rdRow (st : JSt) (z : Str) : Except Nat JSt := match piecesOf z with
  | .error c => .error c
  | .ok ps => toEnd ps (rdTold st ps)
def rdRows : List Str → JSt → Nat → Except (Nat × Nat) JSt
  | [], st, _ => .ok st
  | z :: r, st, n => match rdRow st z with
    | .error c => .error (n, c)
    | .ok st' => rdRows r st' (n + 1)
def lastLen (z : Str) : Nat := ((linesOf z).getLastD "").length
def rdJob (z : Str) : Except (Nat × Nat) (List Stq × Str) := match rdRows (linesOf z) (none, []) 1 with
  | .error e => .error e
  | .ok (none, _) => .error ((linesOf z).length, lastLen z + 1)
  | .ok (some a, sts) => .ok (sts, a)
def JobAt : Hp → V → List Stq × Str → Prop := PairAt (ListAt StqAt) StrAt
theorem JobAt.keep : KeepAt JobAt := PairAt.keep (ListAt.keep StqAt.keep) StrAt.keep
def ansV : Option Str → V
  | none => .non
  | some a => .str a
/-! ### how many pieces there are at most -/
theorem pcs_len {all : Nat} : ∀ (f at_ many : Nat) (l : List Nat) (ps : List Pc), pcs all f at_ many l = .ok ps → ps.length ≤ l.length + 1
  | 0, at_, many, l, ps, h => by
    rw [pcs] at h
    cases h
    simp
  | f + 1, at_, many, [], ps, h => by
    rw [pcs] at h
    cases h
    simp
  | f + 1, at_, many, c :: r, ps, h => by
    by_cases h35 : c = 35
    · rw [pcs, if_pos h35] at h
      cases h
      simp
    · by_cases h32 : c = 32
      · rw [pcs, if_neg h35, if_pos h32] at h
        have := pcs_len f _ _ r ps h
        rw [List.length_cons]
        omega
      · rw [pcs_take (c := c) rfl h35 h32] at h
        cases hp : pcAt (c :: r) with
        | none =>
          rw [hp] at h
          cases h
        | some t =>
          obtain ⟨k, v, n⟩ := t
          rw [hp] at h
          dsimp only at h
          generalize (if isBr k v = true then many else many + 1) = mm at h
          by_cases h300 : 300 < mm
          · rw [if_pos h300] at h
            cases h
          · rw [if_neg h300] at h
            cases hr : pcs all f (at_ + n) mm ((c :: r).drop n) with
            | error e =>
              rw [hr] at h
              cases h
            | ok qs =>
              rw [hr] at h
              cases h
              have hn := (pcAt_pos hp).1
              have := pcs_len f _ _ _ qs hr
              rw [List.length_drop, List.length_cons] at this
              rw [List.length_cons, List.length_cons]
              omega
theorem pieces_len {z : Str} {ps : List Pc} (h : piecesOf z = .ok ps) : ps.length ≤ z.length + 1 := by
  have := pcs_len _ _ _ _ ps h
  rw [← len_tl] at this
  exact this
/-! ### a list of one's own steps grows while a line is read -/
theorem stq_tup {H : Hp} {v : V} : ∀ {s : Stq}, StqAt H v s → ∃ t a b c d, v = .ref t ∧ H t = some (.tup [a, b, c, d])
  | .read _ _, ⟨t, e, c, h1, h2, _⟩ => ⟨t, _, _, _, _, h1, h2⟩
  | .step _ _ _, ⟨t, a, b, h1, h2, _⟩ => ⟨t, _, _, _, _, h1, h2⟩
theorem EndP.pos {ps : List Pc} (h : EndP ps) : 0 < ps.length := by
  obtain ⟨qs, c, rfl, _⟩ := h
  rw [List.length_append]
  exact Nat.lt_of_lt_of_le Nat.zero_lt_one (Nat.le_add_left _ _)
theorem LineAt.grow {H : Hp} {CL p S : Addr} {n : Int} {ps : List Pc} {i : Nat} {vs : List V} {sts : List Stq} (hl : LineAt H CL p n ps i) (he : 0 < ps.length) (hS : H S = some (.lst vs)) (hp : Paired (StqAt H) vs sts) (ys : List V) : LineAt (upd H S (.lst ys)) CL p n ps i := by
  obtain ⟨dx, L, as, h1, h2, h3, h4⟩ := hl
  have nL : L ≠ S := fun z => by
    rw [z, hS] at h2
    cases as with
    | nil =>
      rw [List.map_nil] at h4
      rw [← h4] at he
      exact absurd he (Nat.lt_irrefl 0)
    | cons x r =>
      have e := h3 x List.mem_cons_self
      injection h2 with h2
      injection h2 with h2
      subst h2
      cases sts with
      | nil => cases hp
      | cons s ss =>
        cases hp with
        | cons hx _ =>
          obtain ⟨t, a, b, c, d, e1, e2⟩ := stq_tup hx
          cases e1
          rw [e] at e2
          cases e2
  refine ⟨dx, L, as, ?_, ?_, fun x hx => ?_, h4⟩
  · rw [upd_ne (fun z => by rw [z, hS] at h1; cases h1)]
    exact h1
  · rw [upd_ne nL]
    exact h2
  · have h := h3 x hx
    rw [upd_ne (fun z => by rw [z, hS] at h; cases h)]
    exact h
theorem atI_last2 {xs : List V} {v : V} (h : xs[xs.length - 1]? = some v) : atI xs (-1) = some v := by
  have h0 : 0 < xs.length := by
    cases xs with
    | nil => cases h
    | cons x r => exact Nat.succ_pos _
  unfold atI ixN
  rw [if_neg (by decide), if_pos (by omega)]
  show xs[((-1 : Int) + (xs.length : Int)).toNat]? = some v
  rw [show ((-1 : Int) + (xs.length : Int)).toNat = xs.length - 1 by omega]
  exact h
section
variable {P : Program} {w : World} {K : PySem.W.Frag} {mg : Str → Option Value} {base : Heap}
def spJob (C : Addr) : Sp := fun vs H Q E => (vs = [.non] ∧ BadAt C 0 0 H E) ∨ ∃ z : Str, vs = [.str z] ∧ z.length ≤ 99999 ∧ (∀ y ∈ linesOf z, y.length ≤ 9999) ∧
  (∀ x, rdJob z = .ok x → ∀ v H', Same H H' → JobAt H' v x → Q v H') ∧ (∀ n c, rdJob z = .error (n, c) → BadAt C (n : Nat) (c : Nat) H E)
abbrev N_rjob : List Str := ["text", "rows", "steps", "answer", "at", "row", "line"]
theorem sc_rjob : FnScope N_rjob ["text"] (defScope s_read_job) := ⟨rfl, rfl, rfl, by decide +kernel, rfl, by decide +kernel, by decide +kernel⟩
theorem ok_rjob {g C CL fI : Addr} {fd : FuncData} {k : Nat} (F : Fun K "read_job" "read_job" s_read_job g fd) (T : PySem.BadY.BadTxt K mg C fI) (Z : LnC K CL) (hk6 : 6 ≤ k) (m_isinstance : mg "isinstance" = none) (m_str : mg "str" = none) (m_enumerate : mg "enumerate" = none) (m_len : mg "len" = none) (m_tuple : mg "tuple" = none) (G_line : ReadyC P w K mg base CL 5 "Line" ["self", "text", "number"] (spInit C CL)) (G_is_kind : ReadyM P w K mg base CL 1 "is_kind" ["self", "kind"] (spIsKind CL)) (G_expend : ReadyM P w K mg base CL 3 "expect_end" ["self"] (spExpEnd C CL)) (G_took : ReadyM P w K mg base CL 3 "took" ["self", "word"] (spTook CL)) (G_take : ReadyM P w K mg base CL 3 "take" ["self", "kind"] (spTake C CL)) (G_step : ReadyX P w K mg base k "read_step" ["line"] (spRd C CL StqAt rdStep)) : FnOk P w K mg base (L2.CX P w) (k + 1) g fd ["text"] (spJob C) := by
  refine F.okX sc_rjob (fun vs H Q E h => ?_) (fun cdv A outer s H vs Q E hr h => ?_)
  · rcases h with ⟨rfl, _⟩ | ⟨z, rfl, _⟩ <;> rfl
  have nd := sc_rjob.nd
  have hrk : Room k _ := hr
  have hr6 : Room 6 _ := hrk.mono hk6
  have hr5 : Room 5 _ := hrk.mono (by omega)
  have hr3 : Room 3 _ := hrk.mono (by omega)
  have hr1 : Room 1 _ := hrk.mono (by omega)
  refine ⟨_, pss_cons (ps_if (pt_not (pt_val (pe_callB call_isi (by rfl) m_isinstance PyProof.Rows.boot_isinstance (pa_cons (pv 0) (pa_cons (pe_bltn (v := .ty "str") (by rfl) m_str PyProof.Rows.boot_str rfl) pa_nil))))) (pss_one (ps_raiseBad2 rfl T hr5 (takes_of rfl rfl rfl rfl) (pa_cons pe_int (pa_cons pe_int pa_nil)))) pss_nil)
      (pss_cons (ps_set (i := 1) nd rfl (.inl rfl) (pe_split (pv 0) pe_str))
      (pss_cons (ps_set (i := 2) nd rfl (.inl rfl) (pe_lst pa_nil))
      (pss_cons (ps_set (i := 3) nd rfl (.inl rfl) pe_non)
      (pss_cons (ps_for (passes_of rfl) rfl (pi_enum (by rfl) m_enumerate (pa_cons (pv 1) pa_nil)) (pg_tup rfl (pgs_cons (pg_name (i := 4) nd rfl (.inl rfl)) (pgs_cons (pg_name (i := 5) nd rfl (.inl rfl)) pgs_nil))) (pss_cons (ps_set (i := 6) nd rfl (.inl rfl) (pe_mk G_line hr6 (onward (takes_of rfl rfl rfl rfl)) (pa_cons (pv 5) (pa_cons (pe_op op_add (pv 4) pe_int) pa_nil))))
      (pss_one (ps_if (pt_cmpR op_notN (pv 3) pe_non (nomark _)) (pss_one (ps_expr (pe_m0' G_expend Z.cls hr3 (onward (takes_of rfl rfl rfl rfl)) (pv 6)))) (pss_one (ps_if (pt_val (pe_m G_took Z.cls hr3 noE (pv 6) (pa_cons pe_str pa_nil))) (pss_cons (ps_set (i := 3) nd rfl (.inl rfl) (pe_m G_take Z.cls hr3 (onward (takes_of rfl rfl rfl rfl)) (pv 6) (pa_cons pe_str pa_nil)))
      (pss_one (ps_expr (pe_m0' G_expend Z.cls hr3 (onward (takes_of rfl rfl rfl rfl)) (pv 6))))) (pss_one (ps_if (pt_not (pt_val (pe_m G_is_kind Z.cls hr1 noE (pv 6) (pa_cons pe_str pa_nil)))) (pss_cons (ps_expr (pe_bm PySem.F.plainAttrs_list PySem.F.slot_list_append PySem.F.type_list_append mt_append (pv 2) (pa_cons (pe_fnX G_step hrk (takes_of rfl rfl rfl rfl) (pa_cons (pv 6) pa_nil)) pa_nil)))
      (pss_one (ps_expr (pe_m0' G_expend Z.cls hr3 (onward (takes_of rfl rfl rfl rfl)) (pv 6))))) (pss_nil)))))))))
      (pss_cons (ps_if (pt_cmpR op_isN (pv 3) pe_non (nomark _)) (pss_one (ps_raiseBad2 rfl T hr5 (takes_of rfl rfl rfl rfl) (pa_cons (pe_callB call_len_seq (by rfl) m_len PySem.boot_len (pa_cons (pv 1) pa_nil)) (pa_cons (pe_op op_add (pe_callB call_len_str (by rfl) m_len PySem.boot_len (pa_cons (pe_ix (show IxR _ (rIxL K) from ix_list) (pv 1) (pe_un un_neg pe_int) (fun _ _ => rfl)) pa_nil)) pe_int) pa_nil)))) (pss_nil))
      (pss_one (ps_ret (pe_tup (pa_cons (pe_callTy call_tuple_of (by rfl) m_tuple PyProof.Rows.boot_tuple (pa_cons (pv 2) pa_nil)) (pa_cons (pv 3) pa_nil)))))))))), ?_⟩
  rcases h with ⟨rfl, qe⟩ | ⟨z, rfl, hz, hy, q, qe⟩
  · exact ⟨_, rfl, _, _, _, _, false, rfl, .ty _, .base .non, kit_ty (by decide +kernel : kitB "NoneType" "str" = some false), _, rfl, iteT ⟨_, _, rfl, fun d hd => qe _ d (Same.refl _) hd⟩⟩
  refine ⟨_, rfl, _, _, _, _, true, rfl, .ty _, .base (.str z), kit_ty (by decide +kernel : kitB "str" "str" = some true), _, rfl, iteF ?_⟩
  refine ⟨_, rfl, ⟨_, rfl⟩, _, _, rfl, rfl, (by decide +kernel), Nat.le_trans (show z.length + 2 ≤ 100001 by omega) (by decide), fun R hR => ?_⟩
  rw [split_lines]
  have s1 := same_upd (o := .lst ((linesOf z).map V.str)) hR
  have eR1 : upd H R (.lst ((linesOf z).map V.str)) R = some (.lst ((linesOf z).map V.str)) := upd_same
  generalize upd H R (.lst ((linesOf z).map V.str)) = H1 at s1 eR1 ⊢
  refine ⟨by show 0 ≤ sizeLine; decide, fun S hS => ?_⟩
  have s2 := s1.trans (same_upd (o := .lst []) hS)
  have eS2 : upd H1 S (.lst []) S = some (.lst []) := upd_same
  have nRS : R ≠ S := fun zz => by rw [zz, hS] at eR1; cases eR1
  have eR2 : upd H1 S (.lst []) R = some (.lst ((linesOf z).map V.str)) := by rw [upd_ne nRS]; exact eR1
  have hHS : H S = none := same_none s1 hS
  generalize upd H1 S (.lst []) = H2 at s2 eS2 eR2 ⊢
  have hsum := lines_sum z
  have hlast : lastLen z = ((linesOf z).getLastD "").length := rfl
  have eJ : rdJob z = match rdRows (linesOf z) (none, []) 1 with
    | .error e => .error e
    | .ok (none, _) => .error ((linesOf z).length, lastLen z + 1)
    | .ok (some a, sts) => .ok (sts, a) := rfl
  generalize lastLen z = ll at eJ hlast
  generalize rdJob z = rj at eJ q qe
  generalize linesOf z = ls at *
  refine ⟨_, rfl, R, _, rfl, SqL.of eR2, ?_⟩
  refine for_it walk_enum (fun i σ G => ∃ (y4 y5 y6 : Option V) (st : JSt) (vs : List V), σ = [some (.str z), some (.ref R), some (.ref S), some (ansV st.1), y4, y5, y6] ∧ Same H G ∧ G R = some (.lst (ls.map V.str)) ∧ G S = some (.lst vs) ∧ Paired (StqAt G) vs st.2 ∧ st.2.length ≤ i ∧ rdRows ls (none, []) 1 = rdRows (ls.drop i) st (i + 1))
    ⟨_, _, _, (none, []), [], rfl, s2, eR2, eS2, .nil, Nat.le_refl _, rfl⟩ (fun i σ G _ h => by
      obtain ⟨_, _, _, _, _, _, _, e, _⟩ := h
      exact SqL.of e) ?_ ?_
  · rintro i v σ G G1 hi ⟨y4, y5, y6, st, vs, rfl, sm, eR, eS, hp, hlen, htot⟩ ⟨T', x', y, rfl, nT, rfl, ex, ey⟩
    cases ex
    replace ey : (ls.map V.str)[i]? = some y := ey
    rw [List.getElem?_map] at ey
    obtain ⟨u, eu, rfl⟩ := Option.map_eq_some_iff.mp ey
    have hu := List.mem_of_getElem? eu
    have hil : i < ls.length := (List.getElem?_eq_some_iff.mp eu).1
    have edrop : ls.drop i = u :: ls.drop (i + 1) := by
      rw [List.drop_eq_getElem_cons hil]
      rw [List.getElem?_eq_getElem hil] at eu
      rw [Option.some.inj eu]
    rw [edrop, rdRows] at htot
    have herr : ∀ c, rdRow st u = .error c → BadAt C ((i : Int) + 1) (c : Nat) H E := fun c hc => by
      rw [hc] at htot
      dsimp only at htot
      rw [htot] at eJ
      exact qe (i + 1) c eJ
    have hnext : ∀ st', rdRow st u = .ok st' → rdRows ls (none, []) 1 = rdRows (ls.drop (i + 1)) st' (i + 1 + 1) := fun st' hc => by
      rw [hc] at htot
      exact htot
    have s3 := same_upd (o := .tup [.int (i : Nat), .str u]) nT
    have eT : upd G T' (.tup [.int (i : Nat), .str u]) T' = some (.tup [.int (i : Nat), .str u]) := upd_same
    generalize upd G T' (.tup [.int (i : Nat), .str u]) = G1 at s3 eT ⊢
    refine ⟨T', _, rfl, SqT.of eT, rfl, _, _, rfl, _, _, rfl, rfl, _, rfl, _, rfl, _, _, rfl, rfl, fun p dx hpn hdn ne => ?_⟩
    have s4 := same_upd (o := .own p) hdn
    have hpn2 : upd G1 dx (.own p) p = none := by rw [upd_ne ne.symm]; exact hpn
    have s5 := s4.trans (same_upd (o := .ins CL dx []) hpn2)
    have gp : G p = none := same_none s3 hpn
    refine ⟨p, dx, u, (i : Int) + 1, rfl, upd_same, Nat.le_trans (hy u hu) (by decide), fun ps hps G2 b2 hl2 => ⟨rfl, ?_⟩, fun c hc G2 d b2 nd' => ?_⟩
    · have S12 : Same G G2 := fun a o e => b2 a o (fun zz => by rw [zz, gp] at e; cases e) (s5 _ _ (s3 _ _ e))
      have he := pieces_end hps
      have hps0 := he.pos
      have hpl : ps.length ≤ 10000 := Nat.le_trans (pieces_len hps) (by have := hy u hu; omega)
      have up : ∀ {G' : Hp}, ButL p G2 G' → Same G G' := fun b a o e => b.b a o (fun zz => by rw [zz, gp] at e; cases e) (S12 a o e)
      have eRow : rdRow st u = toEnd ps (rdTold st ps) := by
        unfold rdRow
        rw [hps]
      have keepP : ∀ {G' : Hp}, Same G G' → Paired (StqAt G') vs st.2 := fun s => Paired.mapP hp fun a b h => StqAt.keep _ _ _ _ (fun t xs e => s t _ e) h
      clear eT
      obtain ⟨dx2, L2', as2, h2, _⟩ := id hl2
      obtain ⟨ans, sts⟩ := st
      dsimp only at hp hlen keepP eRow
      refine ⟨_, rfl, rfl, _, rfl, ?_⟩
      cases ans with
      | some a =>
        have eTold : rdTold (some a, sts) ps = .ok ((some a, sts), 0) := rfl
        rw [eTold] at eRow
        refine (show (if (!decide (V.str a = V.non)) = true then _ else _) from ?_)
        rw [show decide (V.str a = V.non) = false from decide_eq_false fun zz => by cases zz]
        refine iteT ⟨_, rfl, p, dx2, _, rfl, h2, rfl, p, _, ps, 0, rfl, hl2, hps0, fun hk => ?_, fun hk => ?_⟩
        · exact ⟨_, _, _, (some a, sts), vs, rfl, sm.trans S12, S12 _ _ eR, S12 _ _ eS, keepP S12, Nat.le_succ_of_le hlen, hnext _ (eRow.trans (if_pos hk))⟩
        · exact (herr _ (eRow.trans (if_neg hk))).same (sm.trans S12)
      | none =>
        refine (show (if (!decide (V.non = V.non)) = true then _ else _) from ?_)
        rw [show decide (V.non = V.non) = true from decide_eq_true rfl]
        refine iteF ⟨_, rfl, p, dx2, _, rfl, h2, rfl, p, _, ps, 0, _, rfl, hl2, hps0, he, fun hw G3 b3 hl3 => ?_, fun hw => ?_⟩
        · have eTold : rdTold (none, sts) ps = thenA (rdName ps 1) fun nm j => .ok ((some nm, sts), j) := if_pos hw
          rw [eTold] at eRow
          have hi1 := he.next hps0 (own_pos (by rw [hw]; decide +kernel))
          have S13 := up b3
          obtain ⟨dx3, L3, as3, h3, _⟩ := id hl3
          refine ⟨_, rfl, iteT ⟨_, rfl, p, dx3, _, rfl, h3, rfl, p, _, ps, 1, _, rfl, hl3, hi1, fun hk G4 b4 hl4 => ?_, fun hk => ?_⟩⟩
          · have e2 : rdName ps 1 = .ok (txt (curP ps 1).val, 2) := if_pos hk
            rw [e2] at eRow
            have hi2 := he.next hi1 (by rw [hk]; decide +kernel)
            rw [val_name he hi1 hk]
            generalize txt (curP ps 1).val = nm at eRow ⊢
            have S14 := up (b3.trans b4)
            obtain ⟨dx4, L4, as4, h4, _⟩ := id hl4
            refine ⟨_, rfl, p, dx4, _, rfl, h4, rfl, p, _, ps, 2, rfl, hl4, hi2, fun hk2 => ?_, fun hk2 => ?_⟩
            · exact ⟨_, _, _, (some nm, sts), vs, rfl, sm.trans S14, S14 _ _ eR, S14 _ _ eS, keepP S14, Nat.le_succ_of_le hlen, hnext _ (eRow.trans (if_pos hk2))⟩
            · exact (herr _ (eRow.trans (if_neg hk2))).same (sm.trans S14)
          · have e2 : rdName ps 1 = .error 1 := if_neg hk
            rw [e2] at eRow
            exact (herr _ eRow).same (sm.trans S13)
        · have eTold : rdTold (none, sts) ps = if (curP ps 0).kind = "end" then .ok ((none, sts), 0) else thenA (rdStep ps 0) fun s j => .ok ((none, sts ++ [s]), j) := if_neg hw
          refine ⟨_, rfl, iteF ⟨_, rfl, p, dx2, _, rfl, h2, rfl, p, _, ps, 0, _, rfl, hl2, hps0, _, rfl, ?_⟩⟩
          by_cases hk : (curP ps 0).kind = "end"
          · rw [decide_eq_true hk]
            rw [eTold, if_pos hk] at eRow
            exact iteF ⟨_, _, _, (none, sts), vs, rfl, sm.trans S12, S12 _ _ eR, S12 _ _ eS, keepP S12, Nat.le_succ_of_le hlen, hnext _ (eRow.trans (if_pos hk))⟩
          · rw [decide_eq_false hk]
            rw [eTold, if_neg hk] at eRow
            refine iteT ⟨_, rfl, .inl ⟨rfl, _, SqL.of (S12 _ _ eS)⟩, _, rfl, p, _, ps, 0, rfl, hl2, hps0, he, hpl, fun s j hrs v G3 b3 hl3 hs => ?_, fun j hrs => ?_⟩
            · rw [hrs] at eRow
              obtain ⟨_, hj⟩ := step_fine ps he 0 hps0 s j hrs
              have S13 := up b3
              have eS3 := S13 _ _ eS
              have lv : vs.length = sts.length := Paired.length hp
              refine ⟨S, _, _, rfl, rfl, eS3, Nat.lt_of_le_of_lt (show _ ≤ 100001 by have := hlen; omega) (by decide), ?_⟩
              have kt : ∀ (a : Addr) (ys : List V), G3 a = some (.tup ys) → upd G3 S (.lst (vs ++ [v])) a = some (.tup ys) := fun a ys h => by
                rw [upd_ne (fun zz => by rw [zz, eS3] at h; cases h)]
                exact h
              have hl4 := hl3.grow hps0 eS3 (keepP S13) (vs ++ [v])
              have sm4 : Same H (upd G3 S (.lst (vs ++ [v]))) := fun a o e => by
                rw [upd_ne (fun zz => by rw [zz, hHS] at e; cases e)]
                exact (sm.trans S13) _ _ e
              have eR4 : upd G3 S (.lst (vs ++ [v])) R = some (.lst (ls.map V.str)) := by
                rw [upd_ne nRS]
                exact S13 _ _ eR
              have eS4 : upd G3 S (.lst (vs ++ [v])) S = some (.lst (vs ++ [v])) := upd_same
              have hp4 : Paired (StqAt (upd G3 S (.lst (vs ++ [v])))) (vs ++ [v]) (sts ++ [s]) := Paired.snoc (Paired.mapP (keepP S13) fun a b h => StqAt.keep _ _ _ _ kt h) (StqAt.keep _ _ _ _ kt hs)
              generalize upd G3 S (.lst (vs ++ [v])) = G4 at hl4 sm4 eR4 eS4 hp4 ⊢
              obtain ⟨dx4, L4, as4, h4, _⟩ := id hl4
              refine ⟨_, rfl, p, dx4, _, rfl, h4, rfl, p, _, ps, j, rfl, hl4, hj, fun hk2 => ?_, fun hk2 => ?_⟩
              · exact ⟨_, _, _, (none, sts ++ [s]), vs ++ [v], rfl, sm4, eR4, eS4, hp4, by rw [List.length_append]; exact Nat.succ_le_succ hlen, hnext _ (eRow.trans (if_pos hk2))⟩
              · exact (herr _ (eRow.trans (if_neg hk2))).same sm4
            · rw [hrs] at eRow
              exact fun G' d b nd' => herr _ eRow G' d (sm.trans (up b)) nd'
    · have eRow : rdRow st u = .error c := by
        unfold rdRow
        rw [hc]
      exact herr _ eRow G2 d (fun a o e => b2 a o (fun zz => by rw [zz, same_none sm gp] at e; cases e) (s5 _ _ (s3 _ _ (sm _ _ e)))) nd'
  · rintro σ G ⟨y4, y5, y6, ⟨ans, sts⟩, vs, rfl, sm, eR, eS, hp, hlen, htot⟩
    rw [List.length_map, List.drop_length, rdRows] at htot
    rw [htot] at eJ
    refine ⟨_, rfl, rfl, _, rfl, ?_⟩
    cases ans with
    | none =>
      refine (show (if (decide (V.non = V.non)) = true then _ else _) from ?_)
      rw [show decide (V.non = V.non) = true from decide_eq_true rfl]
      have hne : ls ≠ [] := fun zz => by
        rw [zz] at hsum
        simp at hsum
      have hmem : ls.getLastD "" ∈ ls := by
        rw [List.getLastD_eq_getLast?, List.getLast?_eq_some_getLast hne]
        exact List.getLast_mem hne
      have hix : (ls.map V.str)[(ls.map V.str).length - 1]? = some (.str (ls.getLastD "")) := by
        rw [List.length_map, List.getElem?_map, ← List.getLast?_eq_getElem?, List.getLastD_eq_getLast?, List.getLast?_eq_some_getLast hne]
        rfl
      have hll := hy _ hmem
      refine iteT ⟨_, rfl, R, _, rfl, .inl (SqL.of eR), _, rfl, _, rfl, R, _, _, _, rfl, rfl, SqL.of eR, atI_last2 hix, _, rfl, Nat.le_trans hll (by decide), _, _, rfl, rfl, _, _, rfl, fun d nd' => ?_⟩
      have hB := (qe _ _ eJ).same sm
      rw [hlast, ← List.length_map (f := V.str) (as := ls)] at hB
      exact hB G d (Same.refl _) nd'
    | some a =>
      refine (show (if (decide (V.str a = V.non)) = true then _ else _) from ?_)
      rw [show decide (V.str a = V.non) = false from decide_eq_false fun zz => by cases zz]
      refine iteF ⟨_, rfl, S, _, rfl, .inl ⟨SqL.of eS, fun t ht => ⟨_, rfl, by show 2 ≤ sizeLine; decide, fun t2 ht2 => ?_⟩⟩⟩
      have u1 := same_upd (o := .tup vs) ht
      have u2 := same_upd (o := .tup [.ref t, .str a]) ht2
      have u := u1.trans u2
      exact q (sts, a) eJ (.ref t2) _ (sm.trans u) ⟨t2, .ref t, .str a, rfl, upd_same, ⟨t, vs, rfl, u2 _ _ upd_same, Paired.mapP hp fun x y h => StqAt.keep _ _ _ _ (fun t xs e => u t _ e) h⟩, rfl⟩
end
end Kx

namespace Kx
open PySem PySem.Spec PyProof.Rows L2 TL
/-! ### texts as they are laid, and their pieces -/
structure Tok where
  sp : Nat
  w : List Nat
  k : Str
  v : PV
def layT : List Tok → List Nat → List Nat
  | [], tail => tail
  | t :: r, tail => List.replicate t.sp 32 ++ (t.w ++ layT r tail)
def pcsT (all : Nat) : Nat → List Tok → List Pc
  | _, [] => [⟨"end", .tx "", all + 1⟩]
  | at_, t :: r => ⟨t.k, t.v, at_ + t.sp + 1⟩ :: pcsT all (at_ + t.sp + t.w.length) r
/-- what stands behind the last piece: blanks, and a remark -/
inductive TailOk : List Nat → Prop
  | nil : TailOk []
  | hash (r : List Nat) : TailOk (35 :: r)
  | blank {r : List Nat} : TailOk r → TailOk (32 :: r)
structure Fits (t : Tok) (l : List Nat) : Prop where
  at_ : pcAt (t.w ++ l) = some (t.k, t.v, t.w.length)
  hd : ∃ c r, t.w = c :: r ∧ c ≠ 35 ∧ c ≠ 32
def LaysOk : List Tok → List Nat → Prop
  | [], tail => TailOk tail
  | t :: r, tail => Fits t (layT r tail) ∧ LaysOk r tail
def nbr : List Tok → Nat
  | [] => 0
  | t :: r => (if isBr t.k t.v = true then 0 else 1) + nbr r
theorem layT_append (a b : List Tok) (tail : List Nat) : layT (a ++ b) tail = layT a (layT b tail) := by
  induction a with
  | nil => rfl
  | cons t r ih =>
    show List.replicate t.sp 32 ++ (t.w ++ layT (r ++ b) tail) = List.replicate t.sp 32 ++ (t.w ++ layT r (layT b tail))
    rw [ih]
theorem nbr_append (a b : List Tok) : nbr (a ++ b) = nbr a + nbr b := by
  induction a with
  | nil => exact (Nat.zero_add _).symm
  | cons t r ih =>
    show _ + nbr (r ++ b) = _ + nbr r + nbr b
    rw [ih, Nat.add_assoc]
theorem pcs_tail {all : Nat} : ∀ {l : List Nat}, TailOk l → ∀ (f at_ many : Nat), l.length < f → pcs all f at_ many l = .ok [⟨"end", .tx "", all + 1⟩]
  | _, .nil, f + 1, at_, many, _ => by rw [pcs]
  | _, .hash r, f + 1, at_, many, _ => by rw [pcs, if_pos rfl]
  | _, .blank (r := r) h, f + 1, at_, many, hl => by
    rw [pcs, if_neg (by decide), if_pos rfl]
    exact pcs_tail h f _ _ (Nat.lt_of_succ_lt_succ hl)
theorem pcs_blanks {all f at_ many : Nat} {l : List Nat} : ∀ n : Nat, pcs all (f + n) at_ many (List.replicate n 32 ++ l) = pcs all f (at_ + n) many l
  | 0 => rfl
  | n + 1 => by
    rw [← Nat.add_assoc, List.replicate_succ, List.cons_append, pcs, if_neg (by decide), if_pos rfl]
    have e : pcs all (f + n) (at_ + 1) many (List.replicate n 32 ++ l) = pcs all f (at_ + 1 + n) many l := pcs_blanks n
    rw [e, show at_ + 1 + n = at_ + (n + 1) by omega]
/-- the pieces of what is laid -/
theorem pcs_lay {all : Nat} {tail : List Nat} : ∀ (ts : List Tok) (f at_ many : Nat), LaysOk ts tail → (layT ts tail).length < f → many ≤ 300 → (many + nbr ts ≤ 300 → pcs all f at_ many (layT ts tail) = .ok (pcsT all at_ ts)) ∧ (300 < many + nbr ts → ∃ c, pcs all f at_ many (layT ts tail) = .error c)
  | [], f, at_, many, h, hl, hm => ⟨fun _ => pcs_tail h f at_ many hl, fun z => absurd (show 300 < many + 0 from z) (by omega)⟩
  | t :: r, f, at_, many, h, hl, hm => by
    obtain ⟨⟨hp, c, w', hw, h35, h32⟩, hr⟩ := h
    have el : (layT (t :: r) tail).length = t.sp + (t.w.length + (layT r tail).length) := by
      show (List.replicate t.sp 32 ++ (t.w ++ layT r tail)).length = _
      rw [List.length_append, List.length_replicate, List.length_append]
    rw [el] at hl
    have hw1 : 0 < t.w.length := by rw [hw]; exact Nat.succ_pos _
    obtain ⟨f', rfl⟩ : ∃ f', f = f' + 1 + t.sp := ⟨f - 1 - t.sp, by omega⟩
    have e1 : pcs all (f' + 1 + t.sp) at_ many (layT (t :: r) tail) = pcs all (f' + 1) (at_ + t.sp) many (t.w ++ layT r tail) := pcs_blanks t.sp
    have e2 : (t.w ++ layT r tail).drop t.w.length = layT r tail := by rw [List.drop_left]
    rw [e1, pcs_take (c := c) (by rw [hw]; rfl) h35 h32, hp]
    dsimp only
    rw [e2]
    have hn : nbr (t :: r) = (if isBr t.k t.v = true then 0 else 1) + nbr r := rfl
    have ec : (if isBr t.k t.v = true then many else many + 1) = many + (if isBr t.k t.v = true then 0 else 1) := by
      split
      · rfl
      · rfl
    rw [hn, ec]
    generalize (if isBr t.k t.v = true then 0 else 1) = b
    have hl' : (layT r tail).length < f' := by omega
    by_cases h300 : 300 < many + b
    · rw [if_pos h300]
      exact ⟨fun z => absurd z (by omega), fun _ => ⟨_, rfl⟩⟩
    · rw [if_neg h300]
      obtain ⟨i1, i2⟩ := pcs_lay r f' (at_ + t.sp + t.w.length) (many + b) hr hl' (by omega)
      refine ⟨fun z => ?_, fun z => ?_⟩
      · rw [i1 (by omega)]
        rfl
      · obtain ⟨c', e⟩ := i2 (by omega)
        rw [e]
        exact ⟨_, rfl⟩
theorem pieces_lay {z : Str} {ts : List Tok} {tail : List Nat} (h : tl z = layT ts tail) (ok : LaysOk ts tail) (hn : nbr ts ≤ 300) : piecesOf z = .ok (pcsT z.length 0 ts) := by
  unfold piecesOf
  rw [h]
  exact (pcs_lay ts _ 0 0 ok (by rw [← h, ← len_tl]; exact Nat.lt_succ_self _) (by decide)).1 (by rw [Nat.zero_add]; exact hn)
theorem pieces_many {z : Str} {ts : List Tok} {tail : List Nat} (h : tl z = layT ts tail) (ok : LaysOk ts tail) (hn : 300 < nbr ts) : ∃ c, piecesOf z = .error c := by
  unfold piecesOf
  rw [h]
  exact (pcs_lay ts _ 0 0 ok (by rw [← h, ← len_tl]; exact Nat.lt_succ_self _) (by decide)).2 (by rw [Nat.zero_add]; exact hn)
/-! ### what a piece is -/
def noRun (l : List Nat) : Prop := ∀ c r, l = c :: r → isRun c = false
theorem takeW_run {w l : List Nat} (hw : w.all isRun = true) (hl : noRun l) : (w ++ l).takeWhile isRun = w := by
  induction w with
  | nil =>
    cases l with
    | nil => rfl
    | cons c r => rw [List.nil_append, List.takeWhile_cons, hl c r rfl]; rfl
  | cons c r ih =>
    rw [List.all_cons, Bool.and_eq_true] at hw
    rw [List.cons_append, List.takeWhile_cons, hw.1]
    show c :: (r ++ l).takeWhile isRun = c :: r
    rw [ih hw.2]
/-- a word, own or a name -/
def tokW (sp : Nat) (z : Str) : Tok := ⟨sp, tl z, if z ∈ owns then "own" else "name", .tx z⟩
def wordB (z : Str) : Bool := match tl z with
  | [] => false
  | c :: r => isLet c && (c :: r).all isRun
theorem fits_word {sp : Nat} {z : Str} {l : List Nat} (hz : wordB z = true) (hl : noRun l) : Fits (tokW sp z) l := by
  unfold wordB at hz
  cases e : tl z with
  | nil => rw [e] at hz; cases hz
  | cons c r =>
    rw [e] at hz
    dsimp only at hz
    rw [Bool.and_eq_true] at hz
    obtain ⟨h1, h2⟩ := hz
    have et : ((c :: r) ++ l).takeWhile isRun = c :: r := takeW_run h2 hl
    have em : mkS (c :: r) = z := by rw [← e]; exact mk_tl z
    refine ⟨?_, c, r, e, fun x => ?_, fun x => ?_⟩
    · show pcAt (tl z ++ l) = (some ((if z ∈ owns then "own" else "name" : Str), PV.tx z, (tl z).length) : Option (Str × PV × Nat))
      rw [e]
      unfold pcAt
      rw [List.cons_append]
      dsimp only
      rw [← List.cons_append, if_pos h1]
      unfold runLen
      rw [et, em]
      split <;> rfl
    · rw [x] at h1; revert h1; decide
    · rw [x] at h1; revert h1; decide
/-- a sign of one letter -/
def tokS (sp : Nat) (c : Nat) : Tok := ⟨sp, [c], "own", .tx (mkS [c])⟩
def longN : List (List Nat) := [[33, 61], [60, 61], [62, 61]]
theorem longs_eq : longs = longN.map mkS := by decide +kernel
theorem mkS_inj {a b : List Nat} (h : mkS a = mkS b) : a = b := by
  exact congrArg tl h
theorem long_iff {l : List Nat} : mkS l ∈ longs ↔ l ∈ longN := by
  rw [longs_eq]
  refine ⟨fun h => ?_, fun h => List.mem_map.mpr ⟨l, h, rfl⟩⟩
  obtain ⟨a, ha, e⟩ := List.mem_map.mp h
  rw [← mkS_inj e]
  exact ha
theorem fits_sign {sp c : Nat} {l : List Nat} (hc : c ∈ shorts) (hl : (c = 60 ∨ c = 62) → ∀ r, l ≠ 61 :: r) : Fits (tokS sp c) l := by
  have hs : ∀ c ∈ shorts, isLet c = false ∧ isFig c = false ∧ c ≠ 34 ∧ c ≠ 35 ∧ c ≠ 32 ∧ c ≠ 33 := by decide +kernel
  obtain ⟨h1, h2, h3, h4, h5, h6⟩ := hs c hc
  refine ⟨?_, c, [], rfl, h4, h5⟩
  show pcAt (c :: l) = (some (("own" : Str), PV.tx (mkS [c]), 1) : Option (Str × PV × Nat))
  unfold pcAt
  dsimp only
  rw [h1, if_neg Bool.false_ne_true, h2, if_neg Bool.false_ne_true, if_neg h3]
  rw [if_neg (fun z => ?_), if_pos hc]
  rw [long_iff] at z
  cases l with
  | nil =>
    simp [longN] at z
  | cons d r =>
    have e : (c :: d :: r).take 2 = [c, d] := rfl
    rw [e] at z
    have z : [c, d] = [33, 61] ∨ [c, d] = [60, 61] ∨ [c, d] = [62, 61] := by simpa [longN] using z
    rcases z with z | z | z
    · injection z with z1 z2
      exact h6 z1
    · injection z with z1 z2
      injection z2 with z2 z3
      exact hl (.inl z1) r (by rw [z2])
    · injection z with z1 z2
      injection z2 with z2 z3
      exact hl (.inr z1) r (by rw [z2])
/-- a sign of two letters -/
def tokL (sp : Nat) (c : Nat) : Tok := ⟨sp, [c, 61], "own", .tx (mkS [c, 61])⟩
theorem fits_long {sp c : Nat} {l : List Nat} (hc : c ∈ [33, 60, 62]) : Fits (tokL sp c) l := by
  have hs : ∀ c ∈ [33, 60, 62], isLet c = false ∧ isFig c = false ∧ c ≠ 34 ∧ c ≠ 35 ∧ c ≠ 32 ∧ [c, 61] ∈ longN := by decide +kernel
  obtain ⟨h1, h2, h3, h4, h5, h6⟩ := hs c hc
  refine ⟨?_, c, [61], rfl, h4, h5⟩
  show pcAt (c :: 61 :: l) = (some (("own" : Str), PV.tx (mkS [c, 61]), 2) : Option (Str × PV × Nat))
  unfold pcAt
  dsimp only
  rw [h1, if_neg Bool.false_ne_true, h2, if_neg Bool.false_ne_true, if_neg h3]
  exact if_pos (long_iff.mpr h6)
/-- a number -/
def tokN (sp n : Nat) (w : List Nat) : Tok := ⟨sp, w, "number", .nm n⟩
theorem fits_num {sp n : Nat} {w l : List Nat} (hn : NumText.digitsVal w = n) (hw : isNumB w = true) (hf : w.all isFig = true) (h0 : w ≠ []) (hl : noRun l) : Fits (tokN sp n w) l := by
  have hr : w.all isRun = true := by
    rw [List.all_eq_true] at hf ⊢
    intro x hx
    unfold isRun
    rw [hf x hx, Bool.or_true]
  have et := takeW_run hr hl
  cases w with
  | nil => exact absurd rfl h0
  | cons c r =>
    rw [List.all_cons, Bool.and_eq_true] at hf
    have hc := hf.1
    have h1 : isLet c = false := by
      unfold isFig at hc
      unfold isLet
      have : 48 ≤ c ∧ c ≤ 57 := by simpa using hc
      have a : decide (97 ≤ c) = false := decide_eq_false (by omega)
      have b : decide (c = 95) = false := decide_eq_false (by omega)
      rw [a, b]
      rfl
    refine ⟨?_, c, r, rfl, fun x => ?_, fun x => ?_⟩
    · show pcAt ((c :: r) ++ l) = (some (("number" : Str), PV.nm n, (c :: r).length) : Option (Str × PV × Nat))
      unfold pcAt
      rw [List.cons_append]
      dsimp only
      rw [← List.cons_append, h1, if_neg Bool.false_ne_true, if_pos hc]
      unfold runLen
      rw [et, if_pos hw, hn]
    · rw [x] at hc; revert hc; decide
    · rw [x] at hc; revert hc; decide
/-- a text in quotes -/
def tokQ (sp : Nat) (z : Str) : Tok := ⟨sp, 34 :: (tl z ++ [34]), "quoted", .tx z⟩
theorem takeW_quo {q l : List Nat} (h : 34 ∉ q) : (q ++ 34 :: l).takeWhile (fun x => decide (x ≠ 34)) = q := by
  induction q with
  | nil => rfl
  | cons c r ih =>
    have hc : c ≠ 34 := fun z => h (by rw [← z]; exact List.mem_cons_self)
    rw [List.cons_append, List.takeWhile_cons, if_pos (decide_eq_true hc), ih fun z => h (List.mem_cons_of_mem _ z)]
theorem fits_quo {sp : Nat} {z : Str} {l : List Nat} (h : 34 ∉ tl z) : Fits (tokQ sp z) l := by
  refine ⟨?_, 34, tl z ++ [34], rfl, by decide, by decide⟩
  show pcAt ((34 :: (tl z ++ [34])) ++ l) = (some (("quoted" : Str), PV.tx z, (34 :: (tl z ++ [34])).length) : Option (Str × PV × Nat))
  have e : (34 :: (tl z ++ [34])) ++ l = 34 :: (tl z ++ 34 :: l) := by
    rw [List.cons_append, List.append_assoc]
    rfl
  rw [e]
  unfold pcAt
  dsimp only
  rw [show isLet 34 = false by decide, if_neg Bool.false_ne_true, show isFig 34 = false by decide, if_neg Bool.false_ne_true, if_pos rfl, if_pos (by simp), takeW_quo h, show mkS (tl z) = z from mk_tl z]
  simp
end Kx

namespace Kx
open PySem PySem.Spec PyProof.Rows L2 TL
/-! ### from a place on -/
/-- behind place i stand the pieces of ts; at_ signs stand ahead of them -/
def Rst' (ps : List Pc) (i all at_ : Nat) (ts : List Tok) : Prop := ps.drop i = pcsT all at_ ts
theorem pcsT_pos {all at_ : Nat} {ts : List Tok} : 0 < (pcsT all at_ ts).length := by
  cases ts with
  | nil => exact Nat.succ_pos _
  | cons t r => exact Nat.succ_pos _
theorem pcsT_len {all : Nat} : ∀ {at_ : Nat} {ts : List Tok}, (pcsT all at_ ts).length = ts.length + 1
  | _, [] => rfl
  | at_, t :: r => by
    show (pcsT all _ r).length + 1 = _
    rw [pcsT_len]
    rfl
section
variable {ps : List Pc} {i all at_ : Nat} {t : Tok} {r ts : List Tok}
theorem Rst'.lt (h : Rst' ps i all at_ ts) : i < ps.length := by
  have h1 : (ps.drop i).length = (pcsT all at_ ts).length := by rw [h]
  have h2 := pcsT_pos (all := all) (at_ := at_) (ts := ts)
  rw [List.length_drop] at h1
  omega
theorem Rst'.len (h : Rst' ps i all at_ ts) : ps.length = i + ts.length + 1 := by
  have h1 : (ps.drop i).length = (pcsT all at_ ts).length := by rw [h]
  have h2 := h.lt
  rw [List.length_drop, pcsT_len] at h1
  omega
theorem curP_drop (ps : List Pc) (i : Nat) : curP ps i = curP (ps.drop i) 0 := by
  unfold curP
  rw [List.getD_eq_getElem?_getD, List.getD_eq_getElem?_getD, List.getElem?_drop, Nat.add_zero]
theorem Rst'.cur (h : Rst' ps i all at_ (t :: r)) : curP ps i = ⟨t.k, t.v, at_ + t.sp + 1⟩ := by
  rw [curP_drop, show ps.drop i = _ from h]
  rfl
theorem Rst'.fin (h : Rst' ps i all at_ []) : curP ps i = ⟨"end", .tx "", all + 1⟩ := by
  rw [curP_drop, show ps.drop i = _ from h]
  rfl
theorem Rst'.next (h : Rst' ps i all at_ (t :: r)) : Rst' ps (i + 1) all (at_ + t.sp + t.w.length) r := by
  have e : ps.drop (i + 1) = (ps.drop i).drop 1 := by rw [List.drop_drop]
  unfold Rst'
  rw [e, show ps.drop i = _ from h]
  rfl
end
def lenT : List Tok → Nat
  | [] => 0
  | t :: r => t.sp + t.w.length + lenT r
theorem lenT_append (a b : List Tok) : lenT (a ++ b) = lenT a + lenT b := by
  induction a with
  | nil => exact (Nat.zero_add _).symm
  | cons t r ih =>
    show t.sp + t.w.length + lenT (r ++ b) = t.sp + t.w.length + lenT r + lenT b
    rw [ih, Nat.add_assoc (t.sp + t.w.length)]
theorem Rst'.skip {ps : List Pc} {all : Nat} : ∀ {i at_ : Nat} {a b : List Tok}, Rst' ps i all at_ (a ++ b) → Rst' ps (i + a.length) all (at_ + lenT a) b
  | _, _, [], _, h => h
  | i, at_, t :: a, b, h => by
    have h2 := Rst'.skip (a := a) (h : Rst' ps i all at_ (t :: (a ++ b))).next
    rw [show i + (t :: a).length = i + 1 + a.length by rw [List.length_cons]; omega, show at_ + lenT (t :: a) = at_ + t.sp + t.w.length + lenT a by show at_ + (t.sp + t.w.length + lenT a) = _; omega]
    exact h2
/-- the own word of a piece -/
def Tok.own (t : Tok) : Str := if t.k = "own" then txt t.v else ""
theorem own_rst {ps : List Pc} {i all at_ : Nat} {t : Tok} {r : List Tok} (h : Rst' ps i all at_ (t :: r)) : ownW ps i = t.own := by
  unfold ownW
  rw [h.cur]
  unfold Tok.own txt
  rfl
theorem own_fin {ps : List Pc} {i all at_ : Nat} (h : Rst' ps i all at_ []) : ownW ps i = "" := by
  unfold ownW
  rw [h.fin]
  exact if_neg (show ¬ ("end" : Str) = "own" by decide +kernel)
def ownH : List Tok → Str
  | [] => ""
  | t :: _ => t.own
theorem own_hd {ps : List Pc} {i all at_ : Nat} : ∀ {ts : List Tok}, Rst' ps i all at_ ts → ownW ps i = ownH ts
  | [], h => own_fin h
  | _ :: _, h => own_rst h
def nlev (ts : List Tok) : Nat := levW (ownH ts)
theorem nlev_hd {ps : List Pc} {i all at_ : Nat} {ts : List Tok} (h : Rst' ps i all at_ ts) : nextLev ps i = nlev ts := by
  unfold nextLev nlev
  rw [own_hd h]
/-! ### how expressions are written -/
def leafT (t : Tok) : Option Ex := leafP ⟨t.k, t.v, 0⟩
abbrev PtP : Type := Nat → Ex → List Tok → Nat → Prop
/-- an operand: the level, the expression, its pieces, and the least level of what stands open at its end -/
inductive OpnR (Q : PtP) : PtP
  | leaf {l : Nat} {e : Ex} {t : Tok} : leafT t = some e → t.k ≠ "own" → OpnR Q l e [t] 100
  | nt {l : Nat} {e : Ex} {ts : List Tok} {r : Nat} {t : Tok} : l ≤ 3 → t.own = "not" → Q 3 e ts r → OpnR Q l (.nt e) (t :: ts) (min 3 r)
  | mn {l : Nat} {e : Ex} {ts : List Tok} {r : Nat} {t : Tok} : t.own = "-" → Q 7 e ts r → OpnR Q l (.mn e) (t :: ts) (min 7 r)
  | par {l : Nat} {e : Ex} {ts : List Tok} {r : Nat} {a b : Tok} : a.own = "(" → b.own = ")" → largeE e = false → 0 < r → Q 1 e ts r → OpnR Q l e (a :: (ts ++ [b])) 100
  | ln {l : Nat} {e : Ex} {ts : List Tok} {r : Nat} {c a b : Tok} : c.own = "length" → a.own = "(" → b.own = ")" → largeE e = false → 0 < r → Q 1 e ts r → OpnR Q l (.ln e) (c :: a :: (ts ++ [b])) 100
/-- operands with signs between -/
inductive LpR (Q : PtP) (l : Nat) : Ex → List Tok → Nat → Prop
  | op {e : Ex} {ts : List Tok} {r : Nat} : OpnR Q l e ts r → LpR Q l e ts r
  | two {e e2 : Ex} {ts ts2 : List Tok} {r r2 k : Nat} {s : Tok} : LpR Q l e ts r → levW s.own = k → l ≤ k → 1 ≤ l → k < r → Q (k + 1) e2 ts2 r2 → LpR Q l (.two s.own e e2) (ts ++ s :: ts2) (min (if k = 4 then 4 else k + 1) r2)
def Pt : Nat → PtP
  | 0 => fun _ _ _ _ => False
  | f + 1 => fun l e ts r => LpR (Pt f) l e ts r
/-- what reading tells of what is so written -/
def Says (Q : PtP) (rec : List Pc → Nat → Nat → Rd1) : Prop := ∀ (l : Nat) (e : Ex) (ts : List Tok) (r : Nat), Q l e ts r → ∀ (ps : List Pc) (i all at_ : Nat) (rest : List Tok), Rst' ps i all at_ (ts ++ rest) → nlev rest < r → nlev rest < l → rec ps l i = if l = 1 ∧ largeE e = true then .error (i + ts.length) else .ok (e, i + ts.length)
theorem lev_rb : levW ")" = 0 := by decide +kernel
theorem own_ne {a b : Str} {t : Tok} (h : t.own = a) (hb : b ≠ a) : ¬ t.own = b := fun z => hb (z.symm.trans h)
theorem op_says {Q : PtP} {rec : List Pc → Nat → Nat → Rd1} (S : Says Q rec) {l : Nat} {e : Ex} {ts : List Tok} {r : Nat} (h : OpnR Q l e ts r) {ps : List Pc} {i all at_ : Nat} {rest : List Tok} (hr : Rst' ps i all at_ (ts ++ rest)) (hn : nlev rest < r) : rdOper ps (rec ps) l i = .ok (e, i + ts.length) := by
  cases h with
  | leaf hl hk =>
    rename_i t
    have h0 : ownW ps i = "" := (own_rst hr).trans (if_neg hk)
    unfold rdOper
    rw [h0, if_neg (fun z => absurd z.2 (show ¬ ("" : Str) = "not" by decide +kernel)), if_neg (show ¬ ("" : Str) = "-" by decide +kernel), if_neg (show ¬ ("" : Str) = "(" by decide +kernel), if_neg (show ¬ ("" : Str) = "length" by decide +kernel)]
    have hc : leafP (curP ps i) = some e := by
      rw [Rst'.cur hr]
      exact hl
    rw [hc]
    rfl
  | nt hl ho hq =>
    rename_i e' ts' r' t
    have h0 : ownW ps i = "not" := (own_rst hr).trans ho
    unfold rdOper
    rw [h0, if_pos ⟨hl, rfl⟩]
    have := S 3 e' ts' r' hq ps (i + 1) all _ rest (Rst'.next hr) (by omega) (by omega)
    rw [this, if_neg (fun z => absurd z.1 (by decide))]
    show Except.ok (Ex.nt e', i + 1 + ts'.length) = _
    rw [List.length_cons, show i + 1 + ts'.length = i + (ts'.length + 1) by omega]
  | mn ho hq =>
    rename_i e' ts' r' t
    have h0 : ownW ps i = "-" := (own_rst hr).trans ho
    unfold rdOper
    rw [h0, if_neg (fun z => absurd z.2 (show ¬ ("-" : Str) = "not" by decide +kernel)), if_pos rfl]
    have := S 7 e' ts' r' hq ps (i + 1) all _ rest (Rst'.next hr) (by omega) (by omega)
    rw [this, if_neg (fun z => absurd z.1 (by decide))]
    show Except.ok (Ex.mn e', i + 1 + ts'.length) = _
    rw [List.length_cons, show i + 1 + ts'.length = i + (ts'.length + 1) by omega]
  | par ha hb hg hr0 hq =>
    rename_i ts' r' a b
    have h0 : ownW ps i = "(" := (own_rst hr).trans ha
    have hr' : Rst' ps (i + 1) all (at_ + a.sp + a.w.length) (ts' ++ b :: rest) := by
      have this : Rst' ps (i + 1) all (at_ + a.sp + a.w.length) ((ts' ++ [b]) ++ rest) := Rst'.next hr
      rw [List.append_assoc] at this
      exact this
    have hb0 : nlev (b :: rest) = 0 := by
      show levW b.own = 0
      rw [hb]
      exact lev_rb
    unfold rdOper
    rw [h0, if_neg (fun z => absurd z.2 (show ¬ ("(" : Str) = "not" by decide +kernel)), if_neg (show ¬ ("(" : Str) = "-" by decide +kernel), if_pos rfl]
    have := S 1 e ts' r' hq ps (i + 1) all _ (b :: rest) hr' (by omega) (by omega)
    rw [this, if_neg (fun z => absurd z.2 (by rw [hg]; exact Bool.false_ne_true))]
    have hs := hr'.skip
    show closeR ps id e (i + 1 + ts'.length) = _
    unfold closeR
    rw [if_pos ((own_rst hs).trans hb), List.length_cons, List.length_append, show i + 1 + ts'.length + 1 = i + (ts'.length + ([b] : List Tok).length + 1) by show _ = i + (ts'.length + 1 + 1); omega]
    rfl
  | ln hc ha hb hg hr0 hq =>
    rename_i e' ts' r' c a b
    have h0 : ownW ps i = "length" := (own_rst hr).trans hc
    have h1 : ownW ps (i + 1) = "(" := (own_rst (Rst'.next hr)).trans ha
    have hr' : Rst' ps (i + 2) all (at_ + c.sp + c.w.length + a.sp + a.w.length) (ts' ++ b :: rest) := by
      have this : Rst' ps (i + 2) all (at_ + c.sp + c.w.length + a.sp + a.w.length) ((ts' ++ [b]) ++ rest) := Rst'.next (Rst'.next hr)
      rw [List.append_assoc] at this
      exact this
    have hb0 : nlev (b :: rest) = 0 := by
      show levW b.own = 0
      rw [hb]
      exact lev_rb
    unfold rdOper
    rw [h0, if_neg (fun z => absurd z.2 (show ¬ ("length" : Str) = "not" by decide +kernel)), if_neg (show ¬ ("length" : Str) = "-" by decide +kernel), if_neg (show ¬ ("length" : Str) = "(" by decide +kernel), if_pos rfl, if_pos h1]
    have := S 1 e' ts' r' hq ps (i + 2) all _ (b :: rest) hr' (by omega) (by omega)
    rw [this, if_neg (fun z => absurd z.2 (by rw [hg]; exact Bool.false_ne_true))]
    have hs := hr'.skip
    show closeR ps Ex.ln e' (i + 2 + ts'.length) = _
    unfold closeR
    rw [if_pos ((own_rst hs).trans hb), List.length_cons, List.length_cons, List.length_append, show i + 2 + ts'.length + 1 = i + (ts'.length + ([b] : List Tok).length + 1 + 1) by show _ = i + (ts'.length + 1 + 1 + 1); omega]
theorem lp_pos {Q : PtP} {l : Nat} {e : Ex} {ts : List Tok} {r : Nat} (h : LpR Q l e ts r) : 0 < ts.length := by
  induction h with
  | op h => cases h <;> exact Nat.succ_pos _
  | two _ _ _ _ _ _ ih => rw [List.length_append]; omega
theorem lp_says {Q : PtP} {rec : List Pc → Nat → Nat → Rd1} (S : Says Q rec) {l : Nat} {e : Ex} {ts : List Tok} {r : Nat} (h : LpR Q l e ts r) : ∀ {ps : List Pc} {i all at_ : Nat} {rest : List Tok}, Rst' ps i all at_ (ts ++ rest) → nlev rest < r → ∃ g, ps.length < g + ts.length + 1 ∧ (thenR (rdOper ps (rec ps) l i) fun e j => rdLoop ps (rec ps) l ps.length e j) = rdLoop ps (rec ps) l g e (i + ts.length) := by
  induction h with
  | op h =>
    intro ps i all at_ rest hr hn
    refine ⟨ps.length, by omega, ?_⟩
    rw [op_says S h hr hn]
    rfl
  | two h1 hk hl hl1 hkr hq ih =>
    rename_i e e2 ts ts2 r r2 k s
    intro ps i all at_ rest hr hn
    have hr1 : Rst' ps i all at_ (ts ++ s :: (ts2 ++ rest)) := by
      rw [List.append_assoc] at hr
      exact hr
    have hnk : nlev (s :: (ts2 ++ rest)) = k := hk
    obtain ⟨g, hg, e1⟩ := ih hr1 (by rw [hnk]; exact hkr)
    have hs := hr1.skip
    have hl := hr1.len
    rw [List.length_append, List.length_cons, List.length_append] at hl
    obtain ⟨g', rfl⟩ : ∃ g', g = g' + 1 := ⟨g - 1, by omega⟩
    have hnl : nextLev ps (i + ts.length) = k := (nlev_hd hs).trans hnk
    have how : ownW ps (i + ts.length) = s.own := own_rst hs
    refine ⟨g', by rw [List.length_append, List.length_cons]; omega, ?_⟩
    have hmin : nlev rest < (if k = 4 then 4 else k + 1) ∧ nlev rest < r2 := by omega
    have hk1 : (if k = 4 then 4 else k + 1) ≤ k + 1 := by split <;> omega
    have e2' := S (k + 1) e2 ts2 r2 hq ps (i + ts.length + 1) all _ rest hs.next (by omega) (by omega)
    rw [if_neg (fun z => absurd z.1 (by omega))] at e2'
    have hend := hs.next.skip
    rw [e1, rdLoop, hnl, if_pos (by omega), e2', how]
    show (if k = 4 ∧ nextLev ps (i + ts.length + 1 + ts2.length) = 4 then _ else rdLoop ps (rec ps) l g' (.two s.own e e2) (i + ts.length + 1 + ts2.length)) = _
    rw [if_neg (fun z => by
      have h4 := (nlev_hd hend).symm.trans z.2
      rw [if_pos z.1] at hmin
      omega), List.length_append, List.length_cons, show i + ts.length + 1 + ts2.length = i + (ts.length + (ts2.length + 1)) by omega]
theorem pt_says : ∀ f : Nat, Says (Pt f) (fun ps l i => rdPart ps f l i)
  | 0 => fun l e ts r h => h.elim
  | f + 1 => fun l e ts r h ps i all at_ rest hr hn hl => by
    obtain ⟨g, hg, e1⟩ := lp_says (pt_says f) (h : LpR (Pt f) l e ts r) hr hn
    have hs := hr.skip
    have hz : rdLoop ps (rdPart ps f) l g e (i + ts.length) = .ok (e, i + ts.length) := by
      cases g with
      | zero => rfl
      | succ g =>
        rw [rdLoop, if_neg (by rw [nlev_hd hs]; omega)]
    show rdPart ps (f + 1) l i = _
    rw [rdPart]
    have e3 : (thenR (rdOper ps (rdPart ps f) l i) fun e j => thenR (rdLoop ps (rdPart ps f) l ps.length e j) fun e2 k => if l = 1 ∧ largeE e2 = true then .error k else .ok (e2, k)) = thenR (thenR (rdOper ps (rdPart ps f) l i) fun e j => rdLoop ps (rdPart ps f) l ps.length e j) fun e2 k => if l = 1 ∧ largeE e2 = true then .error k else .ok (e2, k) := by
      cases rdOper ps (rdPart ps f) l i <;> rfl
    rw [e3]
    have e4 : (thenR (rdOper ps (rdPart ps f) l i) fun e j => rdLoop ps (rdPart ps f) l ps.length e j) = .ok (e, i + ts.length) := e1.trans hz
    rw [e4]
    rfl
end Kx

namespace Kx
open PySem PySem.Spec PyProof.Rows L2 TL
/-! ### readings of what is written -/
/-- rd reads a from ts, where what comes behind is as ok says -/
def RdSays {A : Type} (rd : Rdg A) (a : A) (ts : List Tok) (ok : List Tok → Prop) : Prop := ∀ (ps : List Pc) (i all at_ : Nat) (rest : List Tok), Rst' ps i all at_ (ts ++ rest) → ok rest → rd ps i = .ok (a, i + ts.length)
theorem word_says {ws : List Str} {t : Tok} (h : t.own ∈ ws) : RdSays (rdWord ws) t.own [t] fun _ => True := fun ps i all at_ rest hr _ => by
  have h0 : ownW ps i = t.own := own_rst hr
  unfold rdWord
  rw [h0, if_pos h]
  rfl
theorem name_says {t : Tok} {z : Str} (hk : t.k = "name") (hv : t.v = .tx z) : RdSays rdName z [t] fun _ => True := fun ps i all at_ rest hr _ => by
  unfold rdName
  rw [Rst'.cur hr]
  dsimp only
  rw [if_pos hk, hv]
  rfl
theorem thenA_says {A B : Type} {rd : Rdg A} {k : A → Rdg B} {a : A} {b : B} {ts us : List Tok} {ok1 ok2 : List Tok → Prop} (h1 : RdSays rd a ts ok1) (h2 : RdSays (k a) b us ok2) (hok : ∀ rest, ok2 rest → ok1 (us ++ rest)) : RdSays (fun ps i => thenA (rd ps i) fun a j => k a ps j) b (ts ++ us) ok2 := fun ps i all at_ rest hr hok2 => by
  rw [List.append_assoc] at hr
  have e1 := h1 ps i all at_ (us ++ rest) hr (hok rest hok2)
  have e2 := h2 ps (i + ts.length) all _ rest hr.skip hok2
  dsimp only
  rw [e1]
  show k a ps (i + ts.length) = _
  rw [e2, List.length_append, Nat.add_assoc]
theorem pure_says {A : Type} {a : A} : RdSays (fun _ i => (.ok (a, i) : Except Nat (A × Nat))) a [] fun _ => True := fun ps i all at_ rest hr _ => rfl
theorem RdSays.mono {A : Type} {rd : Rdg A} {a : A} {ts : List Tok} {ok ok2 : List Tok → Prop} (h : RdSays rd a ts ok) (hk : ∀ r, ok2 r → ok r) : RdSays rd a ts ok2 := fun ps i all at_ rest hr h2 => h ps i all at_ rest hr (hk rest h2)
theorem expr_says {e : Ex} {ts : List Tok} {r : Nat} (h : Pt 100 1 e ts r) (hr : 0 < r) (hg : largeE e = false) : RdSays rdExpr e ts fun rest => nlev rest = 0 := fun ps i all at_ rest h1 h2 => by
  have := pt_says 100 1 e ts r h ps i all at_ rest h1 (by omega) (by omega)
  rw [if_neg (fun z => absurd z.2 (by rw [hg]; exact Bool.false_ne_true))] at this
  exact this
/-- a row with commas between -/
def commaT {A : Type} (c : Tok) : List (A × List Tok) → List Tok
  | [] => []
  | x :: r => c :: (x.2 ++ commaT c r)
theorem items_says {A : Type} {rd : Rdg A} {c : Tok} {ok okEnd : List Tok → Prop} (hc : c.own = ",") (hok : ∀ r, ok (c :: r)) (hend : ∀ r, okEnd r → ok r ∧ ownH r ≠ ",") : ∀ (xs : List (A × List Tok)), (∀ x ∈ xs, RdSays rd x.1 x.2 ok) → ∀ (as : List A) (g : Nat), xs.length ≤ g → RdSays (fun ps i => rdItems rd ps g as i) (as ++ xs.map (·.1)) (commaT c xs) okEnd
  | [], _, as, g, _ => fun ps i all at_ rest hr h => by
    have hn : ¬ ownW ps i = "," := by
      rw [own_hd hr]
      exact (hend rest h).2
    show rdItems rd ps g as i = _
    rw [List.map_nil, List.append_nil]
    cases g with
    | zero => rfl
    | succ g =>
      rw [rdItems, if_neg hn]
      rfl
  | x :: xs, hx, as, g, hg => fun ps i all at_ rest hr h => by
    obtain ⟨g', rfl⟩ : ∃ g', g = g' + 1 := ⟨g - 1, by rw [List.length_cons] at hg; omega⟩
    have hw : ownW ps i = "," := (own_rst hr).trans hc
    have hr2 : Rst' ps (i + 1) all (at_ + c.sp + c.w.length) (x.2 ++ (commaT c xs ++ rest)) := by
      have this : Rst' ps (i + 1) all (at_ + c.sp + c.w.length) ((x.2 ++ commaT c xs) ++ rest) := Rst'.next hr
      rw [List.append_assoc] at this
      exact this
    have okx : ok (commaT c xs ++ rest) := by
      cases xs with
      | nil => exact (hend rest h).1
      | cons y ys => exact hok _
    have e1 := hx x List.mem_cons_self ps (i + 1) all _ _ hr2 okx
    have e2 := items_says hc hok hend xs (fun y hy => hx y (List.mem_cons_of_mem _ hy)) (as ++ [x.1]) g' (by rw [List.length_cons] at hg; omega) ps (i + 1 + x.2.length) all _ rest hr2.skip h
    show rdItems rd ps (g' + 1) as i = _
    rw [rdItems, if_pos hw, e1]
    show rdItems rd ps g' (as ++ [x.1]) (i + 1 + x.2.length) = _
    refine Eq.trans e2 ?_
    rw [List.map_cons, List.append_assoc]
    show Except.ok (as ++ ([x.1] ++ xs.map (·.1)), i + 1 + x.2.length + (commaT c xs).length) = Except.ok (as ++ x.1 :: xs.map (·.1), i + (x.2 ++ commaT c xs).length.succ)
    rw [List.length_append, show i + 1 + x.2.length + (commaT c xs).length = i + (x.2.length + (commaT c xs).length).succ by omega]
    rfl
theorem list_says {A : Type} {rd : Rdg A} {c : Tok} {ok okEnd : List Tok → Prop} (hc : c.own = ",") (hok : ∀ r, ok (c :: r)) (hend : ∀ r, okEnd r → ok r ∧ ownH r ≠ ",") {x : A × List Tok} {xs : List (A × List Tok)} (hx : ∀ y ∈ x :: xs, RdSays rd y.1 y.2 ok) : RdSays (rdList rd) ((x :: xs).map (·.1)) (x.2 ++ commaT c xs) okEnd := fun ps i all at_ rest hr h => by
  rw [List.append_assoc] at hr
  have okx : ok (commaT c xs ++ rest) := by
    cases xs with
    | nil => exact (hend rest h).1
    | cons y ys => exact hok _
  have e1 := hx x List.mem_cons_self ps i all at_ _ hr okx
  have hl := hr.len
  have hcl : xs.length ≤ (commaT c xs).length := by
    clear e1 okx hr hl hx
    induction xs with
    | nil => exact Nat.le_refl _
    | cons y ys ih =>
      show ys.length + 1 ≤ (y.2 ++ commaT c ys).length + 1
      rw [List.length_append]
      omega
  rw [List.length_append, List.length_append] at hl
  have e2 := items_says hc hok hend xs (fun y hy => hx y (List.mem_cons_of_mem _ hy)) [x.1] ps.length (by omega) ps (i + x.2.length) all _ rest hr.skip h
  unfold rdList
  rw [e1]
  show rdItems rd ps ps.length [x.1] (i + x.2.length) = _
  refine Eq.trans e2 ?_
  rw [List.length_append, Nat.add_assoc]
  rfl
/-! ### rows and jobs -/
theorem row_of {z : Str} {ts : List Tok} {tail : List Nat} {st : JSt} (h : tl z = layT ts tail) (ok : LaysOk ts tail) (hn : nbr ts ≤ 300) : rdRow st z = toEnd (pcsT z.length 0 ts) (rdTold st (pcsT z.length 0 ts)) := by
  unfold rdRow
  rw [pieces_lay h ok hn]
theorem rst_start {z : Str} {ts : List Tok} : Rst' (pcsT z.length 0 ts) 0 z.length 0 ts := rfl
/-- a step's row -/
theorem row_step {z : Str} {ts : List Tok} {tail : List Nat} {sts : List Stq} {s : Stq} (h : tl z = layT ts tail) (ok : LaysOk ts tail) (hn : nbr ts ≤ 300) (h0 : ts ≠ []) (ha : ownH ts ≠ "answer") (hs : RdSays rdStep s ts fun r => r = []) : rdRow (none, sts) z = .ok (none, sts ++ [s]) := by
  rw [row_of h ok hn]
  have hr : Rst' (pcsT z.length 0 ts) 0 z.length 0 (ts ++ []) := by
    rw [List.append_nil]
    exact rst_start
  generalize pcsT z.length 0 ts = ps at hr ⊢
  have hr' := hr
  rw [List.append_nil] at hr'
  have e1 := hs ps 0 z.length 0 [] hr rfl
  have hfin := hr.skip.fin
  cases ts with
  | nil => exact absurd rfl h0
  | cons t r =>
    have ho : ¬ ownW ps 0 = "answer" := by
      rw [own_hd hr']
      exact ha
    have hk : ¬ (curP ps 0).kind = "end" := by
      rw [hr'.cur]
      exact (pcAt_ok (c := 0) ok.1.at_).ne
    unfold rdTold
    dsimp only
    rw [if_neg ho, e1]
    rw [if_neg hk]
    show (if (curP ps (0 + (t :: r).length)).kind = "end" then _ else _) = _
    rw [hfin, if_pos rfl]
/-- a step that is wrong -/
theorem row_wrong {z : Str} {ts : List Tok} {tail : List Nat} {sts : List Stq} {j : Nat} (h : tl z = layT ts tail) (ok : LaysOk ts tail) (hn : nbr ts ≤ 300) (h0 : ts ≠ []) (ha : ownH ts ≠ "answer") (hs : rdStep (pcsT z.length 0 ts) 0 = .error j) : rdRow (none, sts) z = .error (curP (pcsT z.length 0 ts) j).col := by
  rw [row_of h ok hn]
  have hr : Rst' (pcsT z.length 0 ts) 0 z.length 0 ts := rst_start
  generalize pcsT z.length 0 ts = ps at hr hs ⊢
  cases ts with
  | nil => exact absurd rfl h0
  | cons t r =>
    have ho : ¬ ownW ps 0 = "answer" := by
      rw [own_hd hr]
      exact ha
    have hk : ¬ (curP ps 0).kind = "end" := by
      rw [hr.cur]
      exact (pcAt_ok (c := 0) ok.1.at_).ne
    unfold rdTold
    dsimp only
    rw [if_neg ho, hs, if_neg hk]
    rfl
/-- the answer's row -/
theorem row_answer {z nm : Str} {t1 t2 : Tok} {tail : List Nat} {sts : List Stq} (h : tl z = layT [t1, t2] tail) (ok : LaysOk [t1, t2] tail) (h1 : t1.own = "answer") (h2 : t2.k = "name") (h3 : t2.v = .tx nm) : rdRow (none, sts) z = .ok (some nm, sts) := by
  have hn : nbr [t1, t2] ≤ 300 := by
    show _ + (_ + 0) ≤ 300
    have : ∀ b : Bool, (if b = true then 0 else 1) ≤ 1 := fun b => by cases b <;> decide
    have a := this (isBr t1.k t1.v)
    have b := this (isBr t2.k t2.v)
    omega
  rw [row_of h ok hn]
  have hr : Rst' (pcsT z.length 0 [t1, t2]) 0 z.length 0 [t1, t2] := rst_start
  generalize pcsT z.length 0 [t1, t2] = ps at hr ⊢
  have ho : ownW ps 0 = "answer" := (own_rst hr).trans h1
  have e1 : rdName ps 1 = .ok (nm, 1 + 1) := name_says h2 h3 ps 1 z.length _ [] hr.next trivial
  unfold rdTold
  dsimp only
  rw [if_pos ho, e1]
  show (if (curP ps 2).kind = "end" then _ else _) = _
  rw [hr.next.next.fin, if_pos rfl]
/-- a row of blanks -/
theorem row_blank {z : Str} {tail : List Nat} {st : JSt} (h : tl z = tail) (ok : TailOk tail) : rdRow st z = .ok st := by
  rw [row_of (ts := []) (tail := tail) h ok (Nat.zero_le _)]
  have hr : Rst' (pcsT z.length 0 []) 0 z.length 0 [] := rst_start
  generalize pcsT z.length 0 [] = ps at hr ⊢
  obtain ⟨a, sts⟩ := st
  have hf := hr.fin
  have hk : (curP ps 0).kind = "end" := by rw [hf]
  have ho : ¬ ownW ps 0 = "answer" := by
    rw [own_fin hr]
    decide +kernel
  unfold rdTold
  cases a with
  | some a => exact if_pos hk
  | none =>
    dsimp only
    rw [if_neg ho, if_pos hk]
    exact if_pos hk
theorem rows_cons {z : Str} {r : List Str} {st st' : JSt} {n : Nat} (h : rdRow st z = .ok st') : rdRows (z :: r) st n = rdRows r st' (n + 1) := by
  rw [rdRows, h]
theorem rows_wrong {z : Str} {r : List Str} {st : JSt} {n c : Nat} (h : rdRow st z = .error c) : rdRows (z :: r) st n = .error (n, c) := by
  rw [rdRows, h]
end Kx

namespace Kx
open PySem PySem.Spec PyProof.Rows L2 TL
/-! ### steps that are written -/
/-- a name's piece -/
structure NmT (t : Tok) (z : Str) : Prop where
  k : t.k = "name"
  v : t.v = .tx z
theorem NmT.own {t : Tok} {z : Str} (h : NmT t z) : t.own = "" := by
  unfold Tok.own
  rw [h.k]
  exact if_neg (show ¬ ("name" : Str) = "own" by decide +kernel)
theorem NmT.says {t : Tok} {z : Str} (h : NmT t z) : RdSays rdName z [t] fun _ => True := name_says h.k h.v
theorem nmT_word {sp : Nat} {z : Str} (h : z ∉ owns) : NmT (tokW sp z) z := ⟨if_neg h, rfl⟩
theorem own_word {sp : Nat} {z : Str} (h : z ∈ owns) : (tokW sp z).own = z := by
  unfold Tok.own tokW
  dsimp only
  rw [if_pos h, if_pos rfl]
  rfl
theorem new_says {t1 t2 : Tok} {z : Str} (h1 : t1.own = "as") (h2 : NmT t2 z) : RdSays rdNew z [t1, t2] fun _ => True := by
  have a : RdSays (rdWord ["as"]) t1.own [t1] fun _ => True := word_says (by rw [h1]; exact List.mem_cons_self)
  exact thenA_says (k := fun _ ps j => rdName ps j) a h2.says fun _ _ => trivial
theorem mapped_says {e : Ex} {ts : List Tok} {r : Nat} {t1 t2 : Tok} {z : Str} (h : Pt 100 1 e ts r) (hr : 0 < r) (hg : largeE e = false) (h1 : t1.own = "as") (h2 : NmT t2 z) : RdSays rdMapped (e, z) (ts ++ [t1, t2]) fun _ => True := by
  refine thenA_says (k := fun (e : Ex) ps j => if e.word = ("column" : Str) ∧ ownW ps j ≠ "as" then .ok ((e, e.colN), j) else thenA (rdNew ps j) fun z k => .ok ((e, z), k)) (expr_says h hr hg) (us := [t1, t2]) (ok2 := fun _ => True) ?_ fun rest _ => ?_
  · intro ps i all at_ rest h3 _
    have hw : ownW ps i = "as" := (own_rst h3).trans h1
    dsimp only
    rw [if_neg (fun z => z.2 hw), new_says h1 h2 ps i all at_ rest h3 trivial]
    rfl
  · show levW t1.own = 0
    rw [h1]
    decide +kernel
theorem mapped_alone {c : Str} {t : Tok} (h : NmT t c) : RdSays rdMapped (.col c, c) [t] fun rest => ownH rest = "," ∨ rest = [] := fun ps i all at_ rest hr hk => by
  have hp : Pt 100 1 (.col c) [t] 100 := .op (.leaf (by
    unfold leafT leafP
    rw [h.k, h.v]
    dsimp only
    rw [if_neg (by decide +kernel), if_pos rfl]) (by rw [h.k]; decide +kernel))
  have hn : nlev rest = 0 ∧ ownH rest ≠ "as" := by
    unfold nlev
    rcases hk with hk | rfl
    · rw [hk]
      decide +kernel
    · decide +kernel
  have e1 := expr_says hp (by decide) (by rfl) ps i all at_ rest hr hn.1
  unfold rdMapped
  rw [e1]
  show (if Ex.word (.col c) = "column" ∧ ownW ps (i + 1) ≠ "as" then _ else _) = _
  rw [if_pos ⟨rfl, by rw [own_hd (Rst'.next hr)]; exact hn.2⟩]
  rfl
theorem step_says {t1 t2 t3 : Tok} {nm wh : Str} {r : Rst} {L : List Tok} {ok : List Tok → Prop} (h1 : NmT t1 nm) (h2 : t2.own = "=") (h3 : t3.own = wh) (hw : wh ∈ seven) (h : RdSays (rdRest wh) r L ok) : RdSays rdStep (.step nm wh r) (t1 :: t2 :: t3 :: L) ok := fun ps i all at_ rest hr hok => by
  have ho : ¬ ownW ps i = "read" := by
    rw [show ownW ps i = t1.own from own_rst hr, h1.own]
    decide +kernel
  have a : RdSays (rdWord ["="]) t2.own [t2] fun _ => True := word_says (by rw [h2]; exact List.mem_cons_self)
  have b : RdSays (rdWord seven) t3.own [t3] fun _ => True := word_says (by rw [h3]; exact hw)
  rw [h3] at b
  have c1 : RdSays (fun ps i => thenA (rdRest wh ps i) fun r k => .ok (Stq.step nm wh r, k)) (Stq.step nm wh r) (L ++ []) ok := fun ps i all at_ rest hr hok => by
    rw [List.append_nil] at hr ⊢
    dsimp only
    rw [h ps i all at_ rest hr hok]
    rfl
  rw [List.append_nil] at c1
  have c2 := thenA_says (k := fun wh ps j3 => thenA (rdRest wh ps j3) fun r k => .ok (Stq.step nm wh r, k)) b c1 fun _ _ => trivial
  have c3 := thenA_says (k := fun _ ps j2 => thenA (rdWord seven ps j2) fun wh j3 => thenA (rdRest wh ps j3) fun r k => .ok (Stq.step nm wh r, k)) a c2 fun _ _ => trivial
  have c4 := thenA_says (k := fun nm ps j => thenA (rdWord ["="] ps j) fun _ j2 => thenA (rdWord seven ps j2) fun wh j3 => thenA (rdRest wh ps j3) fun r k => .ok (Stq.step nm wh r, k)) h1.says c3 fun _ _ => trivial
  unfold rdStep
  rw [if_neg ho]
  exact c4 ps i all at_ rest hr hok
theorem mapR_says {A B : Type} {g : A → B} {rd : Rdg A} {a : A} {ts : List Tok} {ok : List Tok → Prop} (h : RdSays rd a ts ok) : RdSays (mapR g rd) (g a) ts ok := fun ps i all at_ rest hr hok => by
  unfold mapR
  rw [h ps i all at_ rest hr hok]
  rfl
theorem one_says {t : Tok} {x : Str} (h : NmT t x) : RdSays rdOne [x] [t] fun _ => True := mapR_says (g := fun z => [z]) h.says
theorem rdThen_says {A B : Type} {rx : Rdg A} {w : Str} {ry : Rdg B} {a : A} {b : B} {t : Tok} {ts us : List Tok} {ok1 ok : List Tok → Prop} (h1 : RdSays rx a ts ok1) (hw : t.own = w) (h2 : RdSays ry b us ok) (hk : ∀ r, ok1 (t :: r)) : RdSays (rdThen rx w ry) (a, b) (ts ++ t :: us) ok := by
  have x : RdSays (rdWord [w]) t.own [t] fun _ => True := word_says (by rw [hw]; exact List.mem_cons_self)
  have c1 : RdSays (fun ps i => thenA (ry ps i) fun b k => .ok ((a, b), k)) (a, b) us ok := mapR_says (g := fun b => (a, b)) h2
  have c2 := thenA_says (k := fun _ ps j2 => thenA (ry ps j2) fun b k => .ok ((a, b), k)) x c1 fun _ _ => trivial
  exact thenA_says (k := fun a ps j => thenA (rdWord [w] ps j) fun _ j2 => thenA (ry ps j2) fun b k => .ok ((a, b), k)) h1 c2 fun r _ => hk _
theorem rest_map_eq : rdRest "map" = mapR (fun x => (x.1, .map x.2)) (rdThen rdOne "to" (rdList rdMapped)) := by
  unfold rdRest
  rw [if_neg (show ¬ ("map" : Str) = "filter" by decide +kernel), if_pos rfl]
theorem rest_filter_eq : rdRest "filter" = mapR (fun x => (x.1, .filter x.2)) (rdThen rdOne "where" rdExpr) := by
  unfold rdRest
  rw [if_pos rfl]
theorem rest_map {t1 t2 : Tok} {x : Str} {xs : List (Ex × Str)} {L : List Tok} {ok : List Tok → Prop} (h1 : NmT t1 x) (h2 : t2.own = "to") (h : RdSays (rdList rdMapped) xs L ok) : RdSays (rdRest "map") ([x], .map xs) (t1 :: t2 :: L) ok := by
  rw [rest_map_eq]
  exact mapR_says (g := fun x => (x.1, Dt.map x.2)) (rdThen_says (one_says h1) h2 h fun _ => trivial)
theorem rest_filter {t1 t2 : Tok} {x : Str} {e : Ex} {L : List Tok} {ok : List Tok → Prop} (h1 : NmT t1 x) (h2 : t2.own = "where") (h : RdSays rdExpr e L ok) : RdSays (rdRest "filter") ([x], .filter e) (t1 :: t2 :: L) ok := by
  rw [rest_filter_eq]
  exact mapR_says (g := fun x => (x.1, Dt.filter x.2)) (rdThen_says (one_says h1) h2 h fun _ => trivial)
/-! ### and where they are wrong -/
def RdErr {A : Type} (rd : Rdg A) (n : Nat) (ts : List Tok) (ok : List Tok → Prop) : Prop := ∀ (ps : List Pc) (i all at_ : Nat) (rest : List Tok), Rst' ps i all at_ (ts ++ rest) → ok rest → rd ps i = .error (i + n)
theorem thenA_err1 {A B : Type} {rd : Rdg A} {k : A → Rdg B} {n : Nat} {ts : List Tok} {ok : List Tok → Prop} (h : RdErr rd n ts ok) : RdErr (fun ps i => thenA (rd ps i) fun a j => k a ps j) n ts ok := fun ps i all at_ rest hr hok => by
  dsimp only
  rw [h ps i all at_ rest hr hok]
  rfl
theorem thenA_err {A B : Type} {rd : Rdg A} {k : A → Rdg B} {a : A} {n : Nat} {ts us : List Tok} {ok1 ok2 : List Tok → Prop} (h1 : RdSays rd a ts ok1) (h2 : RdErr (k a) n us ok2) (hok : ∀ rest, ok2 rest → ok1 (us ++ rest)) : RdErr (fun ps i => thenA (rd ps i) fun a j => k a ps j) (ts.length + n) (ts ++ us) ok2 := fun ps i all at_ rest hr hok2 => by
  rw [List.append_assoc] at hr
  have e1 := h1 ps i all at_ (us ++ rest) hr (hok rest hok2)
  have e2 := h2 ps (i + ts.length) all _ rest hr.skip hok2
  dsimp only
  rw [e1]
  show k a ps (i + ts.length) = _
  rw [e2, Nat.add_assoc]
theorem mapR_err {A B : Type} {g : A → B} {rd : Rdg A} {n : Nat} {ts : List Tok} {ok : List Tok → Prop} (h : RdErr rd n ts ok) : RdErr (mapR g rd) n ts ok := thenA_err1 (k := fun a _ j => .ok (g a, j)) h
theorem list_err {A : Type} {rd : Rdg A} {n : Nat} {ts : List Tok} {ok : List Tok → Prop} (h : RdErr rd n ts ok) : RdErr (rdList rd) n ts ok := thenA_err1 (k := fun a ps j => rdItems rd ps ps.length [a] j) h
theorem step_err {t1 t2 t3 : Tok} {nm wh : Str} {n : Nat} {L : List Tok} {ok : List Tok → Prop} (h1 : NmT t1 nm) (h2 : t2.own = "=") (h3 : t3.own = wh) (hw : wh ∈ seven) (h : RdErr (rdRest wh) n L ok) : RdErr rdStep (3 + n) (t1 :: t2 :: t3 :: L) ok := fun ps i all at_ rest hr hok => by
  have ho : ¬ ownW ps i = "read" := by
    rw [show ownW ps i = t1.own from own_rst hr, h1.own]
    decide +kernel
  have a : RdSays (rdWord ["="]) t2.own [t2] fun _ => True := word_says (by rw [h2]; exact List.mem_cons_self)
  have b : RdSays (rdWord seven) t3.own [t3] fun _ => True := word_says (by rw [h3]; exact hw)
  rw [h3] at b
  have c1 : RdErr (fun ps i => thenA (rdRest wh ps i) fun r k => .ok (Stq.step nm wh r, k)) n L ok := thenA_err1 (k := fun r _ k => .ok (Stq.step nm wh r, k)) h
  have c2 := thenA_err (k := fun wh ps j3 => thenA (rdRest wh ps j3) fun r k => .ok (Stq.step nm wh r, k)) b c1 fun _ _ => trivial
  have c3 := thenA_err (k := fun _ ps j2 => thenA (rdWord seven ps j2) fun wh j3 => thenA (rdRest wh ps j3) fun r k => .ok (Stq.step nm wh r, k)) a c2 fun _ _ => trivial
  have c4 := thenA_err (k := fun nm ps j => thenA (rdWord ["="] ps j) fun _ j2 => thenA (rdWord seven ps j2) fun wh j3 => thenA (rdRest wh ps j3) fun r k => .ok (Stq.step nm wh r, k)) h1.says c3 fun _ _ => trivial
  unfold rdStep
  rw [if_neg ho]
  have := c4 ps i all at_ rest hr hok
  rw [show 3 + n = ([t1] : List Tok).length + (([t2] : List Tok).length + (([t3] : List Tok).length + n)) by show 3 + n = 1 + (1 + (1 + n)); omega]
  exact this
theorem rest_map_err {t1 t2 : Tok} {x : Str} {n : Nat} {L : List Tok} {ok : List Tok → Prop} (h1 : NmT t1 x) (h2 : t2.own = "to") (h : RdErr rdMapped n L ok) : RdErr (rdRest "map") (2 + n) (t1 :: t2 :: L) ok := by
  rw [rest_map_eq]
  have a : RdSays (rdWord ["to"]) t2.own [t2] fun _ => True := word_says (by rw [h2]; exact List.mem_cons_self)
  have c1 : RdErr (fun ps i => thenA (rdList rdMapped ps i) fun b k => .ok ((([x] : List Str), b), k)) n L ok := thenA_err1 (k := fun b _ k => .ok ((([x] : List Str), b), k)) (list_err h)
  have c2 := thenA_err (k := fun _ ps j2 => thenA (rdList rdMapped ps j2) fun b k => .ok ((([x] : List Str), b), k)) a c1 fun _ _ => trivial
  have c3 := thenA_err (k := fun (a : List Str) ps j => thenA (rdWord ["to"] ps j) fun _ j2 => thenA (rdList rdMapped ps j2) fun b k => .ok ((a, b), k)) (one_says h1) c2 fun _ _ => trivial
  have c4 := mapR_err (g := fun (x : List Str × List (Ex × Str)) => (x.1, Dt.map x.2)) c3
  intro ps i all at_ rest hr hok
  have := c4 ps i all at_ rest hr hok
  rw [show 2 + n = ([t1] : List Tok).length + (([t2] : List Tok).length + n) by show 2 + n = 1 + (1 + n); omega]
  exact this
theorem expr_err {e : Ex} {ts : List Tok} {r : Nat} (h : Pt 100 1 e ts r) (hr : 0 < r) (hg : largeE e = true) : RdErr rdExpr ts.length ts fun rest => nlev rest = 0 := fun ps i all at_ rest h1 h2 => by
  have := pt_says 100 1 e ts r h ps i all at_ rest h1 (by omega) (by omega)
  rw [if_pos ⟨rfl, hg⟩] at this
  exact this
theorem mapped_err {n : Nat} {ts : List Tok} {ok : List Tok → Prop} (h : RdErr rdExpr n ts ok) : RdErr rdMapped n ts ok := thenA_err1 (k := fun (e : Ex) ps j => if e.word = ("column" : Str) ∧ ownW ps j ≠ "as" then .ok ((e, e.colN), j) else thenA (rdNew ps j) fun z k => .ok ((e, z), k)) h
end Kx

namespace Kx
open PySem PySem.Spec PyProof.Rows L2 TL
theorem laysOk_of {tail : List Nat} (ht : TailOk tail) : ∀ {ts : List Tok}, (LaysOk ts []) → True := fun _ => trivial
def LaysOn : List Tok → List Nat → Prop
  | [], _ => True
  | t :: r, tail => Fits t (layT r tail) ∧ LaysOn r tail
theorem laysOk {tail : List Nat} (ht : TailOk tail) : ∀ {ts : List Tok}, LaysOn ts tail → LaysOk ts tail
  | [], _ => ht
  | _ :: _, ⟨h, r⟩ => ⟨h, laysOk ht r⟩
theorem laysOn_append {tail : List Nat} : ∀ {a b : List Tok}, LaysOn a (layT b tail) → LaysOn b tail → LaysOn (a ++ b) tail
  | [], _, _, h => h
  | t :: a, b, ⟨h1, h2⟩, h => by
    refine ⟨?_, laysOn_append h2 h⟩
    show Fits t (layT (a ++ b) tail)
    rw [layT_append]
    exact h1
theorem layT_tail (ts : List Tok) (tail : List Nat) : layT ts tail = layT ts [] ++ tail := by
  induction ts with
  | nil => rfl
  | cons t r ih =>
    show List.replicate t.sp 32 ++ (t.w ++ layT r tail) = List.replicate t.sp 32 ++ (t.w ++ layT r []) ++ tail
    rw [ih, List.append_assoc, List.append_assoc]
theorem noRun_nil : noRun [] := fun c r h => by cases h
theorem noRun_cons {c : Nat} {r : List Nat} (h : isRun c = false) : noRun (c :: r) := fun d r' e => by
  injection e with e1 e2
  rw [← e1]
  exact h
theorem noRun_tail {l : List Nat} (h : TailOk l) : noRun l := by
  cases h with
  | nil => exact noRun_nil
  | hash r => exact noRun_cons (by decide)
  | blank _ => exact noRun_cons (by decide)
theorem noRun_sp {t : Tok} {r : List Tok} {tail : List Nat} (h : 0 < t.sp) : noRun (layT (t :: r) tail) := by
  obtain ⟨n, hn⟩ : ∃ n, t.sp = n + 1 := ⟨t.sp - 1, by omega⟩
  show noRun (List.replicate t.sp 32 ++ _)
  rw [hn, List.replicate_succ, List.cons_append]
  exact noRun_cons (by decide)
theorem noRun_sign {sp c : Nat} {r : List Tok} {tail : List Nat} (h : isRun c = false) : noRun (layT (tokS sp c :: r) tail) := by
  cases sp with
  | zero =>
    show noRun (c :: layT r tail)
    exact noRun_cons h
  | succ n => exact noRun_sp (Nat.succ_pos n)
/-! ### more room does no harm -/
theorem OpnR.up {Q Q' : PtP} (h : ∀ l e ts r, Q l e ts r → Q' l e ts r) {l : Nat} {e : Ex} {ts : List Tok} {r : Nat} (o : OpnR Q l e ts r) : OpnR Q' l e ts r := by
  cases o with
  | leaf a b => exact .leaf a b
  | nt a b c => exact .nt a b (h _ _ _ _ c)
  | mn a b => exact .mn a (h _ _ _ _ b)
  | par a b c d e => exact .par a b c d (h _ _ _ _ e)
  | ln a b c d e f => exact .ln a b c d e (h _ _ _ _ f)
theorem LpR.up {Q Q' : PtP} (h : ∀ l e ts r, Q l e ts r → Q' l e ts r) {l : Nat} {e : Ex} {ts : List Tok} {r : Nat} (o : LpR Q l e ts r) : LpR Q' l e ts r := by
  induction o with
  | op a => exact .op (a.up h)
  | two _ a b c d e ih => exact .two ih a b c d (h _ _ _ _ e)
theorem Pt.succ : ∀ (f : Nat) (l : Nat) (e : Ex) (ts : List Tok) (r : Nat), Pt f l e ts r → Pt (f + 1) l e ts r
  | 0, _, _, _, _, h => h.elim
  | f + 1, l, e, ts, r, h => LpR.up (Pt.succ f) (h : LpR (Pt f) l e ts r)
theorem Pt.le {f g : Nat} (hfg : f ≤ g) {l : Nat} {e : Ex} {ts : List Tok} {r : Nat} (h : Pt f l e ts r) : Pt g l e ts r := by
  induction hfg with
  | refl => exact h
  | step _ ih => exact Pt.succ _ _ _ _ _ ih
/-! ### what is written, and how -/
def bl (g : Nat) : Str := mkS (List.replicate g 32)
theorem tl_bl (g : Nat) : tl (bl g) = List.replicate g 32 := rfl
def good (x : Str) : Prop := wordB x = true ∧ x ∉ owns ∧ x.length ≤ 10
def ops13 : List Str := ["=", "!=", "<", "<=", ">", ">=", "+", "-", "*", "/", "mod", "and", "or"]
def opsW : List Str := ["mod", "and", "or"]
def ExW : Ex → Prop
  | .num i => 0 ≤ i ∧ i < 6
  | .quo z => 34 ∉ tl z ∧ 10 ∉ tl z ∧ z.length ≤ 10
  | .col x => good x
  | .two op a b => op ∈ ops13 ∧ ExW a ∧ ExW b
  | .nt a => ExW a
  | .mn a => ExW a
  | .ln a => ExW a
structure Lay (z : Str) (T : Nat → List Tok) (n : Nat) : Prop where
  tl : ∀ s, layT (T s) [] = List.replicate s 32 ++ tl z
  lay : ∀ s tail, noRun tail → LaysOn (T s) tail
  nb : ∀ s, nbr (T s) ≤ n
  hd : ∃ c q, TL.tl z = c :: q ∧ c ≠ 61
  no10 : 10 ∉ TL.tl z
theorem Lay.head {z : Str} {T : Nat → List Tok} {n : Nat} (h : Lay z T n) (s : Nat) (tail : List Nat) : ∀ r, layT (T s) tail ≠ 61 :: r := fun r e => by
  rw [layT_tail, h.tl] at e
  obtain ⟨c, q, e1, h1⟩ := h.hd
  rw [e1] at e
  cases s with
  | zero =>
    injection e with e2
    exact h1 e2
  | succ s =>
    rw [List.replicate_succ] at e
    injection e with e2
    cases e2
theorem Lay.run {z : Str} {T : Nat → List Tok} {n : Nat} (h : Lay z T n) (s : Nat) (hs : 0 < s) (tail : List Nat) : noRun (layT (T s) tail) := by
  rw [layT_tail, h.tl]
  obtain ⟨s', rfl⟩ : ∃ s', s = s' + 1 := ⟨s - 1, by omega⟩
  rw [List.replicate_succ]
  exact noRun_cons (by decide)
theorem fits_par {sp c : Nat} {l : List Nat} (hc : c ∈ [40, 41, 44, 45, 43, 42, 47, 58]) : Fits (tokS sp c) l :=
  fits_sign ((show ∀ c ∈ [40, 41, 44, 45, 43, 42, 47, 58], c ∈ shorts by decide) c hc) (fun z => by
    have : ∀ c ∈ [40, 41, 44, 45, 43, 42, 47, 58], c ≠ 60 ∧ c ≠ 62 := by decide
    have h := this c hc
    rcases z with z | z
    · exact absurd z h.1
    · exact absurd z h.2)
theorem br_l (sp : Nat) : isBr (tokS sp 40).k (tokS sp 40).v = true := by
  show isBr "own" (.tx (mkS [40])) = true
  decide +kernel
theorem br_r (sp : Nat) : isBr (tokS sp 41).k (tokS sp 41).v = true := by
  show isBr "own" (.tx (mkS [41])) = true
  decide +kernel
theorem nbr1 (t : Tok) : nbr [t] ≤ 1 := by
  show (if isBr t.k t.v = true then 0 else 1) + 0 ≤ 1
  split <;> decide
theorem nbr_cons (t : Tok) (r : List Tok) : nbr (t :: r) ≤ 1 + nbr r := by
  show (if isBr t.k t.v = true then 0 else 1) + nbr r ≤ 1 + nbr r
  split <;> omega
theorem nbr_brl (sp : Nat) (r : List Tok) : nbr (tokS sp 40 :: r) = nbr r := by
  show (if isBr (tokS sp 40).k (tokS sp 40).v = true then 0 else 1) + nbr r = nbr r
  rw [if_pos (br_l sp), Nat.zero_add]
theorem nbr_brr (sp : Nat) : nbr [tokS sp 41] = 0 := by
  show (if isBr (tokS sp 41).k (tokS sp 41).v = true then 0 else 1) + 0 = 0
  rw [if_pos (br_r sp)]
theorem tlc {a b : Str} : tl (a ++ b) = tl a ++ tl b := tl_append a b
theorem lay_par {z : Str} {T : Nat → List Tok} {n : Nat} (h : Lay z T n) : Lay ("(" ++ z ++ ")") (fun s => tokS s 40 :: (T 0 ++ [tokS 0 41])) n := by
  have e1 : tl ("(" ++ z ++ ")" : Str) = 40 :: (tl z ++ [41]) := by
    rw [tlc, tlc, show tl ("(" : Str) = [40] by decide +kernel, show tl (")" : Str) = [41] by decide +kernel]
    rfl
  refine ⟨fun s => ?_, fun s tail ht => ⟨fits_par (by decide), laysOn_append (h.lay 0 _ (noRun_sign (by decide))) ⟨fits_par (by decide), trivial⟩⟩, fun s => ?_, ⟨40, _, e1, by decide⟩, fun c => ?_⟩
  · show List.replicate s 32 ++ ([40] ++ layT (T 0 ++ [tokS 0 41]) []) = _
    rw [layT_append, layT_tail, h.tl 0, e1]
    rfl
  · show nbr (tokS s 40 :: (T 0 ++ [tokS 0 41])) ≤ n
    rw [nbr_brl, nbr_append, nbr_brr]
    exact h.nb 0
  · rw [e1] at c
    rcases List.mem_cons.mp c with c | c
    · cases c
    · rcases List.mem_append.mp c with c | c
      · exact h.no10 c
      · cases List.mem_singleton.mp c
theorem lay_ln {z : Str} {T : Nat → List Tok} {n : Nat} (h : Lay z T n) (g : Nat) : Lay ("length" ++ bl g ++ "(" ++ z ++ ")") (fun s => tokW s "length" :: tokS g 40 :: (T 0 ++ [tokS 0 41])) (n + 1) := by
  have e1 : tl ("length" ++ bl g ++ "(" ++ z ++ ")" : Str) = tl ("length" : Str) ++ (List.replicate g 32 ++ (40 :: (tl z ++ [41]))) := by
    rw [tlc, tlc, tlc, tlc, show tl ("(" : Str) = [40] by decide +kernel, show tl (")" : Str) = [41] by decide +kernel, tl_bl]
    simp
  refine ⟨fun s => ?_, fun s tail ht => ⟨fits_word (by decide +kernel) (noRun_sign (by decide)), fits_par (by decide), laysOn_append (h.lay 0 _ (noRun_sign (by decide))) ⟨fits_par (by decide), trivial⟩⟩, fun s => ?_, ?_, fun c => ?_⟩
  · show List.replicate s 32 ++ (tl "length" ++ (List.replicate g 32 ++ ([40] ++ layT (T 0 ++ [tokS 0 41]) []))) = _
    rw [layT_append, layT_tail, h.tl 0, e1]
    rfl
  · refine Nat.le_trans (nbr_cons _ _) ?_
    rw [nbr_brl, nbr_append, nbr_brr]
    have := h.nb 0
    omega
  · rw [e1, show tl ("length" : Str) = [108, 101, 110, 103, 116, 104] by decide +kernel]
    exact ⟨108, _, rfl, by decide⟩
  · rw [e1] at c
    rcases List.mem_append.mp c with c | c
    · revert c; decide +kernel
    · rcases List.mem_append.mp c with c | c
      · cases List.eq_of_mem_replicate c
      · rcases List.mem_cons.mp c with c | c
        · cases c
        · rcases List.mem_append.mp c with c | c
          · exact h.no10 c
          · cases List.mem_singleton.mp c
theorem lay_nt {z : Str} {T : Nat → List Tok} {n : Nat} (h : Lay z T n) : Lay ("not " ++ z) (fun s => tokW s "not" :: T 1) (n + 1) := by
  have e1 : tl ("not " ++ z : Str) = tl ("not" : Str) ++ (32 :: tl z) := by
    rw [tlc, show tl ("not " : Str) = tl ("not" : Str) ++ [32] by decide +kernel, List.append_assoc]
    rfl
  refine ⟨fun s => ?_, fun s tail ht => ⟨fits_word (by decide +kernel) (h.run 1 (by decide) _), h.lay 1 _ ht⟩, fun s => ?_, ?_, fun c => ?_⟩
  · show List.replicate s 32 ++ (tl "not" ++ layT (T 1) []) = _
    rw [h.tl 1, e1]
    rfl
  · refine Nat.le_trans (nbr_cons _ _) ?_
    have := h.nb 1
    omega
  · rw [e1, show tl ("not" : Str) = [110, 111, 116] by decide +kernel]
    exact ⟨110, _, rfl, by decide⟩
  · rw [e1] at c
    rcases List.mem_append.mp c with c | c
    · revert c; decide +kernel
    · rcases List.mem_cons.mp c with c | c
      · cases c
      · exact h.no10 c
theorem lay_mn {z : Str} {T : Nat → List Tok} {n : Nat} (h : Lay z T n) (g : Nat) : Lay ("-" ++ bl g ++ z) (fun s => tokS s 45 :: T g) (n + 1) := by
  have e1 : tl ("-" ++ bl g ++ z : Str) = 45 :: (List.replicate g 32 ++ tl z) := by
    rw [tlc, tlc, show tl ("-" : Str) = [45] by decide +kernel, tl_bl]
    rfl
  refine ⟨fun s => ?_, fun s tail ht => ⟨fits_par (by decide), h.lay g _ ht⟩, fun s => ?_, ⟨45, _, e1, by decide⟩, fun c => ?_⟩
  · show List.replicate s 32 ++ ([45] ++ layT (T g) []) = _
    rw [h.tl g, e1]
    rfl
  · refine Nat.le_trans (nbr_cons _ _) ?_
    have := h.nb g
    omega
  · rw [e1] at c
    rcases List.mem_cons.mp c with c | c
    · cases c
    · rcases List.mem_append.mp c with c | c
      · cases List.eq_of_mem_replicate c
      · exact h.no10 c
/-! ### signs between -/
def opT (sp : Nat) (op : Str) : Tok := ⟨sp, tl op, "own", .tx op⟩
theorem opT_own (sp : Nat) (op : Str) : (opT sp op).own = op := by
  unfold Tok.own opT
  exact if_pos rfl
theorem opT_word {sp : Nat} {op : Str} (h : op ∈ owns) : opT sp op = tokW sp op := by
  unfold opT tokW
  rw [if_pos h]
theorem opT_sign (sp c : Nat) : opT sp (mkS [c]) = tokS sp c := rfl
theorem opT_long (sp c : Nat) : opT sp (mkS [c, 61]) = tokL sp c := rfl
theorem op_fits {sp : Nat} {op : Str} {l : List Nat} (h : op ∈ ops13) (hw : op ∈ opsW → noRun l) (hs : ∀ r, l ≠ 61 :: r) : Fits (opT sp op) l := by
  have e : op ∈ (["=", "!=", "<", "<=", ">", ">=", "+", "-", "*", "/", "mod", "and", "or"] : List Str) := h
  simp only [List.mem_cons, List.not_mem_nil, or_false] at e
  rcases e with rfl | rfl | rfl | rfl | rfl | rfl | rfl | rfl | rfl | rfl | rfl | rfl | rfl
  · rw [show ("=" : Str) = mkS [61] by decide +kernel, opT_sign]; exact fits_sign (by decide) fun _ => hs
  · rw [show ("!=" : Str) = mkS [33, 61] by decide +kernel, opT_long]; exact fits_long (by decide)
  · rw [show ("<" : Str) = mkS [60] by decide +kernel, opT_sign]; exact fits_sign (by decide) fun _ => hs
  · rw [show ("<=" : Str) = mkS [60, 61] by decide +kernel, opT_long]; exact fits_long (by decide)
  · rw [show (">" : Str) = mkS [62] by decide +kernel, opT_sign]; exact fits_sign (by decide) fun _ => hs
  · rw [show (">=" : Str) = mkS [62, 61] by decide +kernel, opT_long]; exact fits_long (by decide)
  · rw [show ("+" : Str) = mkS [43] by decide +kernel, opT_sign]; exact fits_par (by decide)
  · rw [show ("-" : Str) = mkS [45] by decide +kernel, opT_sign]; exact fits_par (by decide)
  · rw [show ("*" : Str) = mkS [42] by decide +kernel, opT_sign]; exact fits_par (by decide)
  · rw [show ("/" : Str) = mkS [47] by decide +kernel, opT_sign]; exact fits_par (by decide)
  · rw [opT_word (by decide +kernel)]; exact fits_word (by decide +kernel) (hw (by decide +kernel))
  · rw [opT_word (by decide +kernel)]; exact fits_word (by decide +kernel) (hw (by decide +kernel))
  · rw [opT_word (by decide +kernel)]; exact fits_word (by decide +kernel) (hw (by decide +kernel))
theorem op_facts : ∀ op ∈ ops13, 10 ∉ tl op ∧ op.length ≤ 3 ∧ (op ∉ opsW → ∃ c q, tl op = c :: q ∧ isRun c = false) ∧ tl op ≠ [] := by
  have h : ∀ op ∈ ops13, 10 ∉ tl op ∧ op.length ≤ 3 ∧ (op ∉ opsW → ((tl op).headD 0 ≠ 0 ∧ isRun ((tl op).headD 0) = false)) ∧ tl op ≠ [] := by decide +kernel
  intro op ho
  obtain ⟨h1, h2, h3, h4⟩ := h op ho
  refine ⟨h1, h2, fun hw => ?_, h4⟩
  cases e : tl op with
  | nil => exact absurd e h4
  | cons c q =>
    have := (h3 hw).2
    rw [e] at this
    exact ⟨c, q, rfl, this⟩
theorem lay_two {z1 z2 : Str} {T1 T2 : Nat → List Tok} {n1 n2 : Nat} (h1 : Lay z1 T1 n1) (h2 : Lay z2 T2 n2) {op : Str} (ho : op ∈ ops13) (g : Nat) (hg : op ∈ opsW → 0 < g) : Lay (z1 ++ bl g ++ op ++ bl g ++ z2) (fun s => T1 s ++ opT g op :: T2 g) (n1 + 1 + n2) := by
  obtain ⟨o1, o2, o3, o4⟩ := op_facts op ho
  have e1 : tl (z1 ++ bl g ++ op ++ bl g ++ z2 : Str) = tl z1 ++ (List.replicate g 32 ++ (tl op ++ (List.replicate g 32 ++ tl z2))) := by
    rw [tlc, tlc, tlc, tlc, tl_bl]
    simp
  have hrun : ∀ tail, noRun (layT (opT g op :: T2 g) tail) := fun tail => by
    by_cases hz : 0 < g
    · exact noRun_sp hz
    · have hw : op ∉ opsW := fun c => hz (hg c)
      obtain ⟨c, q, e, hc⟩ := o3 hw
      have g0 : g = 0 := by omega
      subst g0
      show noRun (tl op ++ _)
      rw [e]
      exact noRun_cons hc
  refine ⟨fun s => ?_, fun s tail ht => laysOn_append (h1.lay s _ (hrun tail)) ⟨op_fits ho (fun hw => h2.run g (hg hw) _) (h2.head g _), h2.lay g _ ht⟩, fun s => ?_, ?_, fun c => ?_⟩
  · show layT (T1 s ++ opT g op :: T2 g) [] = _
    rw [layT_append, layT_tail, h1.tl s, e1]
    show _ ++ (List.replicate g 32 ++ (tl op ++ layT (T2 g) [])) = _
    rw [h2.tl g]
    simp
  · show nbr (T1 s ++ opT g op :: T2 g) ≤ _
    rw [nbr_append]
    have a := h1.nb s
    have b := h2.nb g
    have c := nbr_cons (opT g op) (T2 g)
    omega
  · obtain ⟨c, q, e, hc⟩ := h1.hd
    rw [e1, e]
    exact ⟨c, _, rfl, hc⟩
  · rw [e1] at c
    rcases List.mem_append.mp c with c | c
    · exact h1.no10 c
    · rcases List.mem_append.mp c with c | c
      · cases List.eq_of_mem_replicate c
      · rcases List.mem_append.mp c with c | c
        · exact o1 c
        · rcases List.mem_append.mp c with c | c
          · cases List.eq_of_mem_replicate c
          · exact h2.no10 c
end Kx

namespace Kx
open PySem PySem.Spec PyProof.Rows L2 TL
/-! ### small expressions are not large -/
theorem size_dep : ∀ e : Ex, e.size + 1 ≤ 2 ^ e.dep
  | .num _ => by show 1 + 1 ≤ 2 ^ 1; decide
  | .quo _ => by show 1 + 1 ≤ 2 ^ 1; decide
  | .col _ => by show 1 + 1 ≤ 2 ^ 1; decide
  | .two op a b => by
    have h1 := size_dep a
    have h2 := size_dep b
    have h3 : 2 ^ a.dep ≤ 2 ^ max a.dep b.dep := Nat.pow_le_pow_right (by decide) (Nat.le_max_left _ _)
    have h4 : 2 ^ b.dep ≤ 2 ^ max a.dep b.dep := Nat.pow_le_pow_right (by decide) (Nat.le_max_right _ _)
    have h5 : (Ex.two op a b).dep = max a.dep b.dep + 1 := rfl
    have h6 : (Ex.two op a b).size = a.size + b.size + 1 := rfl
    rw [h5, h6, Nat.pow_succ]
    omega
  | .nt a => by
    have h1 := size_dep a
    have h5 : (Ex.nt a).dep = a.dep + 1 := rfl
    have h6 : (Ex.nt a).size = a.size + 1 := rfl
    rw [h5, h6, Nat.pow_succ]
    omega
  | .mn a => by
    have h1 := size_dep a
    have h5 : (Ex.mn a).dep = a.dep + 1 := rfl
    have h6 : (Ex.mn a).size = a.size + 1 := rfl
    rw [h5, h6, Nat.pow_succ]
    omega
  | .ln a => by
    have h1 := size_dep a
    have h5 : (Ex.ln a).dep = a.dep + 1 := rfl
    have h6 : (Ex.ln a).size = a.size + 1 := rfl
    rw [h5, h6, Nat.pow_succ]
    omega
theorem rows_le : ∀ (f : Nat) (r : List Ex), (rowsL f r).sum ≤ sumS r ∧ (rowsL f r).length ≤ f
  | 0, r => ⟨Nat.zero_le _, Nat.le_refl _⟩
  | f + 1, [] => ⟨Nat.zero_le _, Nat.zero_le _⟩
  | f + 1, e :: r => by
    have h := rows_le f (nextR (e :: r))
    have hn := next_size (e :: r)
    show ((e :: r).length :: rowsL f (nextR (e :: r))).sum ≤ _ ∧ ((e :: r).length :: rowsL f (nextR (e :: r))).length ≤ _
    have hl : (e :: r).length = r.length + 1 := rfl
    refine ⟨?_, ?_⟩
    · rw [List.sum_cons]
      omega
    · rw [List.length_cons]
      omega
theorem not_large {e : Ex} (h : e.dep ≤ 5) : largeE e = false := by
  have h1 := rows_le e.dep [e]
  have h2 := size_dep e
  have h3 : 2 ^ e.dep ≤ 2 ^ 5 := Nat.pow_le_pow_right (by decide) h
  have h4 : sumS [e] = e.size := by show e.size + 0 = _; rfl
  rw [h4] at h1
  unfold largeE
  rw [Bool.or_eq_false_iff]
  exact ⟨decide_eq_false (by omega), decide_eq_false (by omega)⟩
/-! ### an expression written out -/
structure Wp (z : Str) (e : Ex) (f L : Nat) : Prop where
  ex : ∃ T r, Lay z T e.size ∧ (∀ s l, 1 ≤ l → l ≤ max L 1 → Pt f l e (T s) r) ∧ L ≤ r ∧ 0 < r ∧ (L = 1 ∨ L = 2 ∨ L = 5 ∨ L = 6 → L < r)
theorem Wp.up {z : Str} {e : Ex} {f g L : Nat} (h : Wp z e f L) (hfg : f ≤ g) : Wp z e g L := by
  obtain ⟨T, r, a, b, c⟩ := h.ex
  exact ⟨⟨T, r, a, fun s l h1 h2 => Pt.le hfg (b s l h1 h2), c⟩⟩
theorem Wp.low {z : Str} {e : Ex} {f L M : Nat} (h : Wp z e f L) (hM : M ≤ L) : Wp z e f M := by
  obtain ⟨T, r, a, b, c1, c2, c3⟩ := h.ex
  refine ⟨⟨T, r, a, fun s l h1 h2 => b s l h1 (by omega), by omega, c2, fun hm => ?_⟩⟩
  by_cases hML : M = L
  · subst hML
    exact c3 hm
  · omega
theorem wp_any {z : Str} {e : Ex} {f : Nat} {T : Nat → List Tok} (h : Lay z T e.size) (hp : ∀ s l, Pt f l e (T s) 100) : Wp z e f 100 :=
  ⟨⟨T, 100, h, fun s l _ _ => hp s l, Nat.le_refl _, by decide, fun z => by omega⟩⟩
/-- a number, as str writes it -/
def numZ (i : Int) : Str := Str.ofString (toString i)
theorem num_facts : (List.range 6).all (fun k => decide (NumText.digitsVal (tl (numZ (k : Int))) = k) && isNumB (tl (numZ (k : Int))) && (tl (numZ (k : Int))).all isFig && decide (10 ∉ tl (numZ (k : Int))) && decide ((tl (numZ (k : Int))).headD 61 ≠ 61) && decide ((numZ (k : Int)).length ≤ 20)) = true := by decide +kernel
theorem wp_num {k : Nat} (hk : k < 6) : Wp (numZ (k : Int)) (.num (k : Int)) 1 100 := by
  have h := List.all_eq_true.mp num_facts k (List.mem_range.mpr hk)
  simp only [Bool.and_eq_true] at h
  obtain ⟨⟨⟨⟨⟨h1, h2⟩, h3⟩, h4⟩, h5⟩, h6⟩ := h
  have h5 := of_decide_eq_true h5
  have h4 := of_decide_eq_true h4
  refine wp_any (T := fun s => [tokN s k (tl (numZ (k : Int)))]) ⟨fun s => ?_, fun s tail ht => ⟨fits_num (of_decide_eq_true h1) h2 h3 (fun z => h5 (by rw [z]; rfl)) ht, trivial⟩, fun s => nbr1 _, ?_, h4⟩ (fun s l => LpR.op (.leaf ?_ ?_))
  · show List.replicate s 32 ++ (tl (numZ (k : Int)) ++ []) = _
    rw [List.append_nil]
  · cases e : tl (numZ (k : Int)) with
    | nil => rw [e] at h5; exact absurd rfl h5
    | cons c q => rw [e] at h5; exact ⟨c, q, rfl, h5⟩
  · show leafP ⟨"number", .nm k, 0⟩ = _
    unfold leafP
    exact if_pos rfl
  · show ¬ ("number" : Str) = "own"
    decide +kernel
theorem wp_quo {q : Str} (h34 : 34 ∉ tl q) (h10 : 10 ∉ tl q) : Wp ("\"" ++ q ++ "\"") (.quo q) 1 100 := by
  have e1 : tl ("\"" ++ q ++ "\"" : Str) = 34 :: (tl q ++ [34]) := by
    rw [tlc, tlc, show tl ("\"" : Str) = [34] by decide +kernel]
    rfl
  refine wp_any (T := fun s => [tokQ s q]) ⟨fun s => ?_, fun s tail ht => ⟨fits_quo h34, trivial⟩, fun s => nbr1 _, ⟨34, _, e1, by decide⟩, fun c => ?_⟩ (fun s l => LpR.op (.leaf ?_ ?_))
  · show List.replicate s 32 ++ ((34 :: (tl q ++ [34])) ++ []) = _
    rw [List.append_nil, e1]
  · rw [e1] at c
    rcases List.mem_cons.mp c with c | c
    · cases c
    · rcases List.mem_append.mp c with c | c
      · exact h10 c
      · cases List.mem_singleton.mp c
  · show leafP ⟨"quoted", .tx q, 0⟩ = _
    unfold leafP
    exact if_pos rfl
  · show ¬ ("quoted" : Str) = "own"
    decide +kernel
theorem good_facts {x : Str} (h : good x) : 10 ∉ tl x ∧ (∃ c q, tl x = c :: q ∧ c ≠ 61) ∧ x.length ≤ 10 := by
  obtain ⟨h1, _, h3⟩ := h
  unfold wordB at h1
  cases e : tl x with
  | nil => rw [e] at h1; cases h1
  | cons c q =>
    rw [e] at h1
    dsimp only at h1
    rw [Bool.and_eq_true, List.all_eq_true] at h1
    refine ⟨fun z => ?_, ⟨c, q, rfl, fun z => ?_⟩, h3⟩
    · have := h1.2 10 z
      revert this
      decide
    · rw [z] at h1
      have := h1.1
      revert this
      decide
theorem lay_word {x : Str} (h : good x) : Lay x (fun s => [tokW s x]) 1 := by
  obtain ⟨h1, h2, h3⟩ := good_facts h
  refine ⟨fun s => ?_, fun s tail ht => ⟨fits_word h.1 ht, trivial⟩, fun s => nbr1 _, h2, h1⟩
  show List.replicate s 32 ++ (tl x ++ []) = _
  rw [List.append_nil]
theorem wp_col {x : Str} (h : good x) : Wp x (.col x) 1 100 := by
  refine wp_any (lay_word h) (fun s l => LpR.op (.leaf ?_ ?_))
  · show leafP ⟨if x ∈ owns then "own" else "name", .tx x, 0⟩ = _
    rw [if_neg h.2.1]
    unfold leafP
    dsimp only
    rw [if_neg (by decide +kernel), if_pos rfl]
  · show ¬ (if x ∈ owns then ("own" : Str) else "name") = "own"
    rw [if_neg h.2.1]
    decide +kernel
theorem len2 (a b : Str) : (a ++ b).length = a.length + b.length := by
  rw [len_tl, tlc, List.length_append, ← len_tl, ← len_tl]
theorem wp_par {z : Str} {e : Ex} {f L : Nat} (h : Wp z e f L) (hg : largeE e = false) : Wp ("(" ++ z ++ ")") e (f + 1) 100 := by
  obtain ⟨T, r, a, b, c1, c2, c3⟩ := h.ex
  refine wp_any (lay_par a) (fun s l => LpR.op (.par (by show (tokS 0 40).own = _; decide +kernel) (by decide +kernel) hg c2 (b 0 1 (Nat.le_refl _) (Nat.le_max_right _ _))))
theorem bl_len (g : Nat) : (bl g).length = g := by
  rw [len_tl, tl_bl, List.length_replicate]
theorem wp_ln {z : Str} {e : Ex} {f L : Nat} (h : Wp z e f L) (hg : largeE e = false) {g : Nat} : Wp ("length" ++ bl g ++ "(" ++ z ++ ")") (.ln e) (f + 1) 100 := by
  obtain ⟨T, r, a, b, c1, c2, c3⟩ := h.ex
  have hs : (Ex.ln e).size = e.size + 1 := rfl
  refine wp_any (hs ▸ lay_ln a g) (fun s l => LpR.op (.ln (own_word (by decide +kernel)) (by show (tokS 0 40).own = _; decide +kernel) (by decide +kernel) hg c2 (b 0 1 (Nat.le_refl _) (Nat.le_max_right _ _))))
theorem wp_nt {z : Str} {e : Ex} {f : Nat} (h : Wp z e f 3) : Wp ("not " ++ z) (.nt e) (f + 1) 3 := by
  obtain ⟨T, r, a, b, c1, c2, c3⟩ := h.ex
  have hs : (Ex.nt e).size = e.size + 1 := rfl
  exact ⟨⟨_, min 3 r, hs ▸ lay_nt a, fun s l h1 h2 => LpR.op (.nt (by omega) (own_word (by decide +kernel)) (b 1 3 (by decide) (by decide))), by omega, by omega, by omega⟩⟩
theorem wp_mn {z : Str} {e : Ex} {f : Nat} (h : Wp z e f 7) {g : Nat} : Wp ("-" ++ bl g ++ z) (.mn e) (f + 1) 7 := by
  obtain ⟨T, r, a, b, c1, c2, c3⟩ := h.ex
  have hs : (Ex.mn e).size = e.size + 1 := rfl
  exact ⟨⟨_, min 7 r, hs ▸ lay_mn a g, fun s l h1 h2 => LpR.op (.mn (by show (tokS 0 45).own = _; decide +kernel) (b g 7 (by decide) (by decide))), by omega, by omega, by omega⟩⟩
def firstL (k : Nat) : Nat := if k = 4 then 5 else k
theorem lev_ops : ∀ op ∈ ops13, levW op = 1 ∨ levW op = 2 ∨ levW op = 4 ∨ levW op = 5 ∨ levW op = 6 := by decide +kernel
theorem wp_two {z1 z2 op : Str} {e1 e2 : Ex} {f k : Nat} (h1 : Wp z1 e1 f (firstL k)) (h2 : Wp z2 e2 f (k + 1)) (ho : op ∈ ops13) (hk : levW op = k) {g : Nat} (hg : op ∈ opsW → 0 < g) : Wp (z1 ++ bl g ++ op ++ bl g ++ z2) (.two op e1 e2) (f + 1) k := by
  obtain ⟨T1, r1, a1, b1, c1, c2, c3⟩ := h1.ex
  obtain ⟨T2, r2, a2, b2, x1, x2, x3⟩ := h2.ex
  obtain ⟨o1, o2, _, _⟩ := op_facts op ho
  have hkk := lev_ops op ho
  rw [hk] at hkk
  have hs : (Ex.two op e1 e2).size = e1.size + 1 + e2.size := by
    show e1.size + e2.size + 1 = _
    omega
  have hkr : k < r1 := by
    unfold firstL at c1 c3
    rcases hkk with rfl | rfl | rfl | rfl | rfl
    · exact c3 (.inl rfl)
    · exact c3 (.inr (.inl rfl))
    · exact c1
    · exact c3 (.inr (.inr (.inl rfl)))
    · exact c3 (.inr (.inr (.inr rfl)))
  have hf : k ≤ firstL k := by
    unfold firstL
    split <;> omega
  refine ⟨⟨_, min (if k = 4 then 4 else k + 1) r2, hs ▸ lay_two a1 a2 ho g hg, fun s l h3 h4 => ?_, ?_, ?_, ?_⟩⟩
  · have hl : l ≤ k := by omega
    have p1 : LpR (Pt f) l e1 (T1 s) r1 := (Pt.succ f l e1 (T1 s) r1 (b1 s l h3 (by omega)) : Pt (f + 1) l e1 (T1 s) r1)
    have p2 : Pt f (k + 1) e2 (T2 g) r2 := b2 g (k + 1) (by omega) (by omega)
    have := LpR.two (s := opT g op) p1 (by rw [opT_own]; exact hk) hl h3 hkr p2
    rw [opT_own] at this
    exact this
  · split <;> omega
  · split <;> omega
  · intro hz
    split <;> omega
end Kx

namespace Kx
open PySem PySem.Spec PyProof.Rows L2 TL
theorem tl_inj {a b : Str} (h : TL.tl a = TL.tl b) : a = b := by
  rw [← mk_tl a, ← mk_tl b, h]
/-! ### texts piece by piece -/
structure Seg (z : Str) (T : Nat → List Tok) (n : Nat) : Prop where
  tl : ∀ s, layT (T s) [] = List.replicate s 32 ++ TL.tl z
  lay : ∀ s tail, noRun tail → LaysOn (T s) tail
  nb : ∀ s, nbr (T s) ≤ n
  no10 : 10 ∉ TL.tl z
theorem Lay.seg {z : Str} {T : Nat → List Tok} {n : Nat} (h : Lay z T n) : Seg z T n := ⟨h.tl, h.lay, h.nb, h.no10⟩
theorem Seg.run {z : Str} {T : Nat → List Tok} {n : Nat} (h : Seg z T n) {s : Nat} (hs : 0 < s) (tail : List Nat) : noRun (layT (T s) tail) := by
  rw [layT_tail, h.tl]
  obtain ⟨s', rfl⟩ : ∃ s', s = s' + 1 := ⟨s - 1, by omega⟩
  rw [List.replicate_succ]
  exact noRun_cons (by decide)
theorem Seg.mono {z : Str} {T : Nat → List Tok} {n m : Nat} (h : Seg z T n) (hm : n ≤ m) : Seg z T m := ⟨h.tl, h.lay, fun s => Nat.le_trans (h.nb s) hm, h.no10⟩
theorem Seg.eq {z z' : Str} {T : Nat → List Tok} {n : Nat} (h : Seg z T n) (e : z' = z) : Seg z' T n := e ▸ h
theorem seg_cat {z1 z2 : Str} {T1 T2 : Nat → List Tok} {n1 n2 : Nat} (h1 : Seg z1 T1 n1) (g : Nat) (h2 : Seg z2 T2 n2) (hr : 0 < g ∨ ∀ tail, noRun (layT (T2 g) tail)) : Seg (z1 ++ bl g ++ z2) (fun s => T1 s ++ T2 g) (n1 + n2) := by
  have hrun : ∀ tail, noRun (layT (T2 g) tail) := by
    rcases hr with hr | hr
    · exact fun tail => h2.run hr tail
    · exact hr
  have e1 : TL.tl (z1 ++ bl g ++ z2 : Str) = TL.tl z1 ++ (List.replicate g 32 ++ TL.tl z2) := by
    rw [tlc, tlc, tl_bl, List.append_assoc]
  refine ⟨fun s => ?_, fun s tail ht => laysOn_append (h1.lay s _ (hrun tail)) (h2.lay g tail ht), fun s => ?_, fun c => ?_⟩
  · show layT (T1 s ++ T2 g) [] = _
    rw [layT_append, layT_tail, h1.tl s, h2.tl g, e1, List.append_assoc]
  · show nbr (T1 s ++ T2 g) ≤ _
    rw [nbr_append]
    exact Nat.add_le_add (h1.nb s) (h2.nb g)
  · rw [e1] at c
    rcases List.mem_append.mp c with c | c
    · exact h1.no10 c
    · rcases List.mem_append.mp c with c | c
      · cases List.eq_of_mem_replicate c
      · exact h2.no10 c
theorem seg_own {z : Str} (h : z ∈ owns) : Seg z (fun s => [tokW s z]) 1 := by
  have hw : ∀ z ∈ owns, wordB z = true ∧ 10 ∉ TL.tl z := by decide +kernel
  refine ⟨fun s => ?_, fun s tail ht => ⟨fits_word (hw z h).1 ht, trivial⟩, fun s => nbr1 _, (hw z h).2⟩
  show List.replicate s 32 ++ (TL.tl z ++ []) = _
  rw [List.append_nil]
theorem seg_name {z : Str} (h : good z) : Seg z (fun s => [tokW s z]) 1 := (lay_word h).seg
theorem seg_sign {c : Nat} (hc : c ∈ shorts) (h : c ≠ 60 ∧ c ≠ 62 ∧ c ≠ 10) : Seg (mkS [c]) (fun s => [tokS s c]) 1 := by
  refine ⟨fun s => ?_, fun s tail ht => ⟨fits_sign hc (fun z => by rcases z with z | z; exact absurd z h.1; exact absurd z h.2.1), trivial⟩, fun s => nbr1 _, fun z => h.2.2 (List.mem_singleton.mp z).symm⟩
  show List.replicate s 32 ++ ([c] ++ []) = List.replicate s 32 ++ [c]
  rfl
theorem sign_run {c : Nat} {s : Nat} (h : isRun c = false) (tail : List Nat) : noRun (layT [tokS s c] tail) := noRun_sign h
theorem cons_run {c : Nat} {s : Nat} {r : List Tok} (h : isRun c = false) (tail : List Nat) : noRun (layT (tokS s c :: r) tail) := noRun_sign h
/-! ### rows with commas -/
structure It (A : Type) where
  z : Str
  a : A
  T : Nat → List Tok
theorem join_two (z y : Str) (r : List Str) : Txt.join ", " (z :: y :: r) = z ++ bl 0 ++ mkS [44] ++ bl 1 ++ Txt.join ", " (y :: r) := by
  apply tl_inj
  rw [join_eq, tl_join, List.map_cons, List.map_cons]
  show TL.tl z ++ (TL.tl ", " ++ joinL (TL.tl ", ") (TL.tl y :: r.map TL.tl)) = _
  rw [tlc, tlc, tlc, tlc, join_eq, tl_join, List.map_cons, show TL.tl (", " : Str) = TL.tl (bl 0) ++ TL.tl (mkS [44]) ++ TL.tl (bl 1) by decide +kernel]
  simp only [List.append_assoc]
theorem join_one (z : Str) : Txt.join ", " [z] = z := by
  apply tl_inj
  rw [join_eq, tl_join]
  rfl
theorem seg_join {A : Type} {n : Nat} : ∀ (xs : List (It A)) (x : It A), (∀ y ∈ x :: xs, Seg y.z y.T n) → Seg (Txt.join ", " ((x :: xs).map (·.z))) (fun s => x.T s ++ commaT (tokS 0 44) (xs.map fun y => (y.a, y.T 1))) ((n + 1) * (xs.length + 1))
  | [], x, h => by
    have e : (fun s => x.T s ++ commaT (tokS 0 44) (([] : List (It A)).map fun y => (y.a, y.T 1))) = x.T := funext fun s => List.append_nil _
    rw [e]
    refine Seg.eq ((h x List.mem_cons_self).mono ?_) (join_one x.z)
    show n ≤ (n + 1) * 1
    omega
  | y :: r, x, h => by
    have h1 := h x List.mem_cons_self
    have h2 := seg_join r y fun w hw => h w (List.mem_cons_of_mem _ hw)
    have hc : Seg (mkS [44]) (fun s => [tokS s 44]) 1 := seg_sign (by decide) (by decide)
    have h3 := seg_cat (seg_cat h1 0 hc (.inr (fun tail => sign_run (by decide) tail))) 1 h2 (.inl (by decide))
    have e : (fun s => x.T s ++ commaT (tokS 0 44) ((y :: r).map fun y => (y.a, y.T 1))) = fun s => (x.T s ++ [tokS 0 44]) ++ (y.T 1 ++ commaT (tokS 0 44) (r.map fun y => (y.a, y.T 1))) := funext fun s => by
      show x.T s ++ (tokS 0 44 :: (y.T 1 ++ commaT (tokS 0 44) (r.map fun y => (y.a, y.T 1)))) = _
      rw [List.append_assoc]
      rfl
    rw [e]
    refine Seg.mono (Seg.eq h3 ?_) ?_
    · show Txt.join ", " (x.z :: y.z :: r.map (·.z)) = _
      rw [join_two]
      apply tl_inj
      simp only [tlc, List.append_assoc, List.map_cons]
    · have e2 : (n + 1) * ((y :: r).length + 1) = (n + 1) * (r.length + 1) + (n + 1) := by
        rw [List.length_cons, Nat.mul_add (n + 1) (r.length + 1) 1, Nat.mul_one]
      rw [e2]
      omega
theorem list_it {A : Type} {rd : Rdg A} {ok okEnd : List Tok → Prop} (hok : ∀ r, ok (tokS 0 44 :: r)) (hend : ∀ r, okEnd r → ok r ∧ ownH r ≠ ",") (xs : List (It A)) (x : It A) (h : ∀ y ∈ x :: xs, ∀ s, RdSays rd y.a (y.T s) ok) (s : Nat) : RdSays (rdList rd) ((x :: xs).map (·.a)) (x.T s ++ commaT (tokS 0 44) (xs.map fun y => (y.a, y.T 1))) okEnd := by
  have := list_says (rd := rd) (c := tokS 0 44) (ok := ok) (okEnd := okEnd) (by decide +kernel) hok hend (x := (x.a, x.T s)) (xs := xs.map fun y => (y.a, y.T 1)) (fun y hy => by
    rcases List.mem_cons.mp hy with rfl | hy
    · exact h x List.mem_cons_self s
    · obtain ⟨w, hw, rfl⟩ := List.mem_map.mp hy
      exact h w (List.mem_cons_of_mem _ hw) 1)
  rw [List.map_cons, List.map_map] at this
  exact this
/-! ### what stands behind the sign of a step -/
def DetW (z wh : Str) (r : Rst) : Prop := ∃ (T : Nat → List Tok) (n : Nat), Seg z T n ∧ n ≤ 250 ∧ ∀ s, ∃ t L, T s = t :: L ∧ t.own = wh ∧ RdSays (rdRest wh) r L fun r => r = []
theorem nil_ok {r : List Tok} (h : r = []) : nlev r = 0 ∧ ownH r ≠ "," := by
  rw [h]
  decide +kernel
theorem det_filter {z x : Str} {e : Ex} {f L : Nat} (hx : good x) (h : Wp z e f L) (hf : f ≤ 100) (hd : e.dep ≤ 5) : DetW ("filter " ++ x ++ " where " ++ z) "filter" ([x], .filter e) := by
  obtain ⟨T, r, a, b, c1, c2, c3⟩ := h.ex
  have sz := size_dep e
  have s5 : 2 ^ e.dep ≤ 2 ^ 5 := Nat.pow_le_pow_right (by decide) hd
  have h1 := seg_cat (seg_cat (seg_cat (seg_own (z := "filter") (by decide +kernel)) 1 (seg_name hx) (.inl (by decide))) 1 (seg_own (z := "where") (by decide +kernel)) (.inl (by decide))) 1 a.seg (.inl (by decide))
  refine ⟨_, _, Seg.eq h1 ?_, by omega, fun s => ⟨tokW s "filter", tokW 1 x :: tokW 1 "where" :: T 1, rfl, own_word (by decide +kernel), ?_⟩⟩
  · apply tl_inj
    simp only [tlc, List.append_assoc]
    rw [show TL.tl ("filter " : Str) = TL.tl ("filter" : Str) ++ TL.tl (bl 1) by decide +kernel, show TL.tl (" where " : Str) = TL.tl (bl 1) ++ (TL.tl ("where" : Str) ++ TL.tl (bl 1)) by decide +kernel]
    simp only [List.append_assoc]
  · exact rest_filter (nmT_word hx.2.1) (own_word (by decide +kernel)) ((expr_says (Pt.le hf (b 1 1 (by decide) (Nat.le_max_right _ _))) c2 (not_large hd)).mono fun r hr => (nil_ok hr).1)
theorem det_unlike {x : Str} (hx : good x) : DetW ("unlike " ++ x) "unlike" ([x], .unlike) := by
  have h1 := seg_cat (seg_own (z := "unlike") (by decide +kernel)) 1 (seg_name hx) (.inl (by decide))
  refine ⟨_, _, Seg.eq h1 ?_, by decide, fun s => ⟨tokW s "unlike", [tokW 1 x], rfl, own_word (by decide +kernel), ?_⟩⟩
  · apply tl_inj
    simp only [tlc, List.append_assoc]
    rw [show TL.tl ("unlike " : Str) = TL.tl ("unlike" : Str) ++ TL.tl (bl 1) by decide +kernel]
    simp only [List.append_assoc]
  · have e : rdRest "unlike" = mapR (fun x => (x.1, Dt.unlike)) (rdUnit rdOne) := by
      unfold rdRest
      rw [if_neg (show ¬ ("unlike" : Str) = "filter" by decide +kernel), if_neg (show ¬ ("unlike" : Str) = "map" by decide +kernel), if_neg (show ¬ ("unlike" : Str) = "fold" by decide +kernel), if_neg (show ¬ ("unlike" : Str) = "join" by decide +kernel), if_neg (show ¬ ("unlike" : Str) = "union" by decide +kernel), if_pos rfl]
    rw [e]
    exact RdSays.mono (ok := fun _ => True) (mapR_says (g := fun (x : List Str × Unit) => (x.1, Dt.unlike)) (mapR_says (g := fun (a : List Str) => (a, ())) (one_says (nmT_word hx.2.1)))) fun _ _ => trivial
theorem two_in_says {t1 t2 t3 : Tok} {x y : Str} (h1 : NmT t1 x) (h2 : t2.own = ",") (h3 : NmT t3 y) : RdSays rdTwoIn [x, y] [t1, t2, t3] fun _ => True :=
  mapR_says (g := fun (p : Str × Str) => [p.1, p.2]) (rdThen_says (ts := [t1]) (us := [t3]) h1.says h2 h3.says fun _ => trivial)
theorem det_union {x y : Str} (hx : good x) (hy : good y) : DetW ("union " ++ x ++ " , " ++ y) "union" ([x, y], .union) := by
  have hc : Seg (mkS [44]) (fun s => [tokS s 44]) 1 := seg_sign (by decide) (by decide)
  have h1 := seg_cat (seg_cat (seg_cat (seg_own (z := "union") (by decide +kernel)) 1 (seg_name hx) (.inl (by decide))) 1 hc (.inl (by decide))) 1 (seg_name hy) (.inl (by decide))
  refine ⟨_, _, Seg.eq h1 ?_, by decide, fun s => ⟨tokW s "union", [tokW 1 x, tokS 1 44, tokW 1 y], rfl, own_word (by decide +kernel), ?_⟩⟩
  · apply tl_inj
    simp only [tlc, List.append_assoc]
    rw [show TL.tl ("union " : Str) = TL.tl ("union" : Str) ++ TL.tl (bl 1) by decide +kernel, show TL.tl (" , " : Str) = TL.tl (bl 1) ++ (TL.tl (mkS [44]) ++ TL.tl (bl 1)) by decide +kernel]
    simp only [List.append_assoc]
  · have e : rdRest "union" = mapR (fun x => (x.1, Dt.union)) (rdUnit rdTwoIn) := by
      unfold rdRest
      rw [if_neg (show ¬ ("union" : Str) = "filter" by decide +kernel), if_neg (show ¬ ("union" : Str) = "map" by decide +kernel), if_neg (show ¬ ("union" : Str) = "fold" by decide +kernel), if_neg (show ¬ ("union" : Str) = "join" by decide +kernel), if_pos rfl]
    rw [e]
    exact RdSays.mono (ok := fun _ => True) (mapR_says (g := fun (x : List Str × Unit) => (x.1, Dt.union)) (mapR_says (g := fun (a : List Str) => (a, ())) (two_in_says (nmT_word hx.2.1) (by decide +kernel) (nmT_word hy.2.1)))) fun _ _ => trivial
/-- names with commas between -/
def nmIt (x : Str) : It Str := ⟨x, x, fun s => [tokW s x]⟩
theorem names_seg {xs : List Str} (h : ∀ x ∈ xs, good x) (hne : xs ≠ []) : ∃ T, Seg (Txt.join ", " xs) T (2 * xs.length) ∧ ∀ s, (∃ t L, T s = t :: L) ∧ RdSays (rdList rdName) xs (T s) fun r => ownH r ≠ "," := by
  cases xs with
  | nil => exact absurd rfl hne
  | cons x r =>
    have h1 := seg_join (n := 1) (r.map nmIt) (nmIt x) (fun y hy => by
      rcases List.mem_cons.mp hy with rfl | hy
      · exact seg_name (h x List.mem_cons_self)
      · obtain ⟨w, hw, rfl⟩ := List.mem_map.mp hy
        exact seg_name (h w (List.mem_cons_of_mem _ hw)))
    have e1 : ((nmIt x :: r.map nmIt).map (·.z)) = x :: r := by
      rw [List.map_cons, List.map_map]
      show x :: r.map (fun y => y) = _
      rw [List.map_id']
    have e2 : ((nmIt x :: r.map nmIt).map (·.a)) = x :: r := by
      rw [List.map_cons, List.map_map]
      show x :: r.map (fun y => y) = _
      rw [List.map_id']
    rw [e1] at h1
    refine ⟨_, h1.mono (by rw [List.length_map, List.length_cons]; omega), fun s => ⟨⟨_, _, rfl⟩, ?_⟩⟩
    have := list_it (rd := rdName) (ok := fun _ => True) (okEnd := fun r => ownH r ≠ ",") (fun _ => trivial) (fun r hr => ⟨trivial, hr⟩) (r.map nmIt) (nmIt x) (fun y hy s => by
      rcases List.mem_cons.mp hy with rfl | hy
      · exact (nmT_word (h x List.mem_cons_self).2.1).says
      · obtain ⟨w, hw, rfl⟩ := List.mem_map.mp hy
        exact (nmT_word (h w (List.mem_cons_of_mem _ hw)).2.1).says) s
    rw [e2] at this
    exact this
theorem det_join {x y : Str} {ks : List Str} (hx : good x) (hy : good y) (hk : ∀ k ∈ ks, good k) (hne : ks ≠ []) (hl : ks.length ≤ 50) : DetW ("join " ++ x ++ ", " ++ y ++ " by " ++ Txt.join ", " ks) "join" ([x, y], .join ks) := by
  obtain ⟨T, h0, h0s⟩ := names_seg hk hne
  have hc : Seg (mkS [44]) (fun s => [tokS s 44]) 1 := seg_sign (by decide) (by decide)
  have h1 := seg_cat (seg_cat (seg_cat (seg_cat (seg_cat (seg_own (z := "join") (by decide +kernel)) 1 (seg_name hx) (.inl (by decide))) 0 hc (.inr fun tail => sign_run (by decide) tail)) 1 (seg_name hy) (.inl (by decide))) 1 (seg_own (z := "by") (by decide +kernel)) (.inl (by decide))) 1 h0 (.inl (by decide))
  refine ⟨_, _, Seg.eq h1 ?_, by omega, fun s => ⟨tokW s "join", [tokW 1 x, tokS 0 44, tokW 1 y] ++ tokW 1 "by" :: T 1, rfl, own_word (by decide +kernel), ?_⟩⟩
  · apply tl_inj
    simp only [tlc, List.append_assoc]
    rw [show TL.tl ("join " : Str) = TL.tl ("join" : Str) ++ TL.tl (bl 1) by decide +kernel, show TL.tl (", " : Str) = TL.tl (bl 0) ++ (TL.tl (mkS [44]) ++ TL.tl (bl 1)) by decide +kernel, show TL.tl (" by " : Str) = TL.tl (bl 1) ++ (TL.tl ("by" : Str) ++ TL.tl (bl 1)) by decide +kernel]
    simp only [List.append_assoc]
  · have e : rdRest "join" = mapR (fun x => (x.1, Dt.join x.2)) (rdThen rdTwoIn "by" (rdList rdName)) := by
      unfold rdRest
      rw [if_neg (show ¬ ("join" : Str) = "filter" by decide +kernel), if_neg (show ¬ ("join" : Str) = "map" by decide +kernel), if_neg (show ¬ ("join" : Str) = "fold" by decide +kernel), if_pos rfl]
    rw [e]
    exact (mapR_says (g := fun (x : List Str × List Str) => (x.1, Dt.join x.2)) (rdThen_says (two_in_says (nmT_word hx.2.1) (by decide +kernel) (nmT_word hy.2.1)) (own_word (by decide +kernel)) (h0s 1).2 fun _ => trivial)).mono fun r hr => (nil_ok hr).2
end Kx

namespace Kx
open PySem PySem.Spec PyProof.Rows L2 TL
/-! ### maps -/
/-- one column of a map: z its text -/
def MpW (z : Str) (p : Ex × Str) : Prop := ∃ T n, Seg z T n ∧ n ≤ 33 ∧ ∀ s, RdSays rdMapped p (T s) fun _ => True
theorem mp_one {z late : Str} {e : Ex} {f L : Nat} (hl : good late) (h : Wp z e f L) (hf : f ≤ 100) (hd : e.dep ≤ 5) : MpW (z ++ " as " ++ late) (e, late) := by
  obtain ⟨T, r, a, b, c1, c2, c3⟩ := h.ex
  have sz := size_dep e
  have s5 : 2 ^ e.dep ≤ 2 ^ 5 := Nat.pow_le_pow_right (by decide) hd
  have h1 := seg_cat (seg_cat a.seg 1 (seg_own (z := "as") (by decide +kernel)) (.inl (by decide))) 1 (seg_name hl) (.inl (by decide))
  refine ⟨_, _, Seg.eq h1 ?_, by omega, fun s => ?_⟩
  · apply tl_inj
    simp only [tlc, List.append_assoc]
    rw [show TL.tl (" as " : Str) = TL.tl (bl 1) ++ (TL.tl ("as" : Str) ++ TL.tl (bl 1)) by decide +kernel]
    simp only [List.append_assoc]
  · show RdSays rdMapped (e, late) ((T s ++ [tokW 1 "as"]) ++ [tokW 1 late]) _
    rw [List.append_assoc]
    exact mapped_says (Pt.le hf (b s 1 (by decide) (Nat.le_max_right _ _))) c2 (not_large hd) (own_word (by decide +kernel)) (nmT_word hl.2.1)
/-- rows of such -/
theorem its_of {A : Type} {Pz : Str → A → (Nat → List Tok) → Prop} : ∀ {ps : List (Str × A)}, (∀ p ∈ ps, ∃ T, Pz p.1 p.2 T) → ∃ its : List (It A), its.map (·.z) = ps.map (·.1) ∧ its.map (·.a) = ps.map (·.2) ∧ its.length = ps.length ∧ ∀ i ∈ its, Pz i.z i.a i.T
  | [], _ => ⟨[], rfl, rfl, rfl, fun i h => by cases h⟩
  | p :: r, h => by
    obtain ⟨T, hT⟩ := h p List.mem_cons_self
    obtain ⟨its, h1, h2, h3, h4⟩ := its_of (ps := r) fun q hq => h q (List.mem_cons_of_mem _ hq)
    refine ⟨⟨p.1, p.2, T⟩ :: its, by rw [List.map_cons, List.map_cons, h1], by rw [List.map_cons, List.map_cons, h2], by rw [List.length_cons, List.length_cons, h3], fun i hi => ?_⟩
    rcases List.mem_cons.mp hi with rfl | hi
    · exact hT
    · exact h4 i hi
theorem rows_its {A : Type} {rd : Rdg A} {n : Nat} {ps : List (Str × A)} (hne : ps ≠ []) (h : ∀ p ∈ ps, ∃ T m, Seg p.1 T m ∧ m ≤ n ∧ ∀ s, RdSays rd p.2 (T s) fun _ => True) : ∃ T, Seg (Txt.join ", " (ps.map (·.1))) T ((n + 1) * ps.length) ∧ ∀ s, RdSays (rdList rd) (ps.map (·.2)) (T s) fun r => ownH r ≠ "," := by
  obtain ⟨its, e1, e2, e3, hi⟩ := its_of (Pz := fun z a T => ∃ m, Seg z T m ∧ m ≤ n ∧ ∀ s, RdSays rd a (T s) fun _ => True) (ps := ps) h
  cases its with
  | nil =>
    exfalso
    apply hne
    exact List.eq_nil_of_length_eq_zero e3.symm
  | cons x r =>
    have h1 := seg_join (n := n) r x (fun y hy => let ⟨m, a, b, _⟩ := hi y hy; a.mono b)
    rw [e1] at h1
    refine ⟨_, h1.mono ?_, fun s => ?_⟩
    · rw [← e3, List.length_cons]
      exact Nat.le_refl _
    · have := list_it (rd := rd) (ok := fun _ => True) (okEnd := fun r => ownH r ≠ ",") (fun _ => trivial) (fun r hr => ⟨trivial, hr⟩) r x (fun y hy s => let ⟨m, _, _, c⟩ := hi y hy; c s) s
      rw [e2] at this
      exact this
theorem det_map {x : Str} {ps : List (Str × (Ex × Str))} (hx : good x) (hne : ps ≠ []) (hl : ps.length ≤ 3) (h : ∀ p ∈ ps, MpW p.1 p.2) : DetW ("map " ++ x ++ " to " ++ Txt.join ", " (ps.map (·.1))) "map" ([x], .map (ps.map (·.2))) := by
  obtain ⟨T, h0, h0s⟩ := rows_its (rd := rdMapped) (n := 33) hne h
  have h1 := seg_cat (seg_cat (seg_cat (seg_own (z := "map") (by decide +kernel)) 1 (seg_name hx) (.inl (by decide))) 1 (seg_own (z := "to") (by decide +kernel)) (.inl (by decide))) 1 h0 (.inl (by decide))
  refine ⟨_, _, Seg.eq h1 ?_, by omega, fun s => ⟨tokW s "map", tokW 1 x :: tokW 1 "to" :: T 1, rfl, own_word (by decide +kernel), ?_⟩⟩
  · apply tl_inj
    simp only [tlc, List.append_assoc]
    rw [show TL.tl ("map " : Str) = TL.tl ("map" : Str) ++ TL.tl (bl 1) by decide +kernel, show TL.tl (" to " : Str) = TL.tl (bl 1) ++ (TL.tl ("to" : Str) ++ TL.tl (bl 1)) by decide +kernel]
    simp only [List.append_assoc]
  · exact rest_map (nmT_word hx.2.1) (own_word (by decide +kernel)) ((h0s 1).mono fun r hr => (nil_ok hr).2)
/-! ### sorts -/
theorem srt_one {c w : Str} (hc : good c) (hw : w ∈ (["up", "down"] : List Str)) : ∃ T m, Seg (c ++ " " ++ w) T m ∧ m ≤ 2 ∧ ∀ s, RdSays (rdTwo ["up", "down"]) (c, w) (T s) fun _ => True := by
  have ho : w ∈ owns := (show ∀ w ∈ (["up", "down"] : List Str), w ∈ owns by decide +kernel) w hw
  have h1 := seg_cat (seg_name hc) 1 (seg_own ho) (.inl (by decide))
  refine ⟨_, _, Seg.eq h1 ?_, by decide, fun s => ?_⟩
  · apply tl_inj
    simp only [tlc, List.append_assoc]
    rw [show TL.tl (" " : Str) = TL.tl (bl 1) by decide +kernel]
  · have b : RdSays (rdWord ["up", "down"]) (tokW 1 w).own [tokW 1 w] fun _ => True := word_says (by rw [own_word ho]; exact hw)
    rw [own_word ho] at b
    exact thenA_says (k := fun z ps j => thenA (rdWord ["up", "down"] ps j) fun w k => .ok ((z, w), k)) (nmT_word hc.2.1).says (mapR_says (g := fun w => (c, w)) b) fun _ _ => trivial
theorem num_says {k : Nat} {s : Nat} {w : List Nat} : RdSays rdNum k [tokN s k w] fun _ => True := fun ps i all at_ rest hr _ => by
  unfold rdNum
  rw [Rst'.cur hr]
  dsimp only
  exact if_pos rfl
theorem num_seg {k : Nat} (hk : k < 6) : Seg (numZ (k : Int)) (fun s => [tokN s k (TL.tl (numZ (k : Int)))]) 1 := by
  have h := List.all_eq_true.mp num_facts k (List.mem_range.mpr hk)
  simp only [Bool.and_eq_true] at h
  obtain ⟨⟨⟨⟨⟨h1, h2⟩, h3⟩, h4⟩, h5⟩, h6⟩ := h
  have h5 := of_decide_eq_true h5
  refine ⟨fun s => ?_, fun s tail ht => ⟨fits_num (of_decide_eq_true h1) h2 h3 (fun z => h5 (by rw [z]; rfl)) ht, trivial⟩, fun s => nbr1 _, of_decide_eq_true h4⟩
  show List.replicate s 32 ++ (TL.tl (numZ (k : Int)) ++ []) = _
  rw [List.append_nil]
theorem det_sort {x : Str} {ws : List (Str × Str)} {k : Nat} (hx : good x) (hne : ws ≠ []) (hl : ws.length ≤ 3) (h : ∀ p ∈ ws, good p.1 ∧ p.2 ∈ (["up", "down"] : List Str)) (hk : k < 6) : DetW ("sort " ++ x ++ " by " ++ Txt.join ", " (ws.map fun p => (p.1 ++ " " ++ p.2 : Str)) ++ " first " ++ numZ (k : Int)) "sort" ([x], .sort ws k) := by
  obtain ⟨T, h0, h0s⟩ := rows_its (rd := rdTwo ["up", "down"]) (n := 2) (ps := ws.map fun p => (p.1 ++ " " ++ p.2, p)) (by simpa using hne) (fun p hp => by
    obtain ⟨q, hq, rfl⟩ := List.mem_map.mp hp
    exact srt_one (h q hq).1 (h q hq).2)
  rw [List.map_map, List.length_map] at h0
  simp only [List.map_map] at h0s
  have e0 : ws.map ((·.2) ∘ fun p : Str × Str => (p.1 ++ " " ++ p.2, p)) = ws := by
    show ws.map (fun p => p) = ws
    exact List.map_id' ws
  have e1 : ws.map ((·.1) ∘ fun p : Str × Str => (p.1 ++ " " ++ p.2, p)) = ws.map fun p => (p.1 ++ " " ++ p.2 : Str) := rfl
  rw [e1] at h0
  rw [e0] at h0s
  have h1 := seg_cat (seg_cat (seg_cat (seg_cat (seg_cat (seg_own (z := "sort") (by decide +kernel)) 1 (seg_name hx) (.inl (by decide))) 1 (seg_own (z := "by") (by decide +kernel)) (.inl (by decide))) 1 h0 (.inl (by decide))) 1 (seg_own (z := "first") (by decide +kernel)) (.inl (by decide))) 1 (num_seg hk) (.inl (by decide))
  refine ⟨_, _, Seg.eq h1 ?_, by omega, fun s => ⟨tokW s "sort", (tokW 1 x :: tokW 1 "by" :: T 1) ++ ([tokW 1 "first"] ++ [tokN 1 k (TL.tl (numZ (k : Int)))]), ?_, own_word (by decide +kernel), ?_⟩⟩
  · apply tl_inj
    simp only [tlc, List.append_assoc]
    rw [show TL.tl ("sort " : Str) = TL.tl ("sort" : Str) ++ TL.tl (bl 1) by decide +kernel, show TL.tl (" by " : Str) = TL.tl (bl 1) ++ (TL.tl ("by" : Str) ++ TL.tl (bl 1)) by decide +kernel, show TL.tl (" first " : Str) = TL.tl (bl 1) ++ (TL.tl ("first" : Str) ++ TL.tl (bl 1)) by decide +kernel]
    simp only [List.append_assoc]
  · show ([tokW s "sort"] ++ [tokW 1 x] ++ [tokW 1 "by"] ++ T 1 ++ [tokW 1 "first"] ++ [tokN 1 k (TL.tl (numZ (k : Int)))]) = _
    simp only [List.append_assoc, List.cons_append, List.nil_append]
  · have e : rdRest "sort" = mapR (fun x => (x.1, Dt.sort x.2.1 x.2.2)) rdSort := by
      unfold rdRest
      rw [if_neg (show ¬ ("sort" : Str) = "filter" by decide +kernel), if_neg (show ¬ ("sort" : Str) = "map" by decide +kernel), if_neg (show ¬ ("sort" : Str) = "fold" by decide +kernel), if_neg (show ¬ ("sort" : Str) = "join" by decide +kernel), if_neg (show ¬ ("sort" : Str) = "union" by decide +kernel), if_neg (show ¬ ("sort" : Str) = "unlike" by decide +kernel)]
    rw [e]
    have hw : RdSays rdWays ws (T 1) fun r => ownH r ≠ "," := h0s 1
    have a := rdThen_says (w := "by") (t := tokW 1 "by") (one_says (nmT_word (sp := 1) hx.2.1)) (own_word (by decide +kernel)) hw fun _ => trivial
    have f : RdSays (rdWord ["first"]) (tokW 1 "first").own [tokW 1 "first"] fun _ => True := word_says (by rw [own_word (by decide +kernel)]; exact List.mem_cons_self)
    have b : RdSays (fun ps j => thenA (rdWord ["first"] ps j) fun _ j2 => thenA (rdNum ps j2) fun m k => .ok (([x], ws, m), k)) (([x] : List Str), ws, k) ([tokW 1 "first"] ++ [tokN 1 k (TL.tl (numZ (k : Int)))]) fun _ => True :=
      thenA_says (k := fun _ ps j2 => thenA (rdNum ps j2) fun m k => .ok ((([x] : List Str), ws, m), k)) f (mapR_says (g := fun m => (([x] : List Str), ws, m)) num_says) fun _ _ => trivial
    have c : RdSays rdSort (([x] : List Str), ws, k) ((tokW 1 x :: tokW 1 "by" :: T 1) ++ ([tokW 1 "first"] ++ [tokN 1 k (TL.tl (numZ (k : Int)))])) fun _ => True :=
      thenA_says (k := fun (y : List Str × List (Str × Str)) ps j => thenA (rdWord ["first"] ps j) fun _ j2 => thenA (rdNum ps j2) fun m k => .ok ((y.1, y.2, m), k)) a b fun rest _ => (by show (tokW 1 "first").own ≠ ","; rw [own_word (by decide +kernel)]; decide +kernel)
    exact (mapR_says (g := fun (y : List Str × List (Str × Str) × Nat) => (y.1, Dt.sort y.2.1 y.2.2)) c).mono fun _ _ => trivial
/-! ### folds -/
/-- one fold: z its text -/
def FdW (z : Str) (p : Str × Option Ex × Str) : Prop := ∃ T n, Seg z T n ∧ n ≤ 36 ∧ ∀ s, RdSays rdFolded p (T s) fun _ => True
theorem fold2_eq (k : Str) : rdFold2 k = fun ps i => thenA (rdOpt k ps i) fun o j => thenA (rdWord [")"] ps j) fun _ j2 => thenA (rdNew ps j2) fun x k' => .ok ((k, o, x), k') := rfl
theorem folded_says {k late : Str} {o : Option Ex} {ts : List Tok} {s : Nat} (hk : k ∈ six) (ho : RdSays (rdOpt k) o ts fun r => ∃ q, r = tokS 0 41 :: q) (hl : good late) : RdSays rdFolded (k, o, late) (tokW s k :: tokS 0 40 :: (ts ++ [tokS 0 41, tokW 1 "as", tokW 1 late])) fun _ => True := by
  have hown : k ∈ owns := (show ∀ k ∈ six, k ∈ owns by decide +kernel) k hk
  have a : RdSays (rdWord six) (tokW s k).own [tokW s k] fun _ => True := word_says (by rw [own_word hown]; exact hk)
  rw [own_word hown] at a
  have b : RdSays (rdWord ["("]) (tokS 0 40).own [tokS 0 40] fun _ => True := word_says (by decide +kernel)
  have c : RdSays (rdWord [")"]) (tokS 0 41).own [tokS 0 41] fun _ => True := word_says (by decide +kernel)
  have n := new_says (t1 := tokW 1 "as") (t2 := tokW 1 late) (own_word (by decide +kernel)) (nmT_word hl.2.1)
  have d : RdSays (fun ps i => thenA (rdWord [")"] ps i) fun _ j2 => thenA (rdNew ps j2) fun x k' => .ok ((k, o, x), k')) (k, o, late) [tokS 0 41, tokW 1 "as", tokW 1 late] fun _ => True :=
    thenA_says (k := fun _ ps j2 => thenA (rdNew ps j2) fun x k' => .ok ((k, o, x), k')) c (mapR_says (g := fun x => (k, o, x)) n) fun _ _ => trivial
  have e : RdSays (rdFold2 k) (k, o, late) (ts ++ [tokS 0 41, tokW 1 "as", tokW 1 late]) fun _ => True :=
    thenA_says (k := fun o ps j => thenA (rdWord [")"] ps j) fun _ j2 => thenA (rdNew ps j2) fun x k' => .ok ((k, o, x), k')) ho d fun rest _ => ⟨_, rfl⟩
  have f := thenA_says (k := fun _ ps j2 => rdFold2 k ps j2) b e fun _ _ => trivial
  exact thenA_says (k := fun z ps j => thenA (rdWord ["("] ps j) fun _ j2 => rdFold2 z ps j2) a f fun _ _ => trivial
theorem fd_count {late : Str} (hl : good late) : FdW ("count" ++ "(" ++ "" ++ ") as " ++ late) ("count", none, late) := by
  have h1 := seg_cat (seg_cat (seg_cat (seg_cat (seg_own (z := "count") (by decide +kernel)) 0 (seg_sign (c := 40) (by decide) (by decide)) (.inr fun tail => sign_run (by decide) tail)) 0 (seg_sign (c := 41) (by decide) (by decide)) (.inr fun tail => sign_run (by decide) tail)) 1 (seg_own (z := "as") (by decide +kernel)) (.inl (by decide))) 1 (seg_name hl) (.inl (by decide))
  refine ⟨_, _, Seg.eq h1 ?_, by decide, fun s => ?_⟩
  · apply tl_inj
    simp only [tlc, List.append_assoc]
    rw [show TL.tl ("" : Str) = [] by decide +kernel, show TL.tl ("(" : Str) = TL.tl (mkS [40]) by decide +kernel, show TL.tl (") as " : Str) = TL.tl (mkS [41]) ++ (TL.tl (bl 1) ++ (TL.tl ("as" : Str) ++ TL.tl (bl 1))) by decide +kernel, show TL.tl (bl 0) = [] by decide +kernel]
    simp only [List.append_assoc, List.nil_append]
  · exact folded_says (ts := []) (by decide +kernel) (fun ps i all at_ rest hr _ => if_pos rfl) hl
theorem fd_told {k late z : Str} {e : Ex} {f L : Nat} (hk : k ∈ six) (hc : k ≠ "count") (hl : good late) (h : Wp z e f L) (hf : f ≤ 100) (hd : e.dep ≤ 5) : FdW (k ++ "(" ++ z ++ ") as " ++ late) (k, some e, late) := by
  obtain ⟨T, r, a, b, c1, c2, c3⟩ := h.ex
  have sz := size_dep e
  have s5 : 2 ^ e.dep ≤ 2 ^ 5 := Nat.pow_le_pow_right (by decide) hd
  have hown : k ∈ owns := (show ∀ k ∈ six, k ∈ owns by decide +kernel) k hk
  have hp := lay_par a
  have h1 := seg_cat (seg_cat (seg_cat (seg_own hown) 0 hp.seg (.inr fun tail => cons_run (by decide) tail)) 1 (seg_own (z := "as") (by decide +kernel)) (.inl (by decide))) 1 (seg_name hl) (.inl (by decide))
  refine ⟨_, _, Seg.eq h1 ?_, by omega, fun s => ?_⟩
  · apply tl_inj
    simp only [tlc, List.append_assoc]
    rw [show TL.tl (") as " : Str) = TL.tl (")" : Str) ++ (TL.tl (bl 1) ++ (TL.tl ("as" : Str) ++ TL.tl (bl 1))) by decide +kernel, show TL.tl (bl 0) = [] by decide +kernel]
    simp only [List.append_assoc, List.nil_append]
  · show RdSays rdFolded (k, some e, late) (([tokW s k] ++ (tokS 0 40 :: (T 0 ++ [tokS 0 41]))) ++ [tokW 1 "as"] ++ [tokW 1 late]) _
    have he : RdSays (rdOpt k) (some e) (T 0) fun r => ∃ q, r = tokS 0 41 :: q := by
      have x := expr_says (Pt.le hf (b 0 1 (by decide) (Nat.le_max_right _ _))) c2 (not_large hd)
      intro ps i all at_ rest hr ⟨q, hq⟩
      unfold rdOpt
      rw [if_neg hc, x ps i all at_ rest hr (by rw [hq]; show levW (tokS 0 41).own = 0; decide +kernel)]
      rfl
    have := folded_says (s := s) hk he hl
    have e2 : tokW s k :: tokS 0 40 :: (T 0 ++ [tokS 0 41, tokW 1 "as", tokW 1 late]) = ([tokW s k] ++ (tokS 0 40 :: (T 0 ++ [tokS 0 41]))) ++ [tokW 1 "as"] ++ [tokW 1 late] := by
      simp only [List.append_assoc, List.cons_append, List.nil_append]
    rw [e2] at this
    exact this
theorem det_fold {x : Str} {ks : List Str} {ps : List (Str × (Str × Option Ex × Str))} (hx : good x) (hk : ∀ k ∈ ks, good k) (hkl : ks.length ≤ 50) (hne : ps ≠ []) (hl : ps.length ≤ 3) (h : ∀ p ∈ ps, FdW p.1 p.2) : DetW ("fold " ++ x ++ (if ks = [] then ("" : Str) else " by " ++ Txt.join ", " ks) ++ ": " ++ Txt.join ", " (ps.map (·.1))) "fold" ([x], .fold ks (ps.map (·.2))) := by
  obtain ⟨T, h0, h0s⟩ := rows_its (rd := rdFolded) (n := 36) hne h
  have e : rdRest "fold" = mapR (fun x => (x.1, Dt.fold x.2.1 x.2.2)) rdFoldAll := by
    unfold rdRest
    rw [if_neg (show ¬ ("fold" : Str) = "filter" by decide +kernel), if_neg (show ¬ ("fold" : Str) = "map" by decide +kernel), if_pos rfl]
  have hc : RdSays (rdWord [":"]) (tokS 0 58).own [tokS 0 58] fun _ => True := word_says (by decide +kernel)
  have hf : RdSays rdFolds (ps.map (·.2)) (T 1) fun r => ownH r ≠ "," := h0s 1
  have tail : ∀ ks : List Str, RdSays (fun ps' j2 => thenA (rdWord [":"] ps' j2) fun _ j3 => thenA (rdFolds ps' j3) fun fs k => .ok ((([x] : List Str), ks, fs), k)) (([x] : List Str), ks, ps.map (·.2)) ([tokS 0 58] ++ T 1) fun r => ownH r ≠ "," := fun ks =>
    thenA_says (k := fun _ ps' j3 => thenA (rdFolds ps' j3) fun fs k => .ok ((([x] : List Str), ks, fs), k)) hc (mapR_says (g := fun fs => (([x] : List Str), ks, fs)) hf) fun _ _ => trivial
  have all : ∀ {ks : List Str} {ts : List Tok} {ok : List Tok → Prop}, RdSays rdKeys ks ts ok → (∀ rest, ok ([tokS 0 58] ++ T 1 ++ rest)) → RdSays rdFoldAll (([x] : List Str), ks, ps.map (·.2)) ([tokW 1 x] ++ (ts ++ ([tokS 0 58] ++ T 1))) fun r => ownH r ≠ "," := fun {ks ts ok} hks hok =>
    thenA_says (k := fun ins ps' j => thenA (rdKeys ps' j) fun ks j2 => thenA (rdWord [":"] ps' j2) fun _ j3 => thenA (rdFolds ps' j3) fun fs k => .ok ((ins, ks, fs), k)) (one_says (nmT_word (sp := 1) hx.2.1)) (thenA_says (k := fun ks ps' j2 => thenA (rdWord [":"] ps' j2) fun _ j3 => thenA (rdFolds ps' j3) fun fs k => .ok ((([x] : List Str), ks, fs), k)) hks (tail ks) fun rest _ => hok rest) fun _ _ => trivial
  by_cases hks : ks = []
  · subst hks
    rw [if_pos rfl]
    have h1 := seg_cat (seg_cat (seg_cat (seg_own (z := "fold") (by decide +kernel)) 1 (seg_name hx) (.inl (by decide))) 0 (seg_sign (c := 58) (by decide) (by decide)) (.inr fun tail => sign_run (by decide) tail)) 1 h0 (.inl (by decide))
    refine ⟨_, _, Seg.eq h1 ?_, by omega, fun s => ⟨tokW s "fold", [tokW 1 x] ++ ([] ++ ([tokS 0 58] ++ T 1)), ?_, own_word (by decide +kernel), ?_⟩⟩
    · apply tl_inj
      simp only [tlc, List.append_assoc]
      rw [show TL.tl ("fold " : Str) = TL.tl ("fold" : Str) ++ TL.tl (bl 1) by decide +kernel, show TL.tl (": " : Str) = TL.tl (bl 0) ++ (TL.tl (mkS [58]) ++ TL.tl (bl 1)) by decide +kernel, show TL.tl ("" : Str) = [] by decide +kernel]
      simp only [List.append_assoc, List.nil_append]
    · show ([tokW s "fold"] ++ [tokW 1 x] ++ [tokS 0 58] ++ T 1) = _
      simp only [List.append_assoc, List.cons_append, List.nil_append]
    · rw [e]
      refine (mapR_says (g := fun (y : List Str × List Str × List (Str × Option Ex × Str)) => (y.1, Dt.fold y.2.1 y.2.2)) (all (ks := []) (ts := []) (ok := fun r => ownH r ≠ "by") (fun ps' i all' at_ rest hr hok => ?_) fun rest => ?_)).mono fun r hr => (nil_ok hr).2
      · unfold rdKeys
        rw [if_neg (by rw [own_hd hr]; exact hok)]
        rfl
      · show (tokS 0 58).own ≠ "by"
        decide +kernel
  · rw [if_neg hks]
    obtain ⟨Tk, k0, k0s⟩ := names_seg hk hks
    have h1 := seg_cat (seg_cat (seg_cat (seg_cat (seg_cat (seg_own (z := "fold") (by decide +kernel)) 1 (seg_name hx) (.inl (by decide))) 1 (seg_own (z := "by") (by decide +kernel)) (.inl (by decide))) 1 k0 (.inl (by decide))) 0 (seg_sign (c := 58) (by decide) (by decide)) (.inr fun tail => sign_run (by decide) tail)) 1 h0 (.inl (by decide))
    refine ⟨_, _, Seg.eq h1 ?_, by omega, fun s => ⟨tokW s "fold", [tokW 1 x] ++ ((tokW 1 "by" :: Tk 1) ++ ([tokS 0 58] ++ T 1)), ?_, own_word (by decide +kernel), ?_⟩⟩
    · apply tl_inj
      simp only [tlc, List.append_assoc]
      rw [show TL.tl ("fold " : Str) = TL.tl ("fold" : Str) ++ TL.tl (bl 1) by decide +kernel, show TL.tl (": " : Str) = TL.tl (bl 0) ++ (TL.tl (mkS [58]) ++ TL.tl (bl 1)) by decide +kernel, show TL.tl (" by " : Str) = TL.tl (bl 1) ++ (TL.tl ("by" : Str) ++ TL.tl (bl 1)) by decide +kernel]
      simp only [List.append_assoc, List.nil_append]
    · show ([tokW s "fold"] ++ [tokW 1 x] ++ [tokW 1 "by"] ++ Tk 1 ++ [tokS 0 58] ++ T 1) = _
      simp only [List.append_assoc, List.cons_append, List.nil_append]
    · rw [e]
      refine (mapR_says (g := fun (y : List Str × List Str × List (Str × Option Ex × Str)) => (y.1, Dt.fold y.2.1 y.2.2)) (all (ks := ks) (ts := tokW 1 "by" :: Tk 1) (ok := fun r => ownH r ≠ ",") (fun ps' i all' at_ rest hr hok => ?_) fun rest => ?_)).mono fun r hr => (nil_ok hr).2
      · unfold rdKeys
        have hb : ownW ps' i = "by" := (own_rst hr).trans (own_word (by decide +kernel))
        rw [if_pos hb, (k0s 1).2 ps' (i + 1) all' _ rest (Rst'.next hr) hok]
        show Except.ok (ks, i + 1 + (Tk 1).length) = Except.ok (ks, i + ((Tk 1).length + 1))
        rw [show i + 1 + (Tk 1).length = i + ((Tk 1).length + 1) by omega]
      · show (tokS 0 58).own ≠ ","
        decide +kernel
end Kx

namespace Yk
open PySem PySem.Spec PyProof.Rows L2
/-! ### sets of ints and texts, their members told -/
def kOf : Value → L2.Key
  | .int i _ => .inl i
  | .str x _ => .inr x
  | _ => .inl 0
/-- an int or a text -/
def Plain (v : Value) : Prop := (∃ i t, v = .int i t) ∨ ∃ x t, v = .str x t
theorem plain_scan {v : Value} (h : Plain v) : v.scannable = true := by
  rcases h with ⟨i, t, rfl⟩ | ⟨x, t, rfl⟩ <;> rfl
section
variable {P : Program} {w : World}
theorem plain_is {v : Value} (h : Plain v) : (mixKind P w).is (kOf v) v = true := by
  rcases h with ⟨i, t, rfl⟩ | ⟨x, t, rfl⟩
  · exact mixKind_int P w i t
  · exact mixKind_str P w x t
theorem is_iff {v : Value} (h : Plain v) (k : L2.Key) : (mixKind P w).is k v = true ↔ kOf v = k :=
  ⟨fun e => (mixKind P w).inj v _ _ (plain_is h) e, fun e => e ▸ plain_is h⟩
theorem rel_plain {k : L2.Key} {u : Value} (r : RelV (kV k) u) : Plain u ∧ kOf u = k := by
  cases k with
  | inl i =>
    obtain ⟨t, rfl⟩ : ∃ t, u = Value.int i t := r
    exact ⟨.inl ⟨i, t, rfl⟩, rfl⟩
  | inr x =>
    obtain ⟨t, rfl⟩ : ∃ t, u = Value.str x t := r
    exact ⟨.inr ⟨x, t, rfl⟩, rfl⟩
def Row (P : Program) (w : World) (e : Int × Value) : Prop := Plain e.2 ∧ e.1 = (mixKind P w).hash (kOf e.2)
/-- at a: a set, its members L in the order of its rows -/
def SetQ (P : Program) (w : World) (h : Heap) (a : Addr) (L : List L2.Key) : Prop :=
  ∃ o es ep t, h.get? a = some o ∧ o.ExactSet ∧ o.data = .set es ep t ∧ (∀ e ∈ es.toList, Row P w e) ∧ L = es.toList.map (fun e => kOf e.2) ∧ L.Nodup ∧
    es.size < scanBound ∧ t.fits es.size = true ∧ Ris t.place.toList ∧ (w.params.followText "set-order" = true ∨ t.led = true)
variable {h h' : Heap} {a : Addr} {L : List L2.Key}
theorem SetQ.at (R : SetQ P w h a L) (k : ∀ o, h.get? a = some o → h'.get? a = some o) : SetQ P w h' a L := by
  obtain ⟨o, es, ep, t, ho, r⟩ := R
  exact ⟨o, es, ep, t, k o ho, r⟩
theorem SetQ.there (R : SetQ P w h a L) : ∃ o, h.get? a = some o := let ⟨o, _, _, _, ho, _⟩ := R; ⟨o, ho⟩
theorem rows_elems {l : List (Int × Value)} (g : ∀ e ∈ l, Row P w e) : ElemsOf (mixKind P w) l := fun e he => ⟨⟨kOf e.2, plain_is (g e he).1, (g e he).2⟩, plain_scan (g e he).1⟩
theorem new_set {led : Bool} (hl : w.params.followText "set-order" = true ∨ led = true) (hg : h.get? a = some { cls := .type "set", dict := none, data := .set #[] 0 (.fresh 0 0 led), slots := #[] }) : SetQ P w h a [] :=
  ⟨_, #[], 0, _, hg, ⟨rfl, rfl, rfl⟩, rfl, fun e he => by simp at he, rfl, List.nodup_nil, by decide, rfl, List.Pairwise.nil, hl⟩
end
section
variable {P : Program} {w : World} {A : Around} {E : Value → Shared → Prop} {s : Shared} {a : Addr} {L : List L2.Key}
/-- behind the laying of a row: perhaps the whole table is laid anew -/
theorem lay_rest {g : Bool → Sem Unit} (hg : ∀ (b : Bool) (s₁ : Shared) (R : Unit → Shared → Prop), R () s₁ → wpAny (model P w) A (g b) R E s₁) {o : Obj} {es : Array (Int × Value)} {ep : Nat} {t : SetTable} (ho : s.heap.get? a = some o) (hx : o.ExactSet)
    (hd : o.data = .set es ep t) {fs : Array (Int × Value)} {u : SetTable} (gr : ∀ e ∈ fs.toList, Row P w e) (nd : (fs.toList.map fun e => kOf e.2).Nodup) (hb : fs.size < scanBound) (hf : u.fits fs.size = true) (hr : Ris u.place.toList)
    (hl : w.params.followText "set-order" = true ∨ u.led = true) {dum : Bool} {R : Option Bool → Shared → Prop}
    (q : ∀ h' M, Heap.SameBut a s.heap h' → M.Perm (fs.toList.map fun e => kOf e.2) → SetQ P w h' a M → R (some true) { s with heap := h' }) :
    wpAny (model P w) A (do
      storeSet a fs u
      if (!dum && u.tooFull) = true then do
        g (relayAll u fs (SetTable.grown fs.size)).2.2
        storeSet a (relayAll u fs (SetTable.grown fs.size)).1 (relayAll u fs (SetTable.grown fs.size)).2.1
        pure (some true)
      else pure (some true)) R E s := by
  refine wpAny_bind (wpAny_storeSet_of ho hd ?_ (fits_of_scanBound hb))
  have o1 := store_at (es' := fs) (t' := u) ho hd
  have b1 := Heap.SameBut.update s.heap a (Obj.putSet fs u)
  split
  · have p1 := relayAll_perm u fs (SetTable.grown fs.size)
    have p2 := relayAll_fits u fs (SetTable.grown fs.size)
    have p3 := relayAll_ris u fs (SetTable.grown fs.size)
    have p4 := relayAll_led u fs (SetTable.grown fs.size)
    generalize relayAll u fs (SetTable.grown fs.size) = Z at p1 p2 p3 p4 ⊢
    obtain ⟨gs, v, gv⟩ := Z
    dsimp only at p1 p2 p3 p4 ⊢
    have sz : gs.size = fs.size := by
      have z := p1.length_eq
      rw [Array.length_toList, Array.length_toList] at z
      exact z
    refine wpAny_bind (hg _ _ _ ?_)
    refine wpAny_bind (wpAny_storeSet_of o1 rfl ?_ (fits_of_scanBound (by rw [sz]; exact hb)))
    have o2 := store_at (es' := gs) (t' := v) o1 rfl
    have pk := p1.map fun e : Int × Value => kOf e.2
    refine wpAny_pure (q _ (gs.toList.map fun e => kOf e.2) (b1.trans (Heap.SameBut.update _ a _)) pk ?_)
    refine ⟨_, gs, _, v, o2, hx, rfl, fun e he => gr e (p1.mem_iff.mp he), rfl, pk.nodup_iff.mpr nd, by rw [sz]; exact hb, p2, p3, ?_⟩
    rcases hl with z | z
    · exact .inl z
    · exact .inr (p4.trans z)
  · exact wpAny_pure (q _ _ b1 (List.Perm.refl _) ⟨_, fs, _, u, o1, hx, rfl, gr, rfl, nd, hb, hf, hr, hl⟩)
/-- s.add(x) behind the hash -/
theorem add_row {x : Value} (hx : Plain x) {Q : Bool → Shared → Prop} (R : SetQ P w s.heap a L) (room : L.length + 1 < scanBound)
    (q : ∀ h' M b, Heap.SameBut a s.heap h' → SetQ P w h' a M → ((kOf x ∈ L ∧ M = L) ∨ (kOf x ∉ L ∧ M.Perm (kOf x :: L))) → Q b { s with heap := h' }) :
    wpAny (model P w) A (setAddHashed a x ((mixKind P w).hash (kOf x))) Q E s := by
  obtain ⟨o, es, ep, t, ho, hex, hd, g, rfl, nd, hb, hf, hr, hl⟩ := R
  have key := plain_is (P := P) (w := w) hx
  have el : ElemsOf (mixKind P w) es.toList := rows_elems g
  unfold setAddHashed setAddHashedIn
  refine wpAny_holding (wpAny_bind (wpAny_setState_of ho hd hf ?_))
  dsimp only
  rw [byScan_of (plain_scan hx) hb el]
  simp only [↓reduceIte]
  unfold setAddByScan
  refine wpAny_bind ?_
  refine wpAny_bind (wpAny_rule ?_)
  refine wpAny_bind (wpAny_setScan_of key ho hd hf el ?_)
  cases fi : List.findIdx? (fun e => (mixKind P w).is (kOf x) e.2) es.toList with
  | some j =>
    dsimp only
    obtain ⟨hj, pj, _⟩ := List.findIdx?_eq_some_iff_getElem.mp fi
    have hm : kOf x ∈ es.toList.map fun e => kOf e.2 := List.mem_map.mpr ⟨es.toList[j], List.getElem_mem hj, (is_iff (g _ (List.getElem_mem hj)).1 _).mp pj⟩
    exact wpAny_pure (wpAny_pure (q s.heap _ _ (Heap.SameBut.refl a s.heap) ⟨o, es, ep, t, ho, hex, hd, g, rfl, nd, hb, hf, hr, hl⟩ (.inl ⟨hm, rfl⟩)))
  | none =>
    dsimp only
    have hm : kOf x ∉ es.toList.map fun e => kOf e.2 := fun z => by
      obtain ⟨e, he, k⟩ := List.mem_map.mp z
      have c := List.findIdx?_eq_none_iff.mp fi e he
      rw [(is_iff (g e he).1 _).mpr k] at c
      cases c
    have gw : ∀ (b : Bool) {s₁ : Shared} {R : Unit → Shared → Prop}, R () s₁ → wpAny (model P w) A (match b with | true => rule "set.scan.the-table-gave-way" | false => pure ()) R E s₁ := fun b s₁ R z => by
      cases b
      · exact wpAny_pure z
      · exact wpAny_rule z
    have p1 := layNew_perm t es ((mixKind P w).hash (kOf x)) x
    have p2 := layNew_fits t es ((mixKind P w).hash (kOf x)) x
    have p3 := layNew_ris t es ((mixKind P w).hash (kOf x)) x hr
    have p4 := layNew_led t es ((mixKind P w).hash (kOf x)) x
    generalize layNew t es ((mixKind P w).hash (kOf x)) x = Z at p1 p2 p3 p4 ⊢
    obtain ⟨fs, u, dum, gv⟩ := Z
    dsimp only at p1 p2 p3 p4 ⊢
    rw [Array.toList_push] at p1
    have pc : fs.toList.Perm (((mixKind P w).hash (kOf x), x) :: es.toList) := p1.trans (List.perm_append_singleton _ _)
    have pk : (fs.toList.map fun e => kOf e.2).Perm (kOf x :: es.toList.map fun e => kOf e.2) := pc.map fun e : Int × Value => kOf e.2
    have gr : ∀ e ∈ fs.toList, Row P w e := fun e he => by
      rcases List.mem_cons.mp (pc.mem_iff.mp he) with rfl | z
      · exact ⟨hx, rfl⟩
      · exact g e z
    have n1 : (fs.toList.map fun e => kOf e.2).Nodup := pk.nodup_iff.mpr (List.nodup_cons.mpr ⟨hm, nd⟩)
    have sz : fs.size < scanBound := by
      have z := pc.length_eq
      rw [Array.length_toList, List.length_cons] at z
      rw [List.length_map] at room
      omega
    have ld : w.params.followText "set-order" = true ∨ u.led = true := by
      rcases hl with z | z
      · exact .inl z
      · exact .inr (p4.trans z)
    have fin : ∀ h' M, Heap.SameBut a s.heap h' → M.Perm (fs.toList.map fun e => kOf e.2) → SetQ P w h' a M → Q true { s with heap := h' } := fun h' M sb pm r => q h' M true sb r (.inr ⟨hm, pm.trans pk⟩)
    refine wpAny_bind (gw _ ?_)
    split
    · refine wpAny_bind ?_
      rw [hashByValue_scannable 8 (plain_scan hx)]
      refine wpAny_pure ?_
      refine lay_rest (fun b s₁ R z => gw b z) ho hex hd gr n1 sz ?_ ?_ ?_ fun h' M sb pm r => ?_
      · split
        · exact p2
        · exact SetTable.fits_plain_off p2
      · split <;> exact p3
      · split <;> exact ld
      · dsimp only
        exact wpAny_pure (fin h' M sb pm r)
    · refine wpAny_bind (wpAny_pure ?_)
      simp only [↓reduceIte]
      refine lay_rest (fun b s₁ R z => gw b z) ho hex hd gr n1 sz p2 p3 ld fun h' M sb pm r => ?_
      dsimp only
      exact wpAny_pure (fin h' M sb pm r)
/-- the loop of set(xs) -/
theorem fill {R : Result → Shared → Prop} {I : Addr} {fp wr : List Addr} {G : Array GenState → Array GenState → Prop} {n : Nat} {V : Nat → Value → Prop} {St : Nat → Shared → Prop} (W : WalksS P w A.in1 I fp wr G n V St) (S : Addr) (hS : S ∉ fp)
    (ks : List L2.Key) (hn : ks.length = n) (hb : n < 1000) (hv : ∀ i v, V i v → Plain v ∧ ks[i]? = some (kOf v)) :
    ∀ (k i : Nat) (s : Shared) (M : List L2.Key), n - i = k → i ≤ n → St i s → SetQ P w s.heap S M → M.length ≤ i → (∀ z, z ∈ M ↔ z ∈ ks.take i) →
      (∀ s' M', Moved (S :: wr) G s s' → SetQ P w s'.heap S M' → (∀ z, z ∈ M' ↔ z ∈ ks) → R (.ok (.ret .none)) s') → codeAny (model P w) A (.builtin "set.update.loop" ⟨[.ref S, .ref I], []⟩) R s := by
  have hw : S ∉ wr := fun z => hS (W.sub _ z)
  have sub : ∀ b ∈ wr, b ∈ S :: wr := fun b z => List.mem_cons_of_mem _ z
  intro k
  induction k with
  | zero =>
    intro i s M hk hi st hM _ hz q
    have e : i = n := by omega
    subst e
    refine codeAny_builtin PyProof.Rows.F.entry_set_update_loop ?_
    rw [Around.under_plainId PyProof.Rows.F.plain_set_update_loop _]
    show wpAny _ A.in1 (pyNext (.ref I) >>= _) _ _ s
    refine wpAny_bind (W.done s _ _ st fun s' mv => ?_)
    show wpAny _ A.in1 (ret Value.none) _ _ s'
    refine wpAny_pure (q s' M (mv.mono sub) (hM.at fun o z => mv.heap S o hw z) fun z => ?_)
    rw [hz z, ← hn, List.take_length]
  | succ k ih =>
    intro i s M hk hi st hM hl hz q
    have lt : i < n := by omega
    refine codeAny_builtin PyProof.Rows.F.entry_set_update_loop ?_
    rw [Around.under_plainId PyProof.Rows.F.plain_set_update_loop _]
    show wpAny _ A.in1 (pyNext (.ref I) >>= _) _ _ s
    refine wpAny_bind (W.item i s _ _ lt st fun v s' hP st' mv => ?_)
    obtain ⟨pl, kv⟩ := hv i v hP
    have hM' : SetQ P w s'.heap S M := hM.at fun o z => mv.heap S o hw z
    show wpAny _ A.in1 (holding [v] (setAdd S v) >>= _) _ _ s'
    refine wpAny_bind (wpAny_holding ?_)
    unfold setAdd
    refine wpAny_holding ?_
    refine wpAny_bind ((mixKind P w).pyHash (plain_is pl) ?_)
    refine add_row (s := { s' with toks := s'.toks + 1 }) pl hM' (by unfold scanBound; omega) fun h' M' b sb r hM2 => ?_
    have tk : ks.take (i + 1) = ks.take i ++ [kOf v] := by
      obtain ⟨hlt, e⟩ := List.getElem?_eq_some_iff.mp kv
      rw [← e]
      exact List.take_succ_eq_append_getElem hlt
    have l2 : M'.length ≤ i + 1 := by
      rcases hM2 with ⟨_, rfl⟩ | ⟨_, pm⟩
      · omega
      · rw [pm.length_eq, List.length_cons]
        omega
    have z2 : ∀ z, z ∈ M' ↔ z ∈ ks.take (i + 1) := fun z => by
      rw [tk, List.mem_append, List.mem_singleton, ← hz z]
      rcases hM2 with ⟨hm, rfl⟩ | ⟨_, pm⟩
      · exact ⟨.inl, fun y => y.elim id fun e => e ▸ hm⟩
      · rw [pm.mem_iff, List.mem_cons]
        exact Or.comm
    refine wpAny_pure ⟨plainId_quiet PyProof.Rows.F.plain_set_update_loop _, ih (i + 1) _ M' (by omega) lt (W.frame _ s' _ _ st' (Nat.le_succ _) fun c hc o z => ?_) r l2 z2 fun s2 M2 mv2 r2 f2 => ?_⟩
    · exact (sb.2 c fun e => hS (e ▸ hc)).trans z
    · refine q s2 M2 (Moved.trans W.gtrans ((mv.mono sub).then_heap (Nat.le_succ _) fun c o hc z => ?_) mv2) r2 f2
      exact (sb.2 c fun e => hc (e ▸ List.mem_cons_self)).trans z
end
end Yk

namespace Yk
open PySem PySem.Spec PyProof.Rows L2
abbrev ob0 (w : World) : Obj := { cls := .type "set", dict := none, data := .set #[] 0 (.fresh 0 0 (!w.params.followText "set-order")) }
section
variable {P : Program} {w : World} {A : Around} {E : Value → Shared → Prop} {s : Shared}

set_option maxHeartbeats 8000000 in
/-- set(x), x a list of ints and texts -/
theorem call_set_list {l : Addr} {items : Array Value} {ks : List L2.Key} {Q : Value → Shared → Prop} (hh : A.handled = none) (hl : s.heap.IsList l items) (hk : ks.length = items.size) (hv : ∀ (i : Nat) (v : Value), items[i]? = some v → Plain v ∧ ks[i]? = some (kOf v)) (few : ks.length < 1000)
    (q : ∀ (h' : Heap) (tk : Nat) (M : List L2.Key), SetQ P w h' s.heap.objs.size M → (∀ z, z ∈ M ↔ z ∈ ks) → (∀ b o, s.heap.get? b = some o → h'.get? b = some o) → Q (.ref s.heap.objs.size) { s with heap := h', toks := tk }) :
    wpAny (model P w) A (call (.type "set") [.ref l]) Q E s := by
  obtain ⟨c, tl, mr⟩ := PySem.F.called_set.mro
  have md := PySem.F.called_set.made
  have sb := PySem.F.called_set.sub
  refine wpAny_call (codeAny_of_tree ?_)
  show wpAny _ _ (callAny (.type "set") _) _ _ _
  refine wpAny_pure ⟨Code.quiet_builtin _ (by decide +kernel), codeAny_builtin PySem.F.entry_type_call ?_⟩
  rw [Around.under_plain (weight_type_call_type "set" [.ref l] []) rfl]
  have t1 := PySem.F.called_set.notType
  have t2 := PySem.F.called_set.canCreate
  have t3 := PySem.F.typeCall_set_1 (.ref l)
  repeat (any_goals (first | assumption | wp_step))
  refine codeAny_mono (code_set_led1 (.ref l) (E := E) (Q₁ := fun ob s₁ => ob = .ref s.heap.objs.size ∧ s₁ = { s with heap := s.heap.push (ob0 w) }) ⟨rfl, rfl⟩) fun r s₁ hr => ?_
  cases r with
  | error e => exact hr
  | ok fl =>
    cases fl with
    | ret ob =>
      obtain ⟨rfl, rfl⟩ := hr
      have gS : (s.heap.push (ob0 w)).get? s.heap.objs.size = some (ob0 w) := Heap.get?_push_size _ rfl
      have ty : Shared.TypeIs { s with heap := s.heap.push (ob0 w) } (.ref s.heap.objs.size) "set" := ⟨_, gS, rfl⟩
      have i1 := PySem.F.called_set.init.lookup
      have i2 := PySem.F.called_set.init.bind (.ref s.heap.objs.size)
      repeat (any_goals (first | assumption | wp_step))
      refine codeAny_mono (codeAny_call_builtin (R := wants (fun r s₂ => r = .none ∧ ∃ h' tk M, s₂ = { s with heap := h', toks := tk } ∧ SetQ P w h' s.heap.objs.size M ∧ (∀ z, z ∈ M ↔ z ∈ ks) ∧ (∀ b o, s.heap.get? b = some o → h'.get? b = some o)) E)
        PySem.F.called_set.init.plain PySem.F.entry_set_init (check_set_init_1 ty ?_)) fun r₂ s₂ hr₂ => ?_
      · obtain ⟨ol, go, cl, nl, da⟩ := hl
        obtain ⟨oc, od, odt, osl⟩ := ol
        simp only at cl da
        subst cl
        subst da
        have g1 : (s.heap.push (ob0 w)).get? l = some { cls := .type "list", dict := od, data := .seq items nl, slots := osl } := Heap.get?_push_of_some _ go
        have u1 := PySem.F.sub_list_set
        have u2 := PySem.F.sub_list_frozenset
        have u3 : (Value.type "list" == Value.type "dict") = false := by decide
        have l1 : (s.heap.push (ob0 w)).IsList l items := ⟨_, g1, rfl, nl, rfl⟩
        unfold Builtin.«set.__init__» noKeywords Builtin.Frozenset.updateFrom
        generalize hPI : pyIter = PI
        wp_walk
        subst hPI
        refine wpAny_pyIter_list l1 ?_
        refine wpAny_bind (wpAny_runValue ?_)
        have lt : l < s.heap.objs.size := Heap.lt_size go
        have h3 : A.in1.in1.in1.handled = none := by simp [hh]
        have z1 : (s.heap.push (ob0 w)).objs.size = s.heap.objs.size + 1 := Heap.size_push ..
        have n1 : l ≠ (s.heap.push (ob0 w)).objs.size := by
          rw [z1]
          exact Nat.ne_of_lt (Nat.lt_succ_of_lt lt)
        have n2 : s.heap.objs.size ∉ [(s.heap.push (ob0 w)).objs.size, l] := by
          rw [z1]
          simp only [List.mem_cons, List.not_mem_nil, or_false, not_or]
          exact ⟨Nat.ne_of_lt (Nat.lt_succ_self _), Nat.ne_of_gt lt⟩
        refine fill ((Walks.list h3 _ l n1 items).toS) s.heap.objs.size n2 ks hk (by omega) hv (items.size - 0) 0 _ [] rfl (Nat.zero_le _) ⟨⟨_, Heap.get?_push_size _ rfl, rfl, rfl⟩, l1.push _⟩ (new_set (led := !w.params.followText "set-order") ?_ (Heap.get?_push_of_some _ gS)) (Nat.le_refl _)
          (fun z => by simp) fun s' M mv r f => ?_
        · cases w.params.followText "set-order"
          · exact .inr rfl
          · exact .inl rfl
        · obtain ⟨h', g2, d', tk', os'⟩ := s'
          have eg : g2 = s.gens := mv.gens
          have ed : d' = s.drawn := mv.drawn
          have eo : os' = s.os := mv.os
          subst eg
          subst ed
          subst eo
          show wpAny _ _ _ _ _ _
          refine wpAny_pure ?_
          show wpAny _ _ (ret Value.none) _ _ _
          refine wpAny_pure ⟨rfl, h', tk', M, rfl, r, f, fun b o e => ?_⟩
          have hb := Heap.lt_size e
          refine mv.heap b o ?_ (Heap.get?_push_of_some _ (Heap.get?_push_of_some _ e))
          rw [z1]
          simp only [List.mem_cons, List.not_mem_nil, or_false, not_or]
          exact ⟨Nat.ne_of_lt hb, Nat.ne_of_lt (Nat.lt_succ_of_lt hb)⟩
      · cases r₂ with
        | error e => exact hr₂
        | ok fl₂ =>
          cases fl₂ with
          | ret r =>
            obtain ⟨rfl, h', tk, M, rfl, r, f, k⟩ := hr₂
            repeat (any_goals (first | assumption | wp_step))
            exact q _ _ M r f k
          | _ => exact hr₂.elim
    | _ => exact hr.elim

set_option maxHeartbeats 8000000 in
/-- set(x), x a tuple of ints and texts -/
theorem call_set_tuple {l : Addr} {items : Array Value} {ks : List L2.Key} {Q : Value → Shared → Prop} (hh : A.handled = none) (hl : s.heap.IsTuple l items) (hk : ks.length = items.size) (hv : ∀ (i : Nat) (v : Value), items[i]? = some v → Plain v ∧ ks[i]? = some (kOf v)) (few : ks.length < 1000)
    (q : ∀ (h' : Heap) (tk : Nat) (M : List L2.Key), SetQ P w h' s.heap.objs.size M → (∀ z, z ∈ M ↔ z ∈ ks) → (∀ b o, s.heap.get? b = some o → h'.get? b = some o) → Q (.ref s.heap.objs.size) { s with heap := h', toks := tk }) :
    wpAny (model P w) A (call (.type "set") [.ref l]) Q E s := by
  obtain ⟨c, tl, mr⟩ := PySem.F.called_set.mro
  have md := PySem.F.called_set.made
  have sb := PySem.F.called_set.sub
  refine wpAny_call (codeAny_of_tree ?_)
  show wpAny _ _ (callAny (.type "set") _) _ _ _
  refine wpAny_pure ⟨Code.quiet_builtin _ (by decide +kernel), codeAny_builtin PySem.F.entry_type_call ?_⟩
  rw [Around.under_plain (weight_type_call_type "set" [.ref l] []) rfl]
  have t1 := PySem.F.called_set.notType
  have t2 := PySem.F.called_set.canCreate
  have t3 := PySem.F.typeCall_set_1 (.ref l)
  repeat (any_goals (first | assumption | wp_step))
  refine codeAny_mono (code_set_led1 (.ref l) (E := E) (Q₁ := fun ob s₁ => ob = .ref s.heap.objs.size ∧ s₁ = { s with heap := s.heap.push (ob0 w) }) ⟨rfl, rfl⟩) fun r s₁ hr => ?_
  cases r with
  | error e => exact hr
  | ok fl =>
    cases fl with
    | ret ob =>
      obtain ⟨rfl, rfl⟩ := hr
      have gS : (s.heap.push (ob0 w)).get? s.heap.objs.size = some (ob0 w) := Heap.get?_push_size _ rfl
      have ty : Shared.TypeIs { s with heap := s.heap.push (ob0 w) } (.ref s.heap.objs.size) "set" := ⟨_, gS, rfl⟩
      have i1 := PySem.F.called_set.init.lookup
      have i2 := PySem.F.called_set.init.bind (.ref s.heap.objs.size)
      repeat (any_goals (first | assumption | wp_step))
      refine codeAny_mono (codeAny_call_builtin (R := wants (fun r s₂ => r = .none ∧ ∃ h' tk M, s₂ = { s with heap := h', toks := tk } ∧ SetQ P w h' s.heap.objs.size M ∧ (∀ z, z ∈ M ↔ z ∈ ks) ∧ (∀ b o, s.heap.get? b = some o → h'.get? b = some o)) E)
        PySem.F.called_set.init.plain PySem.F.entry_set_init (check_set_init_1 ty ?_)) fun r₂ s₂ hr₂ => ?_
      · obtain ⟨ol, go, cl, nl, da⟩ := hl
        obtain ⟨oc, od, odt, osl⟩ := ol
        simp only at cl da
        subst cl
        subst da
        have g1 : (s.heap.push (ob0 w)).get? l = some { cls := .type "tuple", dict := od, data := .seq items nl, slots := osl } := Heap.get?_push_of_some _ go
        have u1 := PySem.F.sub_tuple_set
        have u2 := PySem.F.sub_tuple_frozenset
        have u3 : (Value.type "tuple" == Value.type "dict") = false := by decide
        have l1 : (s.heap.push (ob0 w)).IsTuple l items := ⟨_, g1, rfl, nl, rfl⟩
        unfold Builtin.«set.__init__» noKeywords Builtin.Frozenset.updateFrom
        generalize hPI : pyIter = PI
        wp_walk
        subst hPI
        refine wpAny_pyIter_tuple l1 ?_
        refine wpAny_bind (wpAny_runValue ?_)
        have lt : l < s.heap.objs.size := Heap.lt_size go
        have h3 : A.in1.in1.in1.handled = none := by simp [hh]
        have z1 : (s.heap.push (ob0 w)).objs.size = s.heap.objs.size + 1 := Heap.size_push ..
        have n1 : l ≠ (s.heap.push (ob0 w)).objs.size := by
          rw [z1]
          exact Nat.ne_of_lt (Nat.lt_succ_of_lt lt)
        have n2 : s.heap.objs.size ∉ [(s.heap.push (ob0 w)).objs.size, l] := by
          rw [z1]
          simp only [List.mem_cons, List.not_mem_nil, or_false, not_or]
          exact ⟨Nat.ne_of_lt (Nat.lt_succ_self _), Nat.ne_of_gt lt⟩
        refine fill ((Walks.tuple h3 _ l n1 items).toS) s.heap.objs.size n2 ks hk (by omega) hv (items.size - 0) 0 _ [] rfl (Nat.zero_le _) ⟨⟨_, Heap.get?_push_size _ rfl, rfl, rfl⟩, l1.push _⟩ (new_set (led := !w.params.followText "set-order") ?_ (Heap.get?_push_of_some _ gS)) (Nat.le_refl _)
          (fun z => by simp) fun s' M mv r f => ?_
        · cases w.params.followText "set-order"
          · exact .inr rfl
          · exact .inl rfl
        · obtain ⟨h', g2, d', tk', os'⟩ := s'
          have eg : g2 = s.gens := mv.gens
          have ed : d' = s.drawn := mv.drawn
          have eo : os' = s.os := mv.os
          subst eg
          subst ed
          subst eo
          show wpAny _ _ _ _ _ _
          refine wpAny_pure ?_
          show wpAny _ _ (ret Value.none) _ _ _
          refine wpAny_pure ⟨rfl, h', tk', M, rfl, r, f, fun b o e => ?_⟩
          have hb := Heap.lt_size e
          refine mv.heap b o ?_ (Heap.get?_push_of_some _ (Heap.get?_push_of_some _ e))
          rw [z1]
          simp only [List.mem_cons, List.not_mem_nil, or_false, not_or]
          exact ⟨Nat.ne_of_lt hb, Nat.ne_of_lt (Nat.lt_succ_of_lt hb)⟩
      · cases r₂ with
        | error e => exact hr₂
        | ok fl₂ =>
          cases fl₂ with
          | ret r =>
            obtain ⟨rfl, h', tk, M, rfl, r, f, k⟩ := hr₂
            repeat (any_goals (first | assumption | wp_step))
            exact q _ _ M r f k
          | _ => exact hr₂.elim
    | _ => exact hr.elim

end
/-! ### as rules -/
def SetKO (P : Program) (w : World) (a : Addr) (L : List L2.Key) : HO := .ext fun h => SetQ P w h a L
theorem setKO_new {P : Program} {w : World} {H : Hp} {h : Heap} {a : Addr} {L : List L2.Key} (R : SetQ P w h a L) : ObjOk P w H h a (SetKO P w a L) := ⟨R, R.there, fun h1 h2 p k => SetQ.at p k⟩
section
variable {X : Cx}
theorem setKO_get {pins : List (Addr × Obj)} {σ : L2.St} {H : Hp} {s : Shared} {a : Addr} {L : List L2.Key} (I : Inv X pins σ H s) (ha : H a = some (SetKO X.prog X.w a L)) : SetQ X.prog X.w s.heap a L := (I.hok a _ ha).1
theorem keys_at {ks : List L2.Key} {us : List Value} (r : Vals (ks.map kV) us) : ks.length = us.toArray.size ∧ ∀ (i : Nat) (v : Value), us.toArray[i]? = some v → Plain v ∧ ks[i]? = some (kOf v) := by
  have hl : ks.length = us.length := by
    have z := r.length
    rw [List.length_map] at z
    exact z
  refine ⟨by simpa using hl, fun i v hv => ?_⟩
  have hv' : us[i]? = some v := by simpa using hv
  have hi : i < ks.length := by
    rw [hl]
    exact (List.getElem?_eq_some_iff.mp hv').1
  obtain ⟨u, hu, ru⟩ := r.get (i := i) (x := kV ks[i]) (by rw [List.getElem?_map, List.getElem?_eq_getElem hi] <;> rfl)
  rw [hv'] at hu
  cases hu
  obtain ⟨p, e⟩ := rel_plain ru
  exact ⟨p, by rw [e]; exact List.getElem?_eq_getElem hi⟩
/-- set(xs), a list or a tuple of ints and texts -/
def rSetK (K : PySem.W.Frag) (P : Program) (w : World) : List V → Hp → VK → Prop := fun xs H Q => ∃ (a : Addr) (ks : List L2.Key), xs = [.ref a] ∧ (SqL K H a (ks.map kV) ∨ SqT K H a (ks.map kV)) ∧ ks.length < 1000 ∧
  ∀ (p : Addr) (M : List L2.Key), M.Nodup → (∀ z, z ∈ M ↔ z ∈ ks) → H p = none → Q (.ref p) (upd H p (SetKO P w p M))
theorem SetQ.nd {P : Program} {w : World} {h : Heap} {a : Addr} {L : List L2.Key} (R : SetQ P w h a L) : L.Nodup := let ⟨_, _, _, _, _, _, _, _, _, n, _⟩ := R; n
theorem cr_setK (hc : X.calm = true) : CallR X (.type "set") (rSetK X.K X.prog X.w) := by
  intro pins s σ H xs us Q I r h
  obtain ⟨a, ks, rfl, hs, few, q⟩ := h
  rw [Vals.ref1 r]
  have fin : ∀ (h' : Heap) (tk : Nat) (M : List L2.Key), SetQ X.prog X.w h' s.heap.objs.size M → (∀ z, z ∈ M ↔ z ∈ ks) → (∀ b o, s.heap.get? b = some o → h'.get? b = some o) → EP X pins σ Q (.ref s.heap.objs.size) { s with heap := h', toks := tk } := fun h' tk M R f k =>
    ⟨.ref _, upd H s.heap.objs.size (SetKO X.prog X.w s.heap.objs.size M), I.laid (t' := tk) k (Nat.le_refl _) (setKO_new R), rfl, q _ M R.nd f (I.hok.fresh (Nat.le_refl _))⟩
  rcases hs with hs | hs
  · obtain ⟨its, rv, pl, _⟩ := I.list hs
    obtain ⟨e, v⟩ := keys_at rv
    exact call_set_list (I.ok.hd hc) pl.isList e v few fin
  · obtain ⟨its, rv, pl, _⟩ := I.tuple hs
    obtain ⟨e, v⟩ := keys_at rv
    exact call_set_tuple (I.ok.hd hc) (show s.heap.IsTuple a its.toArray from pl) e v few fin
end
end Yk

namespace Yk
open PySem PySem.Spec PyProof.Rows L2
section
variable {P : Program} {w : World} {A : Around} {E : Value → Shared → Prop} {s : Shared} {a : Addr} {L : List L2.Key}
/-- what sorted makes of a set: the list of its members, in some order, put in order by list.sort -/
theorem sorted_of {Q : Value → Shared → Prop} (R : SetQ P w s.heap a L) (hh : A.handled = none)
    (q : ∀ (s1 : Shared) (vs : List Value), (∀ b o, s.heap.get? b = some o → s1.heap.get? b = some o) → s.heap.objs.size ≤ s1.heap.objs.size → s1.gens = s.gens → s1.os = s.os → (∀ v ∈ vs, Plain v) → (vs.map kOf).Perm L →
      wpAny (model P w) A.in1 (call (.builtin "list.sort") [.ref s1.heap.objs.size]) (fun _ s2 => Q (.ref s1.heap.objs.size) s2) E { s1 with heap := s1.heap.push (seqObj "list" vs.toArray 0) }) :
    wpAny (model P w) A (call (.builtin "sorted") [.ref a]) Q E s := by
  obtain ⟨o, es, ep, t, ho, hex, hd, g, rfl, nd, hb, hf, hr, hl⟩ := R
  refine Calls.call_function_entry kind_sorted plain_sorted entry_sorted (args_sorted1 _) ?_
  unfold Builtin.«sorted»
  refine wpAny_bind (m := checkCount "sorted" 1 1 _) (wpAny_pure ?_)
  refine wpAny_bind (collect_set (A := A.in1) hh ⟨o, ho, hex.1, hd⟩ hf hb hr hl fun s1 vs k1 hz g1 o1 pm => ?_)
  have sz : vs.length = es.size := by
    have z := pm.length_eq
    rw [List.length_map, Array.length_toList] at z
    exact z
  have pl : ∀ v ∈ vs, Plain v := fun v hv => by
    obtain ⟨e, he, rfl⟩ := List.mem_map.mp (pm.mem_iff.mp hv)
    exact (g e he).1
  have pk : (vs.map kOf).Perm (es.toList.map fun e => kOf e.2) := by
    have z := pm.map kOf
    rw [List.map_map] at z
    exact z
  refine wpAny_bind (wpAny_newList ?_ (by rw [sz]; exact fits_of_scanBound hb))
  refine wpAny_bind (wpAny_holding (wpAny_mono (q s1 vs k1 hz g1 o1 pl pk) (fun r s2 z => ?_) fun _ _ z => z))
  exact wpAny_pure ⟨_, rfl, z⟩
end
section
variable {X : Cx}
theorem ints_keys : ∀ {vs : List Value} {ns : List Int}, (∀ v ∈ vs, Plain v) → vs.map kOf = ns.map Sum.inl → IntsAre vs ns
  | [], [], _, _ => .nil
  | v :: vs, n :: ns, p, e => by
    injection e with e1 e2
    rcases p v List.mem_cons_self with ⟨i, t, rfl⟩ | ⟨x, t, rfl⟩
    · have : i = n := Sum.inl.inj e1
      subst this
      exact .cons _ _ (ints_keys (fun u hu => p u (List.mem_cons_of_mem _ hu)) e2)
    · cases e1
theorem strs_keys : ∀ {vs : List Value} {ns : List Str}, (∀ v ∈ vs, Plain v) → vs.map kOf = ns.map Sum.inr → StrsAre vs ns
  | [], [], _, _ => .nil
  | v :: vs, n :: ns, p, e => by
    injection e with e1 e2
    rcases p v List.mem_cons_self with ⟨i, t, rfl⟩ | ⟨x, t, rfl⟩
    · cases e1
    · have : x = n := Sum.inr.inj e1
      subst this
      exact .cons _ _ (strs_keys (fun u hu => p u (List.mem_cons_of_mem _ hu)) e2)
theorem perm_ints {l : List L2.Key} {ms : List Int} (h : l.Perm (ms.map Sum.inl)) : ∃ ns : List Int, l = ns.map Sum.inl ∧ ns.Perm ms := by
  have all : ∀ k ∈ l, ∃ n : Int, k = Sum.inl n := fun k hk => by
    obtain ⟨n, _, e⟩ := List.mem_map.mp (h.mem_iff.mp hk)
    exact ⟨n, e.symm⟩
  have e : l = (l.map fun k => match k with | Sum.inl n => n | Sum.inr _ => (0 : Int)).map Sum.inl := by
    rw [List.map_map]
    conv => lhs; rw [← List.map_id l]
    refine List.map_congr_left fun k hk => ?_
    obtain ⟨n, rfl⟩ := all k hk
    rfl
  refine ⟨_, e, ?_⟩
  have z := h.map fun k : L2.Key => match k with | Sum.inl n => n | Sum.inr _ => (0 : Int)
  rw [List.map_map] at z
  have e2 : ms.map ((fun k : L2.Key => match k with | Sum.inl n => n | Sum.inr _ => (0 : Int)) ∘ Sum.inl) = ms := by
    conv => rhs; rw [← List.map_id ms]
    exact List.map_congr_left fun _ _ => rfl
  rw [e2] at z
  exact z
theorem perm_strs {l : List L2.Key} {ms : List Str} (h : l.Perm (ms.map Sum.inr)) : ∃ ns : List Str, l = ns.map Sum.inr ∧ ns.Perm ms := by
  have all : ∀ k ∈ l, ∃ n : Str, k = Sum.inr n := fun k hk => by
    obtain ⟨n, _, e⟩ := List.mem_map.mp (h.mem_iff.mp hk)
    exact ⟨n, e.symm⟩
  have e : l = (l.map fun k => match k with | Sum.inl _ => Str.empty | Sum.inr n => n).map Sum.inr := by
    rw [List.map_map]
    conv => lhs; rw [← List.map_id l]
    refine List.map_congr_left fun k hk => ?_
    obtain ⟨n, rfl⟩ := all k hk
    rfl
  refine ⟨_, e, ?_⟩
  have z := h.map fun k : L2.Key => match k with | Sum.inl _ => Str.empty | Sum.inr n => n
  rw [List.map_map] at z
  have e2 : ms.map ((fun k : L2.Key => match k with | Sum.inl _ => Str.empty | Sum.inr n => n) ∘ Sum.inr) = ms := by
    conv => rhs; rw [← List.map_id ms]
    exact List.map_congr_left fun _ _ => rfl
  rw [e2] at z
  exact z
/-- sorted of such a set, fewer than 64 members -/
def rSortedK (P : Program) (w : World) : List V → Hp → VK → Prop := fun vs H Q => ∃ (a : Addr) (L : List L2.Key), vs = [.ref a] ∧ H a = some (SetKO P w a L) ∧ L.length < 64 ∧
  ((∃ ms : List Int, L = ms.map Sum.inl ∧ ∀ (ns : List Int) (p : Addr), ns.Perm ms → ns.Pairwise (· ≤ ·) → H p = none → Q (.ref p) (upd H p (.lst (ns.map V.int)))) ∨
   ∃ ms : List Str, L = ms.map Sum.inr ∧ ∀ (ns : List Str) (p : Addr), ns.Perm ms → sortedS ns = true → H p = none → Q (.ref p) (upd H p (.lst (ns.map V.str))))
theorem cr_sortedK (hc : X.calm = true) : CallR X (.builtin "sorted") (rSortedK X.prog X.w) := by
  intro pins s σ H xs us Q I r h
  obtain ⟨a, L, rfl, ha, h64, q⟩ := h
  rw [Vals.ref1 r]
  refine sorted_of (setKO_get I ha) (I.ok.hd hc) fun s1 vs k1 hz g1 o1 pl pk => ?_
  have hv : vs.length < 64 := by
    have z := pk.length_eq
    rw [List.length_map] at z
    omega
  have gL : (s1.heap.push (seqObj "list" vs.toArray 0)).get? s1.heap.objs.size = some (seqObj "list" vs.toArray 0) := Heap.get?_push_size _ rfl
  have fin : ∀ (ys : List V) (out : Array Value), Vals ys out.toList → ys.length ≤ sizeLine → Q (.ref s1.heap.objs.size) (upd H s1.heap.objs.size (.lst ys)) →
      EP X pins σ Q (.ref s1.heap.objs.size) { s1 with heap := sortedHeap (s1.heap.push (seqObj "list" vs.toArray 0)) s1.heap.objs.size vs out } := fun ys out rv hy z => by
    obtain ⟨c, hcc⟩ := sortedHeap_at (vs := vs) (out := out) gL
    have k : ∀ b u, s.heap.get? b = some u → (sortedHeap (s1.heap.push (seqObj "list" vs.toArray 0)) s1.heap.objs.size vs out).get? b = some u := fun b u e => by
      have e1 := k1 b u e
      have lt := Heap.lt_size e1
      rw [sortedHeap_old (Nat.ne_of_lt lt) (by rw [size_push']; exact Nat.lt_succ_of_lt lt)]
      exact Heap.get?_push_of_some _ e1
    have hn := I.hok.fresh hz
    have J : Inv X pins σ (upd H s1.heap.objs.size (.lst ys)) { s with heap := sortedHeap (s1.heap.push (seqObj "list" vs.toArray 0)) s1.heap.objs.size vs out, gens := s1.gens, drawn := s1.drawn, toks := s1.toks } :=
      I.call (ch := []) (Un.laid k hz hn) (I.hok.laid k hz ⟨hy, out.toList, c, rv, hcc⟩) (by rw [g1]; exact I.bare) (fun _ z => nomatch z)
    have e : { s1 with heap := sortedHeap (s1.heap.push (seqObj "list" vs.toArray 0)) s1.heap.objs.size vs out } = { s with heap := sortedHeap (s1.heap.push (seqObj "list" vs.toArray 0)) s1.heap.objs.size vs out, gens := s1.gens, drawn := s1.drawn, toks := s1.toks } := by
      cases s1
      cases s
      cases o1
      rfl
    rw [e]
    exact ⟨.ref _, _, J, rfl, z⟩
  rcases q with ⟨ms, rfl, q⟩ | ⟨ms, rfl, q⟩
  · obtain ⟨ns, en, pn⟩ := perm_ints pk
    have iv := ints_keys pl en
    refine wpAny_call_entry slot_list_sort ⟨_, gL, rfl⟩ entry_list_sort (list_sort_tree gL iv hv fun out ns' a1 a2 a3 => ⟨_, rfl, ?_⟩) (args_list_sort _)
    refine fin (ns'.map V.int) out (vals_of_ints a1) ?_ (q ns' _ (a2.trans pn) a3 (I.hok.fresh hz))
    rw [List.length_map, (a2.trans pn).length_eq]
    rw [List.length_map] at h64
    exact Nat.le_trans (Nat.le_of_lt h64) (by decide)
  · obtain ⟨ns, en, pn⟩ := perm_strs pk
    have iv := strs_keys pl en
    refine wpAny_call_entry slot_list_sort ⟨_, gL, rfl⟩ entry_list_sort (list_sort_treeK strKind_oneLt gL iv.keysOf (fun v₁ v₂ rest e => keyKind_strs (by rw [← e]; exact iv)) hv fun st' hp hs => ?_) (args_list_sort _)
    obtain ⟨ys, b1, b2, b3⟩ := sorted_out_str iv hp hs
    refine ⟨_, rfl, ?_⟩
    refine fin (ys.map V.str) _ (vals_of_strs b1) ?_ (q ys _ (b2.trans pn) b3 (I.hok.fresh hz))
    rw [List.length_map, (b2.trans pn).length_eq]
    rw [List.length_map] at h64
    exact Nat.le_trans (Nat.le_of_lt h64) (by decide)
end
end Yk

namespace Kj
open PySem PySem.Spec PyProof.Rows L2
def topS (i : Nat) : Stmt := PySem.Challenge.pw_countedonce_k03_whole_read.main.body.getD i (.Pass ⟨0, 0, 0, 0⟩)
abbrev sCell : Stmt := topS 58
abbrev sDraw : Stmt := topS 59
abbrev sNumb : Stmt := topS 60
abbrev sNext : Stmt := topS 61
abbrev sPick : Stmt := topS 62
section
variable {P : Program} {w : World} {K : PySem.W.Frag} {mg : Str → Option Value} {base : Heap}
/-- a def of the top that keeps a promise, and may be called by its name -/
structure Ready (P : Program) (w : World) (K : PySem.W.Frag) (mg : Str → Option Value) (base : Heap) (k : Nat) (x : Str) (ps : List Str) (sp : Sp) : Prop where
  ex : ∃ f fd, FnOk P w K mg base CX0 k f fd ps sp ∧ Binds K fd ps [] ∧ mg x = some (.ref f) ∧ PySem.W.keepIn K (.ref f) = true
end
theorem pe_fn {X : Cx} {k : Nat} {x : Str} {ps : List Str} {sp : Sp} {p pos : Pos} {e : Expr} {es : List Expr} {t : TA} (G : Ready X.prog X.w X.K X.mg X.base k x ps sp) (hr : Room k X.A) (ha : PA X (e :: es) t) (hg : Gl X x := by rfl)
    (hdb : (x == ("__debug__" : Str)) = false := by decide) (he : starEach (e :: es) X.env = (false, eval e X.env) :: starEach es X.env := by rfl) (hpl : (backTo pos (starEach es X.env)).any (·.1) = false := by rfl) :
    PE X (.Call (.Name x p) (e :: es) [] pos) (tCall sp [] E0 t) := by
  obtain ⟨f, fd, h, hb, hm, hk⟩ := G.ex
  exact pe_call h hr hg hm hk hb .nil pass0 ha hdb he hpl
/-- all that was tracked is as it was, but what stands at d -/
def But (d : Addr) (H H' : Hp) : Prop := ∀ b o, b ≠ d → H b = some o → H' b = some o
theorem But.refl (d : Addr) (H : Hp) : But d H H := fun _ _ _ h => h
theorem But.trans {d : Addr} {H H1 H2 : Hp} (a : But d H H1) (b : But d H1 H2) : But d H H2 := fun c o n h => b c o n (a c o n h)
theorem same_but {d : Addr} {H H' : Hp} (a : Same H H') : But d H H' := fun c o _ h => a c o h
theorem same_upd {H : Hp} {p : Addr} {o : HO} (h : H p = none) : Same H (upd H p o) := fun b x e => by
  rw [upd_ne (ne_of_none e h)]
  exact e
section
variable {P : Program} {w : World} {K : PySem.W.Frag} {mg : Str → Option Value} {base : Heap}
/-! ### the law's draws -/
def spCell (K : PySem.W.Frag) : Sp := fun vs H Q _ => ∃ (a : Addr) (ns : List Int) (k : Int), vs = [.ref a, .int k] ∧ SqL K H a (ns.map V.int) ∧ 0 ≤ k ∧ ∀ c : Int, Q (.int c) H
theorem sc_cell : FnScope ["script", "k"] ["script", "k"] (defScope sCell) := ⟨rfl, rfl, rfl, by decide +kernel, rfl, by decide +kernel, by decide +kernel⟩
theorem ok_cell {f : Addr} {fd : FuncData} (F : Fun K "_law_cell_at" "_law_cell_at" sCell f fd) (m_len : mg "len" = none) : FnOk P w K mg base CX0 1 f fd ["script", "k"] (spCell K) := by
  refine F.ok sc_cell (fun vs H Q E h => ?_) (fun cdv A outer s H vs Q E hr h => ?_)
  · obtain ⟨a, ns, k, rfl, _⟩ := h
    rfl
  obtain ⟨a, ns, k, rfl, hS, h0, q⟩ := h
  refine ⟨_, pss_cons (ps_if (pt_cmpR op_lt (pv 1) (pe_callB call_len_seq (by rfl) m_len PySem.boot_len (pa_cons (pv 0) pa_nil)) (nomark _)) (pss_one (ps_ret (pe_ix ix_list (pv 0) (pv 1) (fun _ _ => rfl)))) (pss_nil))
      (pss_one (ps_ret pe_int)), ?_⟩
  refine ⟨_, rfl, _, rfl, a, _, rfl, .inl hS, _, _, rfl, rfl, _, rfl, ?_⟩
  refine ite2 (fun c => ?_) (fun c => q 0)
  have c' : k < ((ns.map V.int).length : Int) := of_decide_eq_true c
  have ek : k = ((k.toNat : Nat) : Int) := by omega
  have hk : k.toNat < ns.length := by rw [List.length_map] at c'; omega
  have ha : atI (ns.map V.int) ((k.toNat : Nat) : Int) = some (.int ns[k.toNat]) := atI_nat (by rw [List.getElem?_map, List.getElem?_eq_getElem hk] <;> rfl)
  rw [← ek] at ha
  exact ⟨_, rfl, _, rfl, a, _, _, _, rfl, rfl, hS, ha, q _⟩
def spDraw : Sp := fun vs H Q _ => ∃ (c k b : Int), vs = [.int c, .int k, .int b] ∧ 0 < b ∧ ∀ (r : Int) (H' : Hp), 0 ≤ r → r < b → Same H H' → Q (.int r) H'
theorem sc_draw : FnScope ["cell", "k", "bound", "primes"] ["cell", "k", "bound"] (defScope sDraw) := ⟨rfl, rfl, rfl, by decide +kernel, rfl, by decide +kernel, by decide +kernel⟩
def primesL : List Int := [1000003, 1000033, 1000037, 1000039, 1000081, 1000099, 1000117, 1000121, 1000133, 1000151, 1000159, 1000171, 1000183, 1000187, 1000193, 1000199]
theorem primes_at {i : Int} (h0 : 0 ≤ i) (h : i < 16) : ∃ p : Int, 0 < p ∧ atI (primesL.map V.int) i = some (.int p) := by
  have ei : i = ((i.toNat : Nat) : Int) := by omega
  have hk : i.toNat < primesL.length := by show i.toNat < 16; omega
  refine ⟨primesL[i.toNat], ?_, ?_⟩
  · have : ∀ x ∈ primesL, (0 : Int) < x := by decide
    exact this _ (List.getElem_mem hk)
  · have q : atI (primesL.map V.int) ((i.toNat : Nat) : Int) = some (.int primesL[i.toNat]) := atI_nat (by rw [List.getElem?_map, List.getElem?_eq_getElem hk] <;> rfl)
    rw [← ei] at q
    exact q
theorem ok_draw {f : Addr} {fd : FuncData} (F : Fun K "_law_draw" "_law_draw" sDraw f fd) (m_int : mg "int" = none) : FnOk P w K mg base CX0 1 f fd ["cell", "k", "bound"] spDraw := by
  refine F.ok sc_draw (fun vs H Q E h => ?_) (fun cdv A outer s H vs Q E hr h => ?_)
  · obtain ⟨c, k, b, rfl, _⟩ := h
    rfl
  obtain ⟨c, k, b, rfl, hb, q⟩ := h
  have nd := sc_draw.nd
  refine ⟨_, pss_cons (ps_set (i := 3) nd rfl (.inl rfl) (pe_tup (pa_cons pe_int (pa_cons pe_int (pa_cons pe_int (pa_cons pe_int (pa_cons pe_int (pa_cons pe_int (pa_cons pe_int (pa_cons pe_int (pa_cons pe_int (pa_cons pe_int (pa_cons pe_int (pa_cons pe_int (pa_cons pe_int (pa_cons pe_int (pa_cons pe_int (pa_cons pe_int pa_nil))))))))))))))))))
      (pss_one (ps_ret (pe_op op_mod (pe_op op_mod (pe_callTy call_int1 (by rfl) m_int boot_int (pa_cons (pe_op op_add (pe_op op_mul (pv 0) pe_int) (pe_op op_mul (pv 1) pe_int)) pa_nil)) (pe_ix ix_tup (pv 3) (pe_op op_mod (pe_callTy call_int1 (by rfl) m_int boot_int (pa_cons (pv 1) pa_nil)) pe_int) (fun _ _ => rfl))) (pv 2)))), ?_⟩
  refine ⟨by show 16 ≤ sizeLine; decide, fun t ht => ?_⟩
  obtain ⟨p, hp, hat⟩ := primes_at (i := k % 16) (by omega) (by omega)
  refine ⟨_, rfl, _, _, rfl, rfl, .inr (by show _ ∧ _; decide), _, rfl, _, _, rfl, rfl, .inr (by show _ ∧ _; decide), _, _, rfl, rfl, .inl ⟨_, rfl, ?_⟩⟩
  refine ⟨_, rfl, _, rfl, .inl ⟨_, rfl, _, _, rfl, rfl, (by show (0 : Int) < 16; decide), ?_⟩⟩
  refine ⟨t, primesL.map V.int, _, _, rfl, rfl, SqT.of upd_same, hat, _, _, rfl, rfl, hp, _, rfl, _, _, rfl, rfl, hb, ?_⟩
  exact q _ _ (Int.emod_nonneg _ (by omega)) (Int.emod_lt_of_pos _ hb) (same_upd ht)
end
end Kj

namespace Kj
open PySem PySem.Spec PyProof.Rows L2
section
variable {P : Program} {w : World} {K : PySem.W.Frag} {mg : Str → Option Value} {base : Heap}
theorem pow_lt : ∀ i : Nat, i < 24 → (1009 ^ i : Nat) < 2 ^ 240 := by decide +kernel
theorem sc_numb : FnScope ["cell", "k", "bound", "power", "lap", "remains", "small"] ["cell", "k", "bound"] (defScope sNumb) := ⟨rfl, rfl, rfl, by decide +kernel, rfl, by decide +kernel, by decide +kernel⟩
def spNumb : Sp := fun vs H Q _ => ∃ (c k b : Int), vs = [.int c, .int k, .int b] ∧ 0 ≤ k ∧ k ≤ 100 ∧ 0 < b ∧ ∀ (r : Int) (H' : Hp), 0 ≤ r → r < b → Same H H' → Q (.int r) H'
theorem ok_numb {f : Addr} {fd : FuncData} (F : Fun K "_law_number" "_law_number" sNumb f fd) (m_int : mg "int" = none) (m_range : mg "range" = none) (G_law_draw : Ready P w K mg base 1 "_law_draw" ["cell", "k", "bound"] spDraw) :
    FnOk P w K mg base CX0 2 f fd ["cell", "k", "bound"] spNumb := by
  refine F.ok sc_numb (fun vs H Q E h => ?_) (fun cdv A outer s H vs Q E hr h => ?_)
  · obtain ⟨c, k, b, rfl, _⟩ := h
    rfl
  obtain ⟨c, k, b, rfl, k0, k1, hb, q⟩ := h
  have nd := sc_numb.nd
  refine ⟨_, pss_cons (ps_set (i := 3) nd rfl (.inl rfl) pe_int)
      (pss_cons (ps_for PassesOwn.never rfl (pi_range1 rfl m_range (pa_cons (pe_op op_mod (pe_callTy call_int1 (by rfl) m_int boot_int (pa_cons (pv 1) pa_nil)) pe_int) pa_nil)) (pg_name (i := 4) nd rfl (.inl rfl)) (pss_one (ps_set (i := 3) nd rfl (.inl rfl) (pe_op op_mul (pv 3) pe_int))))
      (pss_cons (ps_set (i := 5) nd rfl (.inl rfl) (pe_op op_fdivW (pe_op op_sub (pv 0) (pe_op op_pow pe_int pe_int)) (pv 3)))
      (pss_cons (ps_if (pt_cmpR op_gt (pv 5) pe_int (nomark _)) (pss_one (ps_ret (pe_op op_mod (pe_op op_mod (pe_callTy call_int1 (by rfl) m_int boot_int (pa_cons (pv 5) pa_nil)) pe_int) (pv 2)))) (pss_nil))
      (pss_cons (ps_set (i := 6) nd rfl (.inl rfl) (pe_op op_mod (pe_callTy call_int1 (by rfl) m_int boot_int (pa_cons (pv 0) pa_nil)) pe_int))
      (pss_one (ps_ret (pe_op op_mod (pe_fn (G_law_draw) (hr.mono (by decide)) (pa_cons (pe_op op_mul (pe_op op_add (pv 6) (pe_op op_mul pe_int (pv 1))) (pe_op op_add (pe_op op_add (pv 6) (pe_op op_mul pe_int (pv 1))) pe_int)) (pa_cons (pe_op op_add (pe_op op_mod (pe_callTy call_int1 (by rfl) m_int boot_int (pa_cons (pv 1) pa_nil)) pe_int) pe_int) (pa_cons pe_int pa_nil)))) (pv 2)))))))), ?_⟩
  refine ⟨_, rfl, .inl ⟨_, rfl, _, _, rfl, rfl, (by show (0 : Int) < 24; decide), _, rfl, by omega, by omega, ?_⟩⟩
  have m0 : 0 ≤ k % 24 := Int.emod_nonneg _ (by omega)
  have m1 : k % 24 < 24 := Int.emod_lt_of_pos _ (by omega)
  refine for_range (fun i σ H' => ∃ y4, σ = [some (.int c), some (.int k), some (.int b), some (.int ((1009 ^ i : Nat) : Int)), y4, none, none] ∧ H' = H) ⟨none, rfl, rfl⟩ ?_ ?_
  · rintro i σ H' hi ⟨y4, rfl, rfl⟩
    refine ⟨_, rfl, _, _, rfl, rfl, .inr (by show _ ∧ _; decide), ?_⟩
    refine ⟨some (.int (0 + (i : Nat))), ?_, rfl⟩
    rw [Nat.pow_succ, Int.natCast_mul]
    rfl
  · rintro σ H' ⟨y4, rfl, rfl⟩
    have hj : (k % 24).toNat < 24 := by omega
    have hp := pow_lt _ hj
    have hp0 : 0 < (1009 ^ (k % 24).toNat : Nat) := Nat.pow_pos (by decide)
    generalize (1009 ^ (k % 24).toNat : Nat) = pw at hp hp0
    refine ⟨_, rfl, _, _, rfl, rfl, (by show _ ∧ _ ∧ _; decide), _, _, rfl, rfl, _, rfl, _, _, rfl, rfl, wide_div (b := 240) (by omega) (by omega) (by decide) (by decide), ?_⟩
    refine ⟨_, rfl, _, _, rfl, rfl, _, rfl, ?_⟩
    refine ite2 (fun _ => ?_) (fun _ => ?_)
    · refine ⟨_, rfl, .inl ⟨_, rfl, _, _, rfl, rfl, (by show (0 : Int) < 1009; decide), _, rfl, _, _, rfl, rfl, hb, ?_⟩⟩
      exact q _ _ (Int.emod_nonneg _ (by omega)) (Int.emod_lt_of_pos _ hb) (Same.refl _)
    · refine ⟨_, rfl, .inl ⟨_, rfl, _, _, rfl, rfl, (by show (0 : Int) < 1000003; decide), ?_⟩⟩
      have s0 : 0 ≤ c % 1000003 := Int.emod_nonneg _ (by omega)
      have s1 : c % 1000003 < 1000003 := Int.emod_lt_of_pos _ (by omega)
      refine ⟨_, rfl, _, rfl, _, _, rfl, rfl, .inl (by show _ ∧ _; decide), _, _, rfl, rfl, ?_⟩
      refine ⟨_, rfl, _, rfl, _, _, rfl, rfl, .inl (by show _ ∧ _; decide), _, _, rfl, rfl, _, _, rfl, rfl, _, _, rfl, rfl, .inl (by show _ ∧ _; omega), ?_⟩
      refine ⟨_, rfl, .inl ⟨_, rfl, _, _, rfl, rfl, (by show (0 : Int) < 9; decide), _, _, rfl, rfl, _, _, _, rfl, by decide, fun r H2 r0 r1 sm => ?_⟩⟩
      refine ⟨_, rfl, _, _, rfl, rfl, hb, ?_⟩
      exact q _ _ (Int.emod_nonneg _ (by omega)) (Int.emod_lt_of_pos _ hb) sm
theorem at0 {a b c : V} {tl : List V} : atI (a :: b :: c :: tl) 0 = some a := atI_nat (j := 0) rfl
theorem at1 {a b c : V} {tl : List V} : atI (a :: b :: c :: tl) 1 = some b := atI_nat (j := 1) rfl
theorem at2 {a b c : V} {tl : List V} : atI (a :: b :: c :: tl) 2 = some c := atI_nat (j := 2) rfl
theorem ix2 {a b c : V} {tl : List V} : ixN (a :: b :: c :: tl).length 2 = some 2 := by
  have h : (2 : Int) < (((a :: b :: c :: tl).length : Nat) : Int) := by show (2 : Int) < ((tl.length + 1 + 1 + 1 : Nat) : Int); omega
  exact (if_pos (by decide)).trans (if_pos h)
/-- the three things of a draw: the script's first cells, where it begins, how many were drawn -/
structure DrawAt (H : Hp) (d s : Addr) (ns : List Int) (xs : List V) (n : Int) : Prop where
  at_d : H d = some (.lst (.ref s :: .int 0 :: .int n :: xs))
  at_s : H s = some (.lst (ns.map V.int))
  n0 : 0 ≤ n
theorem DrawAt.ne {H : Hp} {d s : Addr} {ns : List Int} {tl : List V} {n : Int} (D : DrawAt H d s ns tl n) : s ≠ d := fun e => by
  have a := D.at_s
  rw [e, D.at_d] at a
  cases ns with
  | nil => cases a
  | cons x r => cases a
theorem DrawAt.keep {H H' : Hp} {d s : Addr} {ns : List Int} {tl : List V} {n : Int} (D : DrawAt H d s ns tl n) (h : Same H H') : DrawAt H' d s ns tl n := ⟨h _ _ D.at_d, h _ _ D.at_s, D.n0⟩
def spNext : Sp := fun vs H Q _ => ∃ (d s : Addr) (ns : List Int) (tl : List V) (n b : Int), vs = [.ref d, .int b] ∧ DrawAt H d s ns tl n ∧ 0 < b ∧ ∀ (r : Int) (H' : Hp), 0 ≤ r → r < b → But d H H' → DrawAt H' d s ns tl (n + 1) → Q (.int r) H'
theorem sc_next : FnScope ["draw", "bound", "at", "cell"] ["draw", "bound"] (defScope sNext) := ⟨rfl, rfl, rfl, by decide +kernel, rfl, by decide +kernel, by decide +kernel⟩
theorem ok_next {f : Addr} {fd : FuncData} (F : Fun K "_law_next" "_law_next" sNext f fd) (m_int : mg "int" = none) (G_law_cell_at : Ready P w K mg base 1 "_law_cell_at" ["script", "k"] (spCell K)) (G_law_number : Ready P w K mg base 2 "_law_number" ["cell", "k", "bound"] spNumb) :
    FnOk P w K mg base CX0 3 f fd ["draw", "bound"] spNext := by
  refine F.ok sc_next (fun vs H Q E h => ?_) (fun cdv A outer s H vs Q E hr h => ?_)
  · obtain ⟨d, s, ns, tl, n, b, rfl, _⟩ := h
    rfl
  obtain ⟨d, s, ns, tl, n, b, rfl, D, hb, q⟩ := h
  have nd := sc_next.nd
  refine ⟨_, pss_cons (ps_asg (pe_op op_add (pe_ix ix_list (pv 0) pe_int (fun _ _ => rfl)) pe_int) (pg_sub (pv 0) pe_int set_list))
      (pss_cons (ps_set (i := 2) nd rfl (.inl rfl) (pe_op op_fdiv (pe_ix ix_list (pv 0) pe_int (fun _ _ => rfl)) pe_int))
      (pss_cons (ps_set (i := 3) nd rfl (.inl rfl) (pe_op op_add (pe_fn (G_law_cell_at) (hr.mono (by decide)) (pa_cons (pe_ix ix_list (pv 0) pe_int (fun _ _ => rfl)) (pa_cons (pe_op op_add (pe_ix ix_list (pv 0) pe_int (fun _ _ => rfl)) (pv 2)) pa_nil))) (pe_op op_mul pe_int (pv 2))))
      (pss_one (ps_ret (pe_fn (G_law_number) (hr.mono (by decide)) (pa_cons (pv 3) (pa_cons (pe_op op_add (pe_op op_mod (pe_callTy call_int1 (by rfl) m_int boot_int (pa_cons (pe_ix ix_list (pv 0) pe_int (fun _ _ => rfl)) pa_nil)) pe_int) pe_int) (pa_cons (pv 1) pa_nil)))))))), ?_⟩
  refine ⟨_, rfl, d, _, 2, _, rfl, rfl, SqL.of D.at_d, at2, _, _, rfl, rfl, _, rfl, d, _, _, _, rfl, rfl, D.at_d, ix2, ?_⟩
  have D1 : DrawAt (upd H d (.lst (.ref s :: .int 0 :: .int (n + 1) :: tl))) d s ns tl (n + 1) := ⟨upd_same, by rw [upd_ne D.ne]; exact D.at_s, by have := D.n0; omega⟩
  have b1 : But d H (upd H d (.lst (.ref s :: .int 0 :: .int (n + 1) :: tl))) := fun c o hc e => by rw [upd_ne hc]; exact e
  have n0 := D1.n0
  refine ⟨_, rfl, d, _, 2, _, rfl, rfl, SqL.of D1.at_d, at2, _, _, rfl, rfl, (by show _ ∧ _; decide), ?_⟩
  refine ⟨_, rfl, d, _, 0, _, rfl, rfl, SqL.of D1.at_d, at0, _, rfl, d, _, 1, _, rfl, rfl, SqL.of D1.at_d, at1, _, rfl, _, _, rfl, rfl, s, ns, _, rfl, SqL.of D1.at_s, by omega, fun c => ?_⟩
  refine ⟨_, rfl, _, _, rfl, rfl, .inl (by show _ ∧ _; decide), _, _, rfl, rfl, ?_⟩
  refine ⟨_, rfl, _, rfl, d, _, 2, _, rfl, rfl, SqL.of D1.at_d, at2, .inl ⟨_, rfl, _, _, rfl, rfl, (by show (0 : Int) < 12; decide), _, _, rfl, rfl, _, rfl, ?_⟩⟩
  refine ⟨_, _, _, rfl, by omega, by omega, hb, fun r H' r0 r1 sm => ?_⟩
  exact q r H' r0 r1 (b1.trans (same_but sm)) (D1.keep sm)
/-- a list or a tuple of values -/
def Seq (K : PySem.W.Frag) (H : Hp) (a : Addr) (xs : List V) : Prop := SqL K H a xs ∨ SqT K H a xs
theorem nth {xs : List V} {r : Int} (h0 : 0 ≤ r) (h1 : r < (xs.length : Int)) : ∃ v, v ∈ xs ∧ atI xs r = some v := by
  have er : r = ((r.toNat : Nat) : Int) := by omega
  have hk : r.toNat < xs.length := by omega
  have q : atI xs ((r.toNat : Nat) : Int) = some xs[r.toNat] := atI_nat (List.getElem?_eq_getElem hk)
  rw [← er] at q
  exact ⟨_, List.getElem_mem hk, q⟩
theorem But.sqT {H H' : Hp} {d a : Addr} {xs : List V} (h : But d H H') (hd : ∃ l, H d = some (.lst l)) (q : SqT K H a xs) : SqT K H' a xs := by
  rcases q with (q | ⟨o, q⟩) | q
  · refine .inl (.inl (h _ _ (fun e => ?_) q))
    obtain ⟨l, hl⟩ := hd
    rw [e, hl] at q
    cases q
  · refine .inl (.inr ⟨o, h _ _ (fun e => ?_) q⟩)
    obtain ⟨l, hl⟩ := hd
    rw [e, hl] at q
    cases q
  · exact .inr q
def spPick (K : PySem.W.Frag) : Sp := fun vs H Q _ => ∃ (d s t : Addr) (ns : List Int) (tl : List V) (n : Int) (xs : List V), vs = [.ref d, .ref t] ∧ DrawAt H d s ns tl n ∧ t ≠ d ∧ Seq K H t xs ∧ xs ≠ [] ∧ ∀ (v : V) (H' : Hp), v ∈ xs → But d H H' → DrawAt H' d s ns tl (n + 1) → Q v H'
theorem sc_pick : FnScope ["draw", "things"] ["draw", "things"] (defScope sPick) := ⟨rfl, rfl, rfl, by decide +kernel, rfl, by decide +kernel, by decide +kernel⟩
theorem But.seq {H H' : Hp} {d a : Addr} {xs : List V} (h : But d H H') (hd : a ≠ d) (q : Seq K H a xs) : Seq K H' a xs := by
  rcases q with ((q | ⟨o, q⟩) | q) | ((q | ⟨o, q⟩) | q)
  · exact .inl (.inl (.inl (h _ _ hd q)))
  · exact .inl (.inl (.inr ⟨o, h _ _ hd q⟩))
  · exact .inl (.inr q)
  · exact .inr (.inl (.inl (h _ _ hd q)))
  · exact .inr (.inl (.inr ⟨o, h _ _ hd q⟩))
  · exact .inr (.inr q)
theorem ok_pick {f : Addr} {fd : FuncData} (F : Fun K "_law_pick" "_law_pick" sPick f fd) (m_len : mg "len" = none) (G_law_next : Ready P w K mg base 3 "_law_next" ["draw", "bound"] spNext) :
    FnOk P w K mg base CX0 4 f fd ["draw", "things"] (spPick K) := by
  refine F.ok sc_pick (fun vs H Q E h => ?_) (fun cdv A outer s H vs Q E hr h => ?_)
  · obtain ⟨d, s, t, ns, tl, n, xs, rfl, _⟩ := h
    rfl
  obtain ⟨d, s, t, ns, tl, n, xs, rfl, D, td, hS, hne, q⟩ := h
  have nd := sc_pick.nd
  refine ⟨_, pss_one (ps_ret (pe_ix ix_seq (pv 1) (pe_fn (G_law_next) (hr.mono (by decide)) (pa_cons (pv 0) (pa_cons (pe_callB call_len_seq (by rfl) m_len PySem.boot_len (pa_cons (pv 1) pa_nil)) pa_nil))) (fun _ _ => rfl))), ?_⟩
  have hl : 0 < (xs.length : Int) := by
    have := List.length_pos_iff.mpr hne
    omega
  refine ⟨_, rfl, _, rfl, _, rfl, t, xs, rfl, hS, d, s, ns, tl, n, _, rfl, D, hl, fun r H' r0 r1 bt D' => ?_⟩
  obtain ⟨v, hv, hat⟩ := nth r0 r1
  rcases bt.seq td hS with hL | hT
  · exact .inl ⟨t, xs, _, _, rfl, rfl, hL, hat, q _ _ hv bt D'⟩
  · exact .inr (.inl ⟨t, xs, _, _, rfl, rfl, hT, hat, q _ _ hv bt D'⟩)
end
end Kj

namespace Kj
open PySem PySem.Spec PyProof.Rows L2 Kx
abbrev sInt : Stmt := topS 63
/-! ### expressions, and how they stand -/
/-- the six comparisons; the five others -/
def cmps : List Str := ["=", "!=", "<", "<=", ">", ">="]
/-- those that texts are compared by -/
def cmpsT : List Str := ["=", "!=", "<", ">="]
theorem cmpsT_sub : ∀ op ∈ cmpsT, op ∈ cmps := by decide +kernel
def sums : List Str := ["+", "-", "*", "/", "mod"]
/-- the kinds: true an int, false a text; c the kinds of the columns -/
inductive Kind (c : Str → Option Bool) : Ex → Bool → Prop where
  | num {i : Int} (h : 0 ≤ i ∧ i < 6) : Kind c (.num i) true
  | quo {z : Str} (h : z ∈ (["a", "b", "bb", ""] : List Str)) : Kind c (.quo z) false
  | col {x : Str} {b : Bool} (h : c x = some b) : Kind c (.col x) b
  | arith {op : Str} {a b : Ex} (h : op ∈ sums ∨ op ∈ cmps ∨ op = "and" ∨ op = "or") (ha : Kind c a true) (hb : Kind c b true) : Kind c (.two op a b) true
  | text {op : Str} {a b : Ex} (h : op ∈ cmpsT) (ha : Kind c a false) (hb : Kind c b false) : Kind c (.two op a b) true
  | nt {a : Ex} (ha : Kind c a true) : Kind c (.nt a) true
  | mn {a : Ex} (ha : Kind c a true) : Kind c (.mn a) true
  | ln {a : Ex} (ha : Kind c a false) : Kind c (.ln a) true
theorem But.tup {H H' : Hp} {d : Addr} {l : List V} (h : But d H H') (hd : H d = some (.lst l)) : ∀ (a : Addr) (xs : List V), H a = some (.tup xs) → H' a = some (.tup xs) := fun a xs e => h a _ (fun q => by rw [q, hd] at e; cases e) e
/-! ### the columns of a table, in a list -/
abbrev Col : Type := Addr × Str × Bool
def kW (b : Bool) : Str := if b then "int" else "text"
structure ColsAt (H : Hp) (cs : Addr) (cl : List Col) : Prop where
  all : H cs = some (.lst (cl.map fun c => .ref c.1))
  each : ∀ c ∈ cl, H c.1 = some (.tup [.str c.2.1, .str (kW c.2.2)])
  few : cl.length ≤ 1000
  ok : ∀ c ∈ cl, PyData.canLay0 (.str c.2.1) = true
theorem ColsAt.keep {H H' : Hp} {cs : Addr} {cl : List Col} (C : ColsAt H cs cl) (h : Same H H') : ColsAt H' cs cl := ⟨h _ _ C.all, fun c hc => h _ _ (C.each c hc), C.few, C.ok⟩
theorem ColsAt.ne {H : Hp} {cs d s : Addr} {cl : List Col} {ns : List Int} {tl : List V} {n : Int} (C : ColsAt H cs cl) (D : DrawAt H d s ns tl n) : cs ≠ d := fun e => by
  have a := C.all
  rw [e, D.at_d] at a
  match cl, a with
  | [], a => cases a
  | [_], a => cases a
  | _ :: _ :: _, a => cases a
theorem ColsAt.but {H H' : Hp} {cs d s : Addr} {cl : List Col} {ns : List Int} {tl : List V} {n : Int} (C : ColsAt H cs cl) (D : DrawAt H d s ns tl n) (h : But d H H') : ColsAt H' cs cl :=
  ⟨h _ _ (C.ne D) C.all, fun c hc => h.tup D.at_d _ _ (C.each c hc), C.few, C.ok⟩
def strsOf (b : Bool) (cl : List Col) : List Str := (cl.filter fun c => c.2.2 == b).map fun c => c.2.1
theorem strs_le (b : Bool) (cl : List Col) : (strsOf b cl).length ≤ cl.length := by
  unfold strsOf
  rw [List.length_map]
  exact List.length_filter_le _ _
theorem take_at {cl : List Col} {i : Nat} {c : Col} (h : cl[i]? = some c) : cl.take (i + 1) = cl.take i ++ [c] := by
  rw [List.take_add_one, h]
  rfl
theorem strs_yes {b : Bool} {cl : List Col} {i : Nat} {a : Addr} {x : Str} (h : cl[i]? = some (a, x, b)) : strsOf b (cl.take (i + 1)) = strsOf b (cl.take i) ++ [x] := by
  unfold strsOf
  rw [take_at h, List.filter_append, List.map_append]
  simp
theorem strs_no {b : Bool} {cl : List Col} {i : Nat} {a : Addr} {x : Str} {k : Bool} (h : cl[i]? = some (a, x, k)) (hk : (k == b) = false) : strsOf b (cl.take (i + 1)) = strsOf b (cl.take i) := by
  unfold strsOf
  rw [take_at h, List.filter_append, List.map_append]
  simp [hk]
theorem mem_strsOf {b : Bool} {cl : List Col} {v : V} {kf : Str → Option Bool} (hk : ∀ c ∈ cl, kf c.2.1 = some c.2.2) (h : v ∈ (strsOf b cl).map V.str) : ∃ x, v = .str x ∧ kf x = some b := by
  obtain ⟨x, hx, rfl⟩ := List.mem_map.mp h
  obtain ⟨c, hc, rfl⟩ := List.mem_map.mp hx
  obtain ⟨hc, e⟩ := List.mem_filter.mp hc
  refine ⟨_, rfl, ?_⟩
  rw [hk c hc]
  exact congrArg some (eq_of_beq e)
theorem strsAll_can : ∀ l : List Str, (∀ x ∈ l, PyData.canLay0 (.str x) = true) → PyData.canLayAll0 (l.map PyData.str) = true
  | [], _ => rfl
  | x :: l, h => by
    show (PyData.canLay0 (.str x) && PyData.canLayAll0 (l.map PyData.str)) = true
    rw [strsAll_can l fun y hy => h y (List.mem_cons_of_mem _ hy), h x List.mem_cons_self]
    rfl
theorem strsAll_depth : ∀ l : List Str, PyData.depthAll (l.map PyData.str) = 0
  | [] => rfl
  | x :: l => by
    show max (PyData.depth (.str x)) (PyData.depthAll (l.map PyData.str)) = 0
    rw [strsAll_depth l]
    rfl
theorem strs_shaped {l : List Str} (h : ∀ x ∈ l, PyData.canLay0 (.str x) = true) : SeqAt.shaped (.list (l.map PyData.str)) = true := by
  refine Bool.and_eq_true_iff.mpr ⟨strsAll_can l h, decide_eq_true ?_⟩
  show PyData.depthAll (l.map PyData.str) + 1 ≤ 64
  rw [strsAll_depth l]
  decide
theorem ColsAt.shaped {H : Hp} {cs : Addr} {cl : List Col} (C : ColsAt H cs cl) (b : Bool) : SeqAt.shaped (.list ((strsOf b cl).map PyData.str)) = true := strs_shaped fun x hx => by
  obtain ⟨c, hc, rfl⟩ := List.mem_map.mp hx
  exact C.ok c (List.mem_filter.mp hc).1
theorem dpa_strs {K : PySem.W.Frag} {H : Hp} : ∀ l : List Str, DpAll K H (l.map V.str) (l.map PyData.str)
  | [] => .nil
  | x :: l => .cons (.str x) (dpa_strs l)
end Kj

namespace Kj
open PySem PySem.Spec PyProof.Rows L2 Kx
section
variable {P : Program} {w : World} {K : PySem.W.Frag} {mg : Str → Option Value} {base : Heap}
theorem strs_ne {l : List Str} (h : (!PyData.eqv (.list (l.map PyData.str)) (.list [])) = true) : l.map V.str ≠ [] := by
  cases l with
  | nil => cases h
  | cons x l => intro e; cases e
def spInt (m : Nat) : Sp := fun vs H Q _ => ∃ (d s cols : Addr) (cl : List Col) (kf : Str → Option Bool) (ns : List Int) (tl : List V) (n deep : Int), vs = [.ref d, .ref cols, .int deep] ∧ DrawAt H d s ns tl n ∧ ColsAt H cols cl ∧ (∀ c ∈ cl, kf c.2.1 = some c.2.2) ∧ 0 ≤ deep ∧ deep + 1 = (m : Int) ∧
  ∀ (v : V) (e : Ex) (n' : Int) (H' : Hp), Kind kf e true → e.dep ≤ m + 1 → ExAt H' v e → But d H H' → DrawAt H' d s ns tl n' → Q v H'
abbrev N_law_int : List Str := ["draw", "columns", "deep", "ints", "name", "kind", "texts", "one"]
theorem sc_int : FnScope N_law_int ["draw", "columns", "deep"] (defScope sInt) := ⟨rfl, rfl, rfl, by decide +kernel, rfl, by decide +kernel, by decide +kernel⟩
/-- where the def stands behind its first two lines -/
structure IntSt (H0 H : Hp) (d s D1 D2 : Addr) (l1 l2 : List V) (ns : List Int) (tl : List V) (n : Int) : Prop where
  dr : DrawAt H d s ns tl n
  b : But d H0 H
  i1 : H D1 = some (.lst l1)
  i2 : H D2 = some (.lst l2)
  n1 : D1 ≠ d
  n2 : D2 ≠ d
theorem IntSt.step {H0 H H' : Hp} {d s D1 D2 : Addr} {l1 l2 tl : List V} {ns : List Int} {n n' : Int} (S : IntSt H0 H d s D1 D2 l1 l2 ns tl n) (b : But d H H') (D : DrawAt H' d s ns tl n') : IntSt H0 H' d s D1 D2 l1 l2 ns tl n' :=
  ⟨D, S.b.trans b, b _ _ S.n1 S.i1, b _ _ S.n2 S.i2, S.n1, S.n2⟩
theorem IntSt.new {H0 H : Hp} {d s D1 D2 p : Addr} {l1 l2 tl : List V} {ns : List Int} {n : Int} {o : HO} (S : IntSt H0 H d s D1 D2 l1 l2 ns tl n) (h : H p = none) : IntSt H0 (upd H p o) d s D1 D2 l1 l2 ns tl n :=
  S.step (same_but (same_upd h)) (S.dr.keep (same_upd h))
theorem mem_strs {v : V} {l : List Str} (h : v ∈ l.map V.str) : ∃ z, z ∈ l ∧ v = .str z := by
  obtain ⟨z, hz, e⟩ := List.mem_map.mp h
  exact ⟨z, hz, e.symm⟩
def ops13 : List Str := ["+", "-", "*", "/", "mod", "=", "!=", "<", "<=", ">", ">=", "and", "or"]
theorem ops13_in : ∀ op ∈ ops13, op ∈ sums ∨ op ∈ cmps ∨ op = "and" ∨ op = "or" := by decide +kernel
set_option maxHeartbeats 16000000 in
theorem ok_int {f : Addr} {fd : FuncData} {m : Nat} (F : Fun K "_law_int" "_law_int" sInt f fd) (m_len : mg "len" = none) (G_law_next : Ready P w K mg base 3 "_law_next" ["draw", "bound"] spNext) (G_law_pick : Ready P w K mg base 4 "_law_pick" ["draw", "things"] (spPick K))
    (G_law_int : Ready P w K mg base (m + 4) "_law_int" ["draw", "columns", "deep"] (spInt m)) : FnOk P w K mg base CX0 (m + 5) f fd ["draw", "columns", "deep"] (spInt (m + 1)) := by
  refine F.ok sc_int (fun vs H Q E h => ?_) (fun cdv A outer s0 H vs Q E hr h => ?_)
  · obtain ⟨d, s, cols, cl, kf, ns, tl, n, deep, rfl, _⟩ := h
    rfl
  obtain ⟨d, s, cols, cl, kf, ns, tl, n, deep, rfl, D, C, hk, hd0, hdm, q⟩ := h
  have nd := sc_int.nd
  have hu64 : _ + 64 < cLine := hr.units
  have hr4 : Room 4 _ := hr.mono (by omega)
  have hr3 : Room 3 _ := hr.mono (by omega)
  refine ⟨_, pss_cons (ps_setLc (i := 3) (own := [("name", 4), ("kind", 5)]) (g := (gTup K 2 (gCons (gName 4) (gCons (gName 5) gNil)))) (tt := _) rfl nd rfl rfl (sw_true rfl rfl rfl (by decide +kernel)) (pi_list (pv 1)) (blkOk_by (N := N_law_int) (sc := defScope sInt) (by decide +kernel)) (fun _ _ _ _ _ => pg_tup rfl (pgs_cons (pg_name (i := 4) nd rfl (.inl rfl)) (pgs_cons (pg_name (i := 5) nd rfl (.inl rfl)) pgs_nil))) (fun _ _ _ _ _ => pts_one (pt_cmpR op_eq (pv 5) pe_str (nomark _))) (fun _ _ _ _ _ => (pv 4)))
      (pss_cons (ps_setLc (i := 6) (own := [("name", 4), ("kind", 5)]) (g := (gTup K 2 (gCons (gName 4) (gCons (gName 5) gNil)))) (tt := _) rfl nd rfl rfl (sw_true rfl rfl rfl (by decide +kernel)) (pi_list (pv 1)) (blkOk_by (N := N_law_int) (sc := defScope sInt) (by decide +kernel)) (fun _ _ _ _ _ => pg_tup rfl (pgs_cons (pg_name (i := 4) nd rfl (.inl rfl)) (pgs_cons (pg_name (i := 5) nd rfl (.inl rfl)) pgs_nil))) (fun _ _ _ _ _ => pts_one (pt_cmpR op_eq (pv 5) pe_str (nomark _))) (fun _ _ _ _ _ => (pv 4)))
      (pss_cons (ps_set (i := 5) nd rfl (.inl rfl) (pe_fn (G_law_next) hr3 (pa_cons (pv 0) (pa_cons pe_int pa_nil))))
      (pss_cons (ps_if (PW.pt (pw_or (pt_cmpR op_eq (pv 2) pe_int (nomark _)) (pw_or1 (pt_cmpR op_lt (pv 5) pe_int (nomark _))))) (pss_one (ps_ret (pe_ifExp (PW.pt (pw_and (pt_cmpR (op_neD hu64) (pv 3) (pe_lst pa_nil) (nomark _)) (pw_and1 (pt_cmpR op_gt (pe_op op_mod (pv 5) pe_int) pe_int (nomark _))))) (pe_tup (pa_cons pe_str (pa_cons (pe_fn (G_law_pick) hr4 (pa_cons (pv 0) (pa_cons (pv 3) pa_nil))) pa_nil))) (pe_tup (pa_cons pe_str (pa_cons (pe_fn (G_law_next) hr3 (pa_cons (pv 0) (pa_cons pe_int pa_nil))) pa_nil)))))) (pss_nil))
      (pss_cons (ps_if (PW.pt (pw_and (pt_cmpR op_eq (pv 5) pe_int (nomark _)) (pw_and1 (pt_cmpR (op_neD hu64) (pv 6) (pe_lst pa_nil) (nomark _))))) (pss_one (ps_ret (pe_tup (pa_cons pe_str (pa_cons (pe_fn (G_law_pick) hr4 (pa_cons (pv 0) (pa_cons (pe_tup (pa_cons pe_str (pa_cons pe_str (pa_cons pe_str (pa_cons pe_str pa_nil))))) pa_nil))) (pa_cons (pe_tup (pa_cons pe_str (pa_cons (pe_fn (G_law_pick) hr4 (pa_cons (pv 0) (pa_cons (pv 6) pa_nil))) pa_nil))) (pa_cons (pe_tup (pa_cons pe_str (pa_cons (pe_fn (G_law_pick) hr4 (pa_cons (pv 0) (pa_cons (pe_tup (pa_cons pe_str (pa_cons pe_str (pa_cons pe_str (pa_cons pe_str pa_nil))))) pa_nil))) pa_nil))) pa_nil))))))) (pss_nil))
      (pss_cons (ps_if (PW.pt (pw_and (pt_cmpR op_eq (pv 5) pe_int (nomark _)) (pw_and1 (pt_cmpR (op_neD hu64) (pv 6) (pe_lst pa_nil) (nomark _))))) (pss_one (ps_ret (pe_tup (pa_cons pe_str (pa_cons (pe_tup (pa_cons pe_str (pa_cons (pe_fn (G_law_pick) hr4 (pa_cons (pv 0) (pa_cons (pv 6) pa_nil))) pa_nil))) pa_nil))))) (pss_nil))
      (pss_cons (ps_set (i := 7) nd rfl (.inl rfl) (pe_fn (G_law_int) hr (pa_cons (pv 0) (pa_cons (pv 1) (pa_cons (pe_op op_sub (pv 2) pe_int) pa_nil)))))
      (pss_cons (ps_if (pt_cmpR op_eq (pv 5) pe_int (nomark _)) (pss_one (ps_ret (pe_tup (pa_cons (pe_fn (G_law_pick) hr4 (pa_cons (pv 0) (pa_cons (pe_tup (pa_cons pe_str (pa_cons pe_str pa_nil))) pa_nil))) (pa_cons (pv 7) pa_nil))))) (pss_nil))
      (pss_one (ps_ret (pe_tup (pa_cons pe_str (pa_cons (pe_fn (G_law_pick) hr4 (pa_cons (pv 0) (pa_cons (pe_tup (pa_cons pe_str (pa_cons pe_str (pa_cons pe_str (pa_cons pe_str (pa_cons pe_str (pa_cons pe_str (pa_cons pe_str (pa_cons pe_str (pa_cons pe_str (pa_cons pe_str (pa_cons pe_str (pa_cons pe_str (pa_cons pe_str pa_nil)))))))))))))) pa_nil))) (pa_cons (pv 7) (pa_cons (pe_fn (G_law_int) hr (pa_cons (pv 0) (pa_cons (pv 1) (pa_cons (pe_op op_sub (pv 2) pe_int) pa_nil)))) pa_nil)))))))))))))), ?_⟩
  have small : ∀ {acc : List V}, acc.length ≤ 2 → acc.length < sizeLine := fun h => Nat.lt_of_le_of_lt h (by decide)
  -- ints
  have cl3 : cl.length < sizeLine := Nat.lt_of_le_of_lt C.few (by decide)
  refine ⟨_, rfl, cols, rfl, ⟨_, SqL.of C.all⟩, fun D1 hD1 => lc_list (xs := cl.map fun c => .ref c.1) (fun i H' => Same H H' ∧ H' D1 = some (.lst ((strsOf true (cl.take i)).map V.str))) ⟨same_upd hD1, upd_same⟩ (fun i H' _ h => SqL.of (h.1 _ _ C.all)) ?_ ?_⟩
  · rintro i x H' hx ⟨sm, e⟩
    have nD : ∀ {o}, Same H (upd H' D1 o) := fun b o' e' => by
      rw [upd_ne (ne_of_none e' hD1)]
      exact sm _ _ e'
    rw [List.getElem?_map] at hx
    obtain ⟨⟨a, x, k⟩, hc, rfl⟩ := Option.map_eq_some_iff.mp hx
    have ca := sm _ _ (C.each _ (List.mem_of_getElem? hc))
    have le : ((strsOf true (cl.take i)).map V.str).length < sizeLine := by
      rw [List.length_map]
      have h1 := strs_le true (cl.take i)
      have h2 := List.length_take_le i cl
      have h3 : (cl.take i).length ≤ cl.length := by rw [List.length_take]; omega
      omega
    cases k with
    | true =>
      refine ⟨a, _, rfl, SqT.of ca, rfl, _, _, rfl, _, _, rfl, rfl, rfl, _, rfl, rfl, _, rfl, iteT ?_⟩
      refine ⟨_, rfl, _, e, le, nD, ?_⟩
      rw [strs_yes hc, List.map_append]
      exact upd_same
    | false =>
      refine ⟨a, _, rfl, SqT.of ca, rfl, _, _, rfl, _, _, rfl, rfl, rfl, _, rfl, rfl, _, rfl, iteF ?_⟩
      rw [strs_no hc rfl]
      exact ⟨sm, e⟩
  rintro H1 ⟨s1, e1⟩
  have e1' : H1 D1 = some (.lst ((strsOf true cl).map V.str)) := by
    rw [List.length_map, List.take_length] at e1
    exact e1
  -- texts
  refine ⟨_, rfl, cols, rfl, ⟨_, SqL.of (s1 _ _ C.all)⟩, fun D2 hD2 => lc_list (xs := cl.map fun c => .ref c.1) (fun i H' => Same H1 H' ∧ H' D2 = some (.lst ((strsOf false (cl.take i)).map V.str))) ⟨same_upd hD2, upd_same⟩ (fun i H' _ h => SqL.of (h.1 _ _ (s1 _ _ C.all))) ?_ ?_⟩
  · rintro i x H' hx ⟨sm, e⟩
    have nD : ∀ {o}, Same H1 (upd H' D2 o) := fun b o' e' => by
      rw [upd_ne (ne_of_none e' hD2)]
      exact sm _ _ e'
    rw [List.getElem?_map] at hx
    obtain ⟨⟨a, x, k⟩, hc, rfl⟩ := Option.map_eq_some_iff.mp hx
    have ca := sm _ _ (s1 _ _ (C.each _ (List.mem_of_getElem? hc)))
    have le : ((strsOf false (cl.take i)).map V.str).length < sizeLine := by
      rw [List.length_map]
      have h1 := strs_le false (cl.take i)
      have h2 := List.length_take_le i cl
      have h3 : (cl.take i).length ≤ cl.length := by rw [List.length_take]; omega
      omega
    cases k with
    | true =>
      refine ⟨a, _, rfl, SqT.of ca, rfl, _, _, rfl, _, _, rfl, rfl, rfl, _, rfl, rfl, _, rfl, iteF ?_⟩
      rw [strs_no hc rfl]
      exact ⟨sm, e⟩
    | false =>
      refine ⟨a, _, rfl, SqT.of ca, rfl, _, _, rfl, _, _, rfl, rfl, rfl, _, rfl, rfl, _, rfl, iteT ?_⟩
      refine ⟨_, rfl, _, e, le, nD, ?_⟩
      rw [strs_yes hc, List.map_append]
      exact upd_same
  rintro H2 ⟨s2, e2⟩
  have e2' : H2 D2 = some (.lst ((strsOf false cl).map V.str)) := by
    rw [List.length_map, List.take_length] at e2
    exact e2
  have s12 := s1.trans s2
  have S2 : IntSt H H2 d s D1 D2 ((strsOf true cl).map V.str) ((strsOf false cl).map V.str) ns tl n := ⟨D.keep s12, same_but s12, s2 _ _ e1', e2', (ne_of_none D.at_d hD1).symm, (ne_of_none (s1 _ _ D.at_d) hD2).symm⟩
  have q' : ∀ (v : V) (e : Ex) (n' : Int) (H' : Hp), Kind kf e true → e.dep ≤ m + 2 → ExAt H' v e → IntSt H H' d s D1 D2 ((strsOf true cl).map V.str) ((strsOf false cl).map V.str) ns tl n' → Q v H' := fun v e n' H' h1 h2 h3 h4 => q v e n' H' h1 h2 h3 h4.b h4.dr
  have Cb : ∀ {H' n'}, IntSt H H' d s D1 D2 ((strsOf true cl).map V.str) ((strsOf false cl).map V.str) ns tl n' → ColsAt H' cols cl := fun S => C.but D S.b
  clear q s12 s2 s1
  -- kind
  refine ⟨_, rfl, d, s, ns, _, _, _, rfl, S2.dr, (by show (0 : Int) < 10; decide), fun kd H3 _ _ b3 D3 => ?_⟩
  have S3 := S2.step b3 D3
  clear S2
  have ne2 : ∀ {H' p n'}, IntSt H H' d s D1 D2 ((strsOf true cl).map V.str) ((strsOf false cl).map V.str) ns tl n' → H' p = none → p ≠ d := fun S h => (ne_of_none S.dr.at_d h).symm
  have z2 : 2 ≤ sizeLine := by decide
  have z4 : 4 ≤ sizeLine := by decide
  have tp : ∀ {H' n'}, IntSt H H' d s D1 D2 ((strsOf true cl).map V.str) ((strsOf false cl).map V.str) ns tl n' → ∀ {H''}, But d H' H'' → ∀ (a : Addr) (xs : List V), H' a = some (.tup xs) → H'' a = some (.tup xs) := fun {_ _} S {_} b => b.tup S.dr.at_d
  have st1 := C.shaped true
  have st2 := C.shaped false
  have sh0 : SeqAt.shaped (.list []) = true := by decide +kernel
  refine ⟨_, rfl, rfl, _, rfl, ite2 (fun c => iteT ?_) (fun c => ⟨_, rfl, _, _, rfl, rfl, _, rfl, ite2 (fun cc => ?_) (fun cc => ?_)⟩)⟩
  rotate_left 2
  · -- deeper
    have hd1 : deep ≠ 0 := fun e => c (decide_eq_true (by rw [e]))
    refine ⟨_, rfl, rfl, _, rfl, ite2 (fun c => ?_) (fun c => iteF ?_)⟩
    · -- two texts
      refine ⟨_, rfl, Nat.zero_le _, fun p hp => ?_⟩
      have S4 := S3.new (o := .lst []) hp
      refine ⟨.list ((strsOf false cl).map PyData.str), .list [], .lst (SqL.of S4.i2) (dpa_strs _), .lst (SqL.of upd_same) .nil, st2, sh0, _, rfl, ite2 (fun ce => ?_) (fun ce => ?_)⟩
      rotate_left
      · have S3 := S4
        refine ⟨_, rfl, rfl, _, rfl, ite2 (fun c4 => ?_) (fun c4 => iteF ?_)⟩
        · have x1 := of_decide_eq_true c
          have x2 := of_decide_eq_true c4
          rw [x1] at x2
          cases x2
        refine ⟨_, rfl, _, rfl, _, rfl, _, _, rfl, rfl, d, s, cols, cl, kf, ns, _, _, deep - 1, rfl, S3.dr, Cb S3, hk, by omega, by omega, fun v1 e1 n1 H4 k1 dp1 x1 b4 D4 => ?_⟩
        have S4 := S3.step b4 D4
        refine ⟨_, rfl, rfl, _, rfl, ite2 (fun c => ?_) (fun c => ?_)⟩
        · refine ⟨_, rfl, z2, fun p1 hp1 => ?_⟩
          have S5 := S4.new (o := .tup [.str "not", .str "minus"]) hp1
          refine ⟨d, s, p1, ns, _, _, [.str "not", .str "minus"], rfl, S5.dr, ne2 S4 hp1, .inr (SqT.of upd_same), (by intro z; cases z), fun v2 H6 hv2 b6 D6 => ⟨_, rfl, z2, fun t5 ht5 => ?_⟩⟩
          have S6 := S5.step b6 D6
          have S7 := S6.new (o := .tup [v2, v1]) ht5
          have x2 : ExAt (upd H6 t5 (.tup [v2, v1])) v1 e1 := ((x1.keep fun a xs e => same_upd hp1 _ _ e).keep (tp S5 b6)).keep fun a xs e => same_upd ht5 _ _ e
          obtain ⟨op, hop, rfl⟩ := mem_strs (l := ["not", "minus"]) hv2
          simp only [List.mem_cons, List.not_mem_nil, or_false] at hop
          rcases hop with rfl | rfl
          · exact q' (.ref t5) (.nt e1) _ _ (.nt k1) (by show e1.dep + 1 ≤ m + 2; omega) ⟨t5, _, rfl, upd_same, x2⟩ S7
          · exact q' (.ref t5) (.mn e1) _ _ (.mn k1) (by show e1.dep + 1 ≤ m + 2; omega) ⟨t5, _, rfl, upd_same, x2⟩ S7
        · refine ⟨_, rfl, (by show 13 ≤ sizeLine; decide), fun p1 hp1 => ?_⟩
          have S5 := S4.new (o := .tup (ops13.map V.str)) hp1
          refine ⟨d, s, p1, ns, _, _, ops13.map V.str, rfl, S5.dr, ne2 S4 hp1, .inr (SqT.of upd_same), (by intro z; cases z), fun v2 H6 hv2 b6 D6 => ?_⟩
          have S6 := S5.step b6 D6
          refine ⟨_, rfl, _, rfl, _, rfl, _, rfl, _, _, rfl, rfl, d, s, cols, cl, kf, ns, _, _, deep - 1, rfl, S6.dr, Cb S6, hk, by omega, by omega, fun v3 e3 n3 H7 k3 dp3 x3 b7 D7 => ⟨z4, fun t5 ht5 => ?_⟩⟩
          have S7 := S6.step b7 D7
          have S8 := S7.new (o := .tup [.str "two", v2, v1, v3]) ht5
          have x2 : ExAt (upd H7 t5 (.tup [.str "two", v2, v1, v3])) v1 e1 := (((x1.keep fun a xs e => same_upd hp1 _ _ e).keep (tp S5 b6)).keep (tp S6 b7)).keep fun a xs e => same_upd ht5 _ _ e
          have x4 : ExAt (upd H7 t5 (.tup [.str "two", v2, v1, v3])) v3 e3 := x3.keep fun a xs e => same_upd ht5 _ _ e
          obtain ⟨op, hop, rfl⟩ := mem_strs hv2
          exact q' (.ref t5) (.two op e1 e3) _ _ (.arith (ops13_in op hop) k1 k3) (by show max e1.dep e3.dep + 1 ≤ m + 2; omega) ⟨t5, _, _, rfl, upd_same, x2, x4⟩ S8
      refine ⟨_, rfl, z4, fun p1 hp1 => ?_⟩
      have S5 := S4.new (o := .tup [.str "=", .str "!=", .str "<", .str ">="]) hp1
      refine ⟨d, s, p1, ns, _, _, [.str "=", .str "!=", .str "<", .str ">="], rfl, S5.dr, ne2 S4 hp1, .inr (SqT.of upd_same), (by intro z; cases z), fun v1 H6 hv1 b6 D6 => ?_⟩
      have S6 := S5.step b6 D6
      refine ⟨_, rfl, _, rfl, d, s, D2, ns, _, _, (strsOf false cl).map V.str, rfl, S6.dr, S6.n2, .inl (SqL.of S6.i2), strs_ne ce, fun v2 H7 hv2 b7 D7 => ⟨z2, fun t2 ht2 => ?_⟩⟩
      have S7 := S6.step b7 D7
      have S8 := S7.new (o := .tup [.str "column", v2]) ht2
      refine ⟨_, rfl, z4, fun p3 hp3 => ?_⟩
      have S9 := S8.new (o := .tup [.str "a", .str "b", .str "bb", .str ""]) hp3
      refine ⟨d, s, p3, ns, _, _, [.str "a", .str "b", .str "bb", .str ""], rfl, S9.dr, ne2 S8 hp3, .inr (SqT.of upd_same), (by intro z; cases z), fun v3 H10 hv3 b10 D10 => ⟨z2, fun t4 ht4 => ⟨z4, fun t5 ht5 => ?_⟩⟩⟩
      have S10 := S9.step b10 D10
      have S11 := S10.new (o := .tup [.str "quoted", v3]) ht4
      have S12 := S11.new (o := .tup [.str "two", v1, .ref t2, .ref t4]) ht5
      obtain ⟨op, hop, rfl⟩ := mem_strs (l := ["=", "!=", "<", ">="]) hv1
      obtain ⟨x, rfl, kt⟩ := mem_strsOf hk hv2
      obtain ⟨z, hz, rfl⟩ := mem_strs (l := ["a", "b", "bb", ""]) hv3
      have hz2 : z ∈ (["a", "b", "bb", ""] : List Str) := hz
      have a1 : (upd (upd H10 t4 (.tup [.str "quoted", .str z])) t5 (.tup [.str "two", .str op, .ref t2, .ref t4])) t2 = some (.tup [.str "column", .str x]) := by
        have e0 := b10.tup S9.dr.at_d t2 [.str "column", .str x] (by rw [upd_ne (ne_of_none upd_same hp3)]; exact upd_same)
        exact same_upd ht5 _ _ (same_upd ht4 _ _ e0)
      refine q' (.ref t5) (.two op (.col x) (.quo z)) _ _ (.text hop (.col kt) (.quo hz2)) (by show 2 ≤ m + 2; omega) ?_ S12
      exact ⟨t5, _, _, rfl, upd_same, ⟨t2, rfl, a1⟩, ⟨t4, rfl, same_upd ht5 _ _ upd_same⟩⟩
    refine ⟨_, rfl, rfl, _, rfl, ite2 (fun c => ?_) (fun c => iteF ?_)⟩
    · -- a length
      refine ⟨_, rfl, Nat.zero_le _, fun p hp => ?_⟩
      have S4 := S3.new (o := .lst []) hp
      refine ⟨.list ((strsOf false cl).map PyData.str), .list [], .lst (SqL.of S4.i2) (dpa_strs _), .lst (SqL.of upd_same) .nil, st2, sh0, _, rfl, ite2 (fun ce => ?_) (fun ce => ?_)⟩
      rotate_left
      · have S3 := S4
        refine ⟨_, rfl, _, rfl, _, rfl, _, _, rfl, rfl, d, s, cols, cl, kf, ns, _, _, deep - 1, rfl, S3.dr, Cb S3, hk, by omega, by omega, fun v1 e1 n1 H4 k1 dp1 x1 b4 D4 => ?_⟩
        have S4 := S3.step b4 D4
        refine ⟨_, rfl, rfl, _, rfl, ite2 (fun c => ?_) (fun c => ?_)⟩
        · refine ⟨_, rfl, z2, fun p1 hp1 => ?_⟩
          have S5 := S4.new (o := .tup [.str "not", .str "minus"]) hp1
          refine ⟨d, s, p1, ns, _, _, [.str "not", .str "minus"], rfl, S5.dr, ne2 S4 hp1, .inr (SqT.of upd_same), (by intro z; cases z), fun v2 H6 hv2 b6 D6 => ⟨_, rfl, z2, fun t5 ht5 => ?_⟩⟩
          have S6 := S5.step b6 D6
          have S7 := S6.new (o := .tup [v2, v1]) ht5
          have x2 : ExAt (upd H6 t5 (.tup [v2, v1])) v1 e1 := ((x1.keep fun a xs e => same_upd hp1 _ _ e).keep (tp S5 b6)).keep fun a xs e => same_upd ht5 _ _ e
          obtain ⟨op, hop, rfl⟩ := mem_strs (l := ["not", "minus"]) hv2
          simp only [List.mem_cons, List.not_mem_nil, or_false] at hop
          rcases hop with rfl | rfl
          · exact q' (.ref t5) (.nt e1) _ _ (.nt k1) (by show e1.dep + 1 ≤ m + 2; omega) ⟨t5, _, rfl, upd_same, x2⟩ S7
          · exact q' (.ref t5) (.mn e1) _ _ (.mn k1) (by show e1.dep + 1 ≤ m + 2; omega) ⟨t5, _, rfl, upd_same, x2⟩ S7
        · refine ⟨_, rfl, (by show 13 ≤ sizeLine; decide), fun p1 hp1 => ?_⟩
          have S5 := S4.new (o := .tup (ops13.map V.str)) hp1
          refine ⟨d, s, p1, ns, _, _, ops13.map V.str, rfl, S5.dr, ne2 S4 hp1, .inr (SqT.of upd_same), (by intro z; cases z), fun v2 H6 hv2 b6 D6 => ?_⟩
          have S6 := S5.step b6 D6
          refine ⟨_, rfl, _, rfl, _, rfl, _, rfl, _, _, rfl, rfl, d, s, cols, cl, kf, ns, _, _, deep - 1, rfl, S6.dr, Cb S6, hk, by omega, by omega, fun v3 e3 n3 H7 k3 dp3 x3 b7 D7 => ⟨z4, fun t5 ht5 => ?_⟩⟩
          have S7 := S6.step b7 D7
          have S8 := S7.new (o := .tup [.str "two", v2, v1, v3]) ht5
          have x2 : ExAt (upd H7 t5 (.tup [.str "two", v2, v1, v3])) v1 e1 := (((x1.keep fun a xs e => same_upd hp1 _ _ e).keep (tp S5 b6)).keep (tp S6 b7)).keep fun a xs e => same_upd ht5 _ _ e
          have x4 : ExAt (upd H7 t5 (.tup [.str "two", v2, v1, v3])) v3 e3 := x3.keep fun a xs e => same_upd ht5 _ _ e
          obtain ⟨op, hop, rfl⟩ := mem_strs hv2
          exact q' (.ref t5) (.two op e1 e3) _ _ (.arith (ops13_in op hop) k1 k3) (by show max e1.dep e3.dep + 1 ≤ m + 2; omega) ⟨t5, _, _, rfl, upd_same, x2, x4⟩ S8
      refine ⟨_, rfl, _, rfl, d, s, D2, ns, _, _, (strsOf false cl).map V.str, rfl, S4.dr, S4.n2, .inl (SqL.of S4.i2), strs_ne ce, fun v2 H7 hv2 b7 D7 => ⟨z2, fun t2 ht2 => ⟨z2, fun t5 ht5 => ?_⟩⟩⟩
      have S7 := S4.step b7 D7
      have S8 := S7.new (o := .tup [.str "column", v2]) ht2
      have S9 := S8.new (o := .tup [.str "length", .ref t2]) ht5
      obtain ⟨x, rfl, kt⟩ := mem_strsOf hk hv2
      refine q' (.ref t5) (.ln (.col x)) _ _ (.ln (.col kt)) (by show 2 ≤ m + 2; omega) ?_ S9
      exact ⟨t5, _, rfl, upd_same, ⟨t2, rfl, same_upd ht5 _ _ upd_same⟩⟩
    -- one
    refine ⟨_, rfl, _, rfl, _, rfl, _, _, rfl, rfl, d, s, cols, cl, kf, ns, _, _, deep - 1, rfl, S3.dr, Cb S3, hk, by omega, by omega, fun v1 e1 n1 H4 k1 dp1 x1 b4 D4 => ?_⟩
    have S4 := S3.step b4 D4
    refine ⟨_, rfl, rfl, _, rfl, ite2 (fun c => ?_) (fun c => ?_)⟩
    · refine ⟨_, rfl, z2, fun p1 hp1 => ?_⟩
      have S5 := S4.new (o := .tup [.str "not", .str "minus"]) hp1
      refine ⟨d, s, p1, ns, _, _, [.str "not", .str "minus"], rfl, S5.dr, ne2 S4 hp1, .inr (SqT.of upd_same), (by intro z; cases z), fun v2 H6 hv2 b6 D6 => ⟨_, rfl, z2, fun t5 ht5 => ?_⟩⟩
      have S6 := S5.step b6 D6
      have S7 := S6.new (o := .tup [v2, v1]) ht5
      have x2 : ExAt (upd H6 t5 (.tup [v2, v1])) v1 e1 := ((x1.keep fun a xs e => same_upd hp1 _ _ e).keep (tp S5 b6)).keep fun a xs e => same_upd ht5 _ _ e
      obtain ⟨op, hop, rfl⟩ := mem_strs (l := ["not", "minus"]) hv2
      simp only [List.mem_cons, List.not_mem_nil, or_false] at hop
      rcases hop with rfl | rfl
      · exact q' (.ref t5) (.nt e1) _ _ (.nt k1) (by show e1.dep + 1 ≤ m + 2; omega) ⟨t5, _, rfl, upd_same, x2⟩ S7
      · exact q' (.ref t5) (.mn e1) _ _ (.mn k1) (by show e1.dep + 1 ≤ m + 2; omega) ⟨t5, _, rfl, upd_same, x2⟩ S7
    · refine ⟨_, rfl, (by show 13 ≤ sizeLine; decide), fun p1 hp1 => ?_⟩
      have S5 := S4.new (o := .tup (ops13.map V.str)) hp1
      refine ⟨d, s, p1, ns, _, _, ops13.map V.str, rfl, S5.dr, ne2 S4 hp1, .inr (SqT.of upd_same), (by intro z; cases z), fun v2 H6 hv2 b6 D6 => ?_⟩
      have S6 := S5.step b6 D6
      refine ⟨_, rfl, _, rfl, _, rfl, _, rfl, _, _, rfl, rfl, d, s, cols, cl, kf, ns, _, _, deep - 1, rfl, S6.dr, Cb S6, hk, by omega, by omega, fun v3 e3 n3 H7 k3 dp3 x3 b7 D7 => ⟨z4, fun t5 ht5 => ?_⟩⟩
      have S7 := S6.step b7 D7
      have S8 := S7.new (o := .tup [.str "two", v2, v1, v3]) ht5
      have x2 : ExAt (upd H7 t5 (.tup [.str "two", v2, v1, v3])) v1 e1 := (((x1.keep fun a xs e => same_upd hp1 _ _ e).keep (tp S5 b6)).keep (tp S6 b7)).keep fun a xs e => same_upd ht5 _ _ e
      have x4 : ExAt (upd H7 t5 (.tup [.str "two", v2, v1, v3])) v3 e3 := x3.keep fun a xs e => same_upd ht5 _ _ e
      obtain ⟨op, hop, rfl⟩ := mem_strs hv2
      exact q' (.ref t5) (.two op e1 e3) _ _ (.arith (ops13_in op hop) k1 k3) (by show max e1.dep e3.dep + 1 ≤ m + 2; omega) ⟨t5, _, _, rfl, upd_same, x2, x4⟩ S8
  -- a column, a number
  all_goals
    refine ⟨_, rfl, Nat.zero_le _, fun p hp => ?_⟩
    have S4 := S3.new (o := .lst []) hp
    refine ⟨.list ((strsOf true cl).map PyData.str), .list [], .lst (SqL.of S4.i1) (dpa_strs _), .lst (SqL.of upd_same) .nil, st1, sh0, _, rfl, ite2 (fun ce => ?_) (fun ce => ?_)⟩
    rotate_left
    · refine ⟨_, rfl, d, s, ns, _, _, _, rfl, S4.dr, (by show (0 : Int) < 6; decide), fun r H7 r0 r1 b7 D7 => ⟨z2, fun t2 ht2 => ?_⟩⟩
      have S7 := S4.step b7 D7
      have S8 := S7.new (o := .tup [.str "number", .int r]) ht2
      exact q' (.ref t2) (.num r) _ _ (.num (by omega)) (by show 1 ≤ m + 2; omega) ⟨t2, rfl, upd_same⟩ S8
    refine ⟨_, rfl, _, _, rfl, rfl, (by show (0 : Int) < 4; decide), _, _, rfl, rfl, _, rfl, ite2 (fun c3 => ?_) (fun c3 => ?_)⟩
    · refine ⟨_, rfl, _, rfl, d, s, D1, ns, _, _, (strsOf true cl).map V.str, rfl, S4.dr, S4.n1, .inl (SqL.of S4.i1), strs_ne ce, fun v2 H7 hv2 b7 D7 => ⟨z2, fun t2 ht2 => ?_⟩⟩
      have S7 := S4.step b7 D7
      have S8 := S7.new (o := .tup [.str "column", v2]) ht2
      obtain ⟨x, rfl, kx⟩ := mem_strsOf hk hv2
      exact q' (.ref t2) (.col x) _ _ (.col kx) (by show 1 ≤ m + 2; omega) ⟨t2, rfl, upd_same⟩ S8
    · refine ⟨_, rfl, d, s, ns, _, _, _, rfl, S4.dr, (by show (0 : Int) < 6; decide), fun r H7 r0 r1 b7 D7 => ⟨z2, fun t2 ht2 => ?_⟩⟩
      have S7 := S4.step b7 D7
      have S8 := S7.new (o := .tup [.str "number", .int r]) ht2
      exact q' (.ref t2) (.num r) _ _ (.num (by omega)) (by show 1 ≤ m + 2; omega) ⟨t2, rfl, upd_same⟩ S8
end
end Kj

namespace Kj
open PySem PySem.Spec PyProof.Rows L2 Kx
abbrev s_law_map : Stmt := topS 64
section
variable {P : Program} {w : World} {K : PySem.W.Frag} {mg : Str → Option Value} {base : Heap}
/-! ### _law_map -/
/-- a column that a map makes: where its detail stands, where its pair stands, what it tells, its kind, its name -/
structure MCol where
  det : Addr
  col : Addr
  told : V
  ex : Ex
  kind : Bool
  name : Str
def lates : List Str := ["k", "v", "w", "x", "k0", "v0", "w0", "x0", "k1", "v1", "w1", "x1", "k2", "v2", "w2", "x2"]
theorem lates_ok : ∀ z ∈ lates, PyData.canLay0 (.str z) = true := by decide +kernel
theorem late_in : ∀ a ∈ (["k", "v", "w", "x"] : List Str), ∀ b ∈ (["", "0", "1", "2"] : List Str), a ++ b ∈ lates := by decide +kernel
theorem late_len : ∀ a ∈ (["k", "v", "w", "x"] : List Str), ∀ b ∈ (["", "0", "1", "2"] : List Str), a.length + b.length ≤ sizeLine := by decide +kernel
structure MColAt (H : Hp) (kf : Str → Option Bool) (m : MCol) : Prop where
  at_det : H m.det = some (.tup [m.told, .str m.name])
  at_col : H m.col = some (.tup [.str m.name, .str (kW m.kind)])
  ex : ExAt H m.told m.ex
  kd : Kind kf m.ex m.kind
  dep : m.ex.dep ≤ 4
  nm : m.name ∈ lates
theorem MColAt.keep {H H' : Hp} {kf : Str → Option Bool} {m : MCol} (M : MColAt H kf m) (h : ∀ (a : Addr) (xs : List V), H a = some (.tup xs) → H' a = some (.tup xs)) : MColAt H' kf m :=
  ⟨h _ _ M.at_det, h _ _ M.at_col, M.ex.keep h, M.kd, M.dep, M.nm⟩
structure MapSt (H0 H : Hp) (kf : Str → Option Bool) (d s p1 p2 : Addr) (ns : List Int) (tl : List V) (ms : List MCol) : Prop where
  dr : ∃ n, DrawAt H d s ns tl n
  b : But d H0 H
  f1 : H0 p1 = none
  f2 : H0 p2 = none
  fs : ∃ o, H0 s = some o
  ne : p1 ≠ p2
  n1 : p1 ≠ d
  n2 : p2 ≠ d
  e1 : H p1 = some (.lst (ms.map fun m => .ref m.det))
  e2 : H p2 = some (.lst (ms.map fun m => .ref m.col))
  each : ∀ m ∈ ms, MColAt H kf m
  nod : (ms.map MCol.name).Nodup
theorem MapSt.step {H0 H H' : Hp} {kf : Str → Option Bool} {d s p1 p2 : Addr} {ns : List Int} {tl : List V} {ms : List MCol} {n : Int} (S : MapSt H0 H kf d s p1 p2 ns tl ms) (b : But d H H') (D : DrawAt H' d s ns tl n) : MapSt H0 H' kf d s p1 p2 ns tl ms := by
  obtain ⟨n0, D0⟩ := S.dr
  exact ⟨⟨n, D⟩, S.b.trans b, S.f1, S.f2, S.fs, S.ne, S.n1, S.n2, b _ _ S.n1 S.e1, b _ _ S.n2 S.e2, fun m hm => (S.each m hm).keep (b.tup D0.at_d), S.nod⟩
theorem MapSt.new {H0 H : Hp} {kf : Str → Option Bool} {d s p1 p2 p : Addr} {ns : List Int} {tl : List V} {ms : List MCol} {o : HO} (S : MapSt H0 H kf d s p1 p2 ns tl ms) (h : H p = none) : MapSt H0 (upd H p o) kf d s p1 p2 ns tl ms := by
  obtain ⟨n0, D0⟩ := S.dr
  exact S.step (same_but (same_upd h)) (D0.keep (same_upd h))
theorem MapSt.add {H0 H : Hp} {kf : Str → Option Bool} {d s p1 p2 : Addr} {ns : List Int} {tl : List V} {ms : List MCol} (S : MapSt H0 H kf d s p1 p2 ns tl ms) {m : MCol} (M : MColAt H kf m) (hn : m.name ∉ ms.map MCol.name) :
    MapSt H0 (upd (upd H p1 (.lst ((ms.map fun m => .ref m.det) ++ [.ref m.det]))) p2 (.lst ((ms.map fun m => .ref m.col) ++ [.ref m.col]))) kf d s p1 p2 ns tl (ms ++ [m]) := by
  obtain ⟨n0, D0⟩ := S.dr
  have kp : ∀ {a : Addr} {o : HO}, a ≠ p1 → a ≠ p2 → H a = some o → upd (upd H p1 (.lst ((ms.map fun m => .ref m.det) ++ [.ref m.det]))) p2 (.lst ((ms.map fun m => .ref m.col) ++ [.ref m.col])) a = some o := fun h1 h2 e => by
    rw [upd_ne h2, upd_ne h1]
    exact e
  have kt : ∀ (a : Addr) (xs : List V), H a = some (.tup xs) → upd (upd H p1 (.lst ((ms.map fun m => .ref m.det) ++ [.ref m.det]))) p2 (.lst ((ms.map fun m => .ref m.col) ++ [.ref m.col])) a = some (.tup xs) := fun a xs e =>
    kp (fun q => by rw [q, S.e1] at e; cases e) (fun q => by rw [q, S.e2] at e; cases e) e
  obtain ⟨os, es⟩ := S.fs
  have ks1 : s ≠ p1 := ne_of_none es S.f1
  have ks2 : s ≠ p2 := ne_of_none es S.f2
  have eP1 : upd (upd H p1 (.lst ((ms.map fun m => .ref m.det) ++ [.ref m.det]))) p2 (.lst ((ms.map fun m => .ref m.col) ++ [.ref m.col])) p1 = some (.lst ((ms.map fun m => .ref m.det) ++ [.ref m.det])) := by
    rw [upd_ne S.ne]
    exact upd_same
  refine ⟨⟨n0, kp S.n1.symm S.n2.symm D0.at_d, kp ks1 ks2 D0.at_s, D0.n0⟩, fun c o hc e => kp (ne_of_none e S.f1) (ne_of_none e S.f2) (S.b c o hc e), S.f1, S.f2, S.fs, S.ne, S.n1, S.n2, ?_, ?_, fun x hx => ?_, ?_⟩
  · rw [List.map_append]
    exact eP1
  · rw [List.map_append]
    exact upd_same
  · rcases List.mem_append.mp hx with hx | hx
    · exact (S.each x hx).keep kt
    · rw [List.mem_singleton.mp hx]
      exact M.keep kt
  · rw [List.map_append]
    exact List.nodup_append.mpr ⟨S.nod, by simp, fun a ha b hb e => hn (by
      have : b = m.name := List.mem_singleton.mp hb
      rw [← this, ← e]
      exact ha)⟩
theorem inV_str (z : Str) : ∀ l : List Str, inV (.str z) (l.map V.str) = decide (z ∈ l)
  | [] => rfl
  | x :: r => by
    have ih := inV_str z r
    show (x == z || inV (.str z) (r.map V.str)) = _
    rw [ih]
    by_cases h : x = z
    · subst h
      simp
    · have h' : ¬ z = x := fun e => h e.symm
      simp [h, h']
theorem upd_comm {H : Hp} {a b : Addr} {x y : HO} (h : a ≠ b) : upd (upd H a x) b y = upd (upd H b y) a x := by
  funext c
  by_cases h1 : c = b
  · rw [h1, upd_same, upd_ne h.symm, upd_same]
  · by_cases h2 : c = a
    · rw [h2, upd_ne h, upd_same, upd_same]
    · rw [upd_ne h1, upd_ne h2, upd_ne h2, upd_ne h1]
theorem str_num {i : Nat} (h : i < 3) : Str.ofString (toString ((0 : Int) + (i : Nat))) ∈ (["", "0", "1", "2"] : List Str) := by
  match i, h with
  | 0, _ => decide +kernel
  | 1, _ => decide +kernel
  | 2, _ => decide +kernel
theorem log_num {i : Nat} (h : i < 3) : ((0 : Int) + (i : Nat)).natAbs.log2 < 1920 := by
  match i, h with
  | 0, _ => decide +kernel
  | 1, _ => decide +kernel
  | 2, _ => decide +kernel
theorem notin_strs {z : Str} {l : List Str} {A B : Prop} (h1 : z ∉ l → A) (h2 : z ∈ l → B) : if (if true = true then !inV (.str z) (l.map V.str) else inV (.str z) (l.map V.str)) = true then A else B := by
  rw [if_pos rfl, inV_str]
  by_cases h : z ∈ l
  · rw [decide_eq_true h]
    exact iteF (h2 h)
  · rw [decide_eq_false h]
    exact iteT (h1 h)
theorem flat_strs : ∀ l : List Str, (l.map V.str).all flatV = true
  | [] => rfl
  | _ :: l => flat_strs l
abbrev N_law_map : List Str := ["draw", "columns", "at", "details", "found", "number", "name", "kind", "told", "late", "one", "by"]
def spMap : Sp := fun vs H Q _ => ∃ (d s cols : Addr) (at' : V) (cl : List Col) (kf : Str → Option Bool) (ns : List Int) (tl : List V) (n : Int), vs = [.ref d, .ref cols, at'] ∧ DrawAt H d s ns tl n ∧ ColsAt H cols cl ∧ (∀ c ∈ cl, kf c.2.1 = some c.2.2) ∧ cl ≠ [] ∧
  ∀ (r t f : Addr) (ms : List MCol) (n' : Int) (H' : Hp), H' r = some (.tup [.ref t, .ref f]) → H' t = some (.tup (ms.map fun m => .ref m.det)) → H' f = some (.lst (ms.map fun m => .ref m.col)) → (∀ m ∈ ms, MColAt H' kf m) → (ms.map MCol.name).Nodup → ms ≠ [] → ms.length ≤ 3 → But d H H' → DrawAt H' d s ns tl n' → Q (.ref r) H'
theorem sc_map : FnScope N_law_map ["draw", "columns", "at"] (defScope s_law_map) := ⟨rfl, rfl, rfl, by decide +kernel, rfl, by decide +kernel, by decide +kernel⟩
theorem ok_map {f : Addr} {fd : FuncData} (F : Fun K "_law_map" "_law_map" s_law_map f fd) (m_range : mg "range" = none) (m_str : mg "str" = none) (m_tuple : mg "tuple" = none) (G_law_next : Ready P w K mg base 3 "_law_next" ["draw", "bound"] spNext) (G_law_pick : Ready P w K mg base 4 "_law_pick" ["draw", "things"] (spPick K))
    (G_law_int : Ready P w K mg base 7 "_law_int" ["draw", "columns", "deep"] (spInt 3)) : FnOk P w K mg base CX0 8 f fd ["draw", "columns", "at"] spMap := by
  refine F.ok sc_map (fun vs H Q E h => ?_) (fun cdv A outer s0 H vs Q E hr h => ?_)
  · obtain ⟨d, s, cols, at', cl, kf, ns, tl, n, rfl, _⟩ := h
    rfl
  obtain ⟨d, s, cols, at', cl, kf, ns, tl, n, rfl, D, C, hk, hne, q⟩ := h
  have nd := sc_map.nd
  have hr4 : Room 4 _ := hr.mono (by omega)
  have hr3 : Room 3 _ := hr.mono (by omega)
  refine ⟨_, pss_cons (ps_par (i := 3) (j := 4) rfl nd rfl rfl (by decide) rfl rfl (pa_cons (pe_lst pa_nil) (pa_cons (pe_lst pa_nil) pa_nil)) rfl)
      (pss_cons (ps_for PassesOwn.never rfl (pi_range1 rfl m_range (pa_cons (pe_op op_add pe_int (pe_fn (G_law_next) hr3 (pa_cons (pv 0) (pa_cons pe_int pa_nil)))) pa_nil)) (pg_name (i := 5) nd rfl (.inl rfl)) (pss_cons (ps_if (pt_cmpR op_eq (pe_fn (G_law_next) hr3 (pa_cons (pv 0) (pa_cons pe_int pa_nil))) pe_int (nomark _)) (pss_cons (ps_asg (pe_fn (G_law_pick) hr4 (pa_cons (pv 0) (pa_cons (pv 1) pa_nil))) (pg_tup rfl (pgs_cons (pg_name (i := 6) nd rfl (.inl rfl)) (pgs_cons (pg_name (i := 7) nd rfl (.inl rfl)) pgs_nil))))
      (pss_one (ps_set (i := 8) nd rfl (.inl rfl) (pe_tup (pa_cons pe_str (pa_cons (pv 6) pa_nil)))))) (pss_one (ps_par (i := 8) (j := 7) rfl nd rfl rfl (by decide) rfl rfl (pa_cons (pe_fn (G_law_int) hr (pa_cons (pv 0) (pa_cons (pv 1) (pa_cons pe_int pa_nil)))) (pa_cons pe_str pa_nil)) rfl)))
      (pss_cons (ps_set (i := 9) nd rfl (.inl rfl) (pe_op op_add_str (pe_fn (G_law_pick) hr4 (pa_cons (pv 0) (pa_cons (pe_tup (pa_cons pe_str (pa_cons pe_str (pa_cons pe_str (pa_cons pe_str pa_nil))))) pa_nil))) (pe_ifExp (pt_cmpR op_eq (pe_fn (G_law_next) hr3 (pa_cons (pv 0) (pa_cons pe_int pa_nil))) pe_int (nomark _)) pe_str (pe_callTy call_str_int (by rfl) m_str PyProof.Rows.boot_str (pa_cons (pv 5) pa_nil)))))
      (pss_one (ps_if (pt_cmpR op_notIn_seq (pv 9) (pe_lc (own := [("one", 10), ("by", 11)]) (g := (gTup K 2 (gCons (gName 10) (gCons (gName 11) gNil)))) (tt := tYes) rfl nd (pi_list (pv 4)) (blkOk_by (N := N_law_map) (sc := defScope s_law_map) (by decide +kernel)) (fun _ _ _ _ _ => pg_tup rfl (pgs_cons (pg_name (i := 10) nd rfl (.inl rfl)) (pgs_cons (pg_name (i := 11) nd rfl (.inl rfl)) pgs_nil))) (fun _ _ _ _ _ => pts_nil) (fun _ _ _ _ _ => (pv 10))) rfl) (pss_cons (ps_expr (pe_bm PySem.F.plainAttrs_list PySem.F.slot_list_append PySem.F.type_list_append mt_append (pv 3) (pa_cons (pe_tup (pa_cons (pv 8) (pa_cons (pv 9) pa_nil))) pa_nil)))
      (pss_one (ps_expr (pe_bm PySem.F.plainAttrs_list PySem.F.slot_list_append PySem.F.type_list_append mt_append (pv 4) (pa_cons (pe_tup (pa_cons (pv 9) (pa_cons (pv 7) pa_nil))) pa_nil))))) (pss_nil))))))
      (pss_one (ps_ret (pe_tup (pa_cons (pe_callTy call_tuple_of (by rfl) m_tuple PyProof.Rows.boot_tuple (pa_cons (pv 3) pa_nil)) (pa_cons (pv 4) pa_nil)))))), ?_⟩
  refine ⟨Nat.zero_le _, fun p1 hp1 => ⟨Nat.zero_le _, fun p2 hp2 => ?_⟩⟩
  have hp2' : H p2 = none := by
    by_cases e : p2 = p1
    · rw [e, upd_same] at hp2
      cases hp2
    · rw [upd_ne e] at hp2
      exact hp2
  have S0 : MapSt H (upd (upd H p1 (.lst [])) p2 (.lst [])) kf d s p1 p2 ns tl [] := by
    have s1 := (same_upd (o := .lst []) hp1).trans (same_upd (o := .lst []) hp2)
    exact ⟨⟨n, D.keep s1⟩, same_but s1, hp1, hp2', ⟨_, D.at_s⟩, ne_of_none upd_same hp2, (ne_of_none D.at_d hp1).symm, (ne_of_none D.at_d hp2').symm, same_upd hp2 _ _ upd_same, upd_same, fun m hm => (List.not_mem_nil hm).elim, List.nodup_nil⟩
  obtain ⟨n0, D0⟩ := S0.dr
  refine ⟨_, _, rfl, ?_⟩
  refine ⟨_, rfl, d, s, ns, tl, _, _, rfl, D0, (by show (0 : Int) < 3; decide), fun r H1 r0 r1 b1 D1 => ?_⟩
  have S1 := S0.step b1 D1
  clear S0 D0 b1 D1 hp2
  refine ⟨_, _, rfl, rfl, _, rfl, by omega, by omega, ?_⟩
  have z2 : 2 ≤ sizeLine := by decide
  have z4 : 4 ≤ sizeLine := by decide
  have cne := C.ne D
  have clne : (cl.map fun c => V.ref c.1) ≠ [] := fun e => hne (List.map_eq_nil_iff.mp e)
  refine for_range (fun i σ H' => ∃ y5 y6 y7 y8 y9 y10 y11 ms, σ = [some (.ref d), some (.ref cols), some at', some (.ref p1), some (.ref p2), y5, y6, y7, y8, y9, y10, y11] ∧ MapSt H H' kf d s p1 p2 ns tl ms ∧ ms.length ≤ i ∧ (0 < i → ms ≠ [])) ⟨none, none, none, none, none, none, none, [], rfl, S1, Nat.le_refl _, fun h => absurd h (Nat.lt_irrefl _)⟩ ?_ ?_
  · rintro i σ H2 hi ⟨y5, y6, y7, y8, y9, y10, y11, ms, rfl, S2, hl, hz⟩
    obtain ⟨n2, D2⟩ := S2.dr
    refine ⟨_, rfl, d, s, ns, tl, _, _, rfl, D2, (by show (0 : Int) < 2; decide), fun r2 H3 _ _ b3 D3 => ?_⟩
    have S3 := S2.step b3 D3
    clear S2 D2 b3
    refine ⟨rfl, _, rfl, ite2 (fun c => ?_) (fun c => ?_)⟩
    · have C3 := C.but D S3.b
      refine ⟨_, rfl, _, rfl, d, s, cols, ns, tl, _, _, rfl, D3, cne, .inl (SqL.of C3.all), clne, fun v H4 hv b4 D4 => ?_⟩
      have S4 := S3.step b4 D4
      obtain ⟨⟨a, x, kb⟩, hc, rfl⟩ := List.mem_map.mp hv
      have C4 := C.but D S4.b
      refine ⟨a, _, rfl, SqT.of (C4.each _ hc), rfl, _, _, rfl, _, _, rfl, rfl, ?_⟩
      refine ⟨_, rfl, z2, fun t ht => ?_⟩
      have S5 := S4.new (o := .tup [.str "column", .str x]) ht
      obtain ⟨e, xe, ke, de⟩ : ∃ e, ExAt (upd H4 t (.tup [.str "column", .str x])) (.ref t) e ∧ Kind kf e kb ∧ e.dep ≤ 4 := ⟨.col x, ⟨t, rfl, upd_same⟩, .col (hk _ hc), by show 1 ≤ 4; omega⟩
      obtain ⟨kw, hw⟩ : ∃ kw, kw = kW kb := ⟨_, rfl⟩
      rw [← hw]
      obtain ⟨n5', D5'⟩ := S5.dr
      refine ⟨_, rfl, z4, fun q1 hq1 => ?_⟩
      have S6 := S5.new (o := .tup [.str "k", .str "v", .str "w", .str "x"]) hq1
      obtain ⟨n6, D6⟩ := S6.dr
      refine ⟨d, s, q1, ns, tl, _, [.str "k", .str "v", .str "w", .str "x"], rfl, D6, (ne_of_none D5'.at_d hq1).symm, .inr (SqT.of upd_same), (by intro z; cases z), fun v1 H7 hv1 b7 D7 => ?_⟩
      have S7 := S6.step b7 D7
      refine ⟨_, rfl, d, s, ns, tl, _, _, rfl, D7, (by show (0 : Int) < 2; decide), fun r3 H8 _ _ b8 D8 => ⟨rfl, _, rfl, ?_⟩⟩
      have S8 := S7.step b8 D8
      have x8 := ((xe.keep (fun a xs e => same_upd (o := .tup [.str "k", .str "v", .str "w", .str "x"]) hq1 _ _ e)).keep (b7.tup D6.at_d)).keep (b8.tup D7.at_d)
      obtain ⟨a1, ha1, rfl⟩ := mem_strs (l := ["k", "v", "w", "x"]) hv1
      clear S3 S5 S6 S7 xe b7 b8 D5' D6 D7 D8 D3
      refine ite2 (fun c => ⟨a1, "", rfl, rfl, late_len _ ha1 _ (by decide +kernel), ?_⟩) (fun c => ⟨_, rfl, _, rfl, log_num (by omega), a1, _, rfl, rfl, late_len a1 ha1 _ (str_num (by omega)), ?_⟩)
      · have hzl := late_in a1 ha1 "" (by decide +kernel)
        generalize a1 ++ ("" : Str) = z at hzl ⊢
        obtain ⟨n8, D8⟩ := S8.dr
        refine ⟨_, rfl, _, rfl, p2, rfl, ⟨_, SqL.of S8.e2⟩, fun D1 hD1 => lc_list (xs := ms.map fun m => .ref m.col) (fun j H' => Same H8 H' ∧ H' D1 = some (.lst ((ms.take j).map fun m => V.str m.name))) ⟨same_upd hD1, upd_same⟩ (fun j H' _ h => SqL.of (h.1 _ _ S8.e2)) ?_ ?_⟩
        · rintro j x' H' hx ⟨sm, e9⟩
          have nD : ∀ {o}, Same H8 (upd H' D1 o) := fun b o' e' => by
            rw [upd_ne (ne_of_none e' hD1)]
            exact sm _ _ e'
          rw [List.getElem?_map] at hx
          obtain ⟨m, hm, rfl⟩ := Option.map_eq_some_iff.mp hx
          have M := S8.each m (List.mem_of_getElem? hm)
          refine ⟨m.col, _, rfl, SqT.of (sm _ _ M.at_col), rfl, _, _, rfl, _, _, rfl, rfl, rfl, ?_⟩
          refine ⟨_, rfl, _, e9, ?_, nD, ?_⟩
          · rw [List.length_map]
            have h1 : (ms.take j).length ≤ ms.length := by rw [List.length_take]; omega
            exact Nat.lt_of_le_of_lt (show _ ≤ 3 by omega) (by decide)
          · have h1 : ms.take (j + 1) = ms.take j ++ [m] := by
              rw [List.take_add_one, hm]
              rfl
            rw [h1, List.map_append]
            exact upd_same
        rintro H9 ⟨s9, e9⟩
        have e9' : H9 D1 = some (.lst ((ms.map MCol.name).map V.str)) := by
          rw [List.length_map, List.take_length] at e9
          rw [List.map_map]
          exact e9
        have S9 := S8.step (same_but s9) (D8.keep s9)
        have x9 := x8.keep (fun a xs e => s9 a _ e)
        clear S8 D8 s9 e9 x8
        refine ⟨D1, (ms.map MCol.name).map V.str, rfl, .inl (SqL.of e9'), rfl, flat_strs _, _, rfl, notin_strs (fun hn => ?_) (fun hn => ?_)⟩
        · have m3 : ∀ {f : MCol → V}, (ms.map f).length < sizeLine := by
            intro f
            rw [List.length_map]
            exact Nat.lt_of_le_of_lt (show _ ≤ 3 by omega) (by decide)
          refine ⟨_, rfl, .inl ⟨rfl, _, SqL.of S9.e1⟩, _, rfl, _, rfl, z2, fun t1 ht1 => ?_⟩
          have S10 := S9.new (o := .tup [.ref t, .str z]) ht1
          refine ⟨p1, _, _, rfl, rfl, S10.e1, m3, ?_⟩
          have E2 := S10.e2
          refine ⟨_, rfl, .inl ⟨rfl, _, SqL.of (by rw [upd_ne S10.ne.symm]; exact E2)⟩, _, rfl, _, rfl, z2, fun t2 ht2 => ?_⟩
          have ne2 : p1 ≠ t2 := ne_of_none upd_same ht2
          have ht2' : upd H9 t1 (.tup [.ref t, .str z]) t2 = none := by
            rw [upd_ne ne2.symm] at ht2
            exact ht2
          rw [upd_comm ne2]
          have S11 := S10.new (o := .tup [.str z, .str kw]) ht2'
          refine ⟨p2, _, _, rfl, rfl, by rw [upd_ne S11.ne.symm]; exact S11.e2, m3, ?_⟩
          have M : MColAt _ kf { det := t1, col := t2, told := .ref t, ex := e, kind := kb, name := z } := ⟨same_upd ht2' _ _ upd_same, (by rw [← hw]; exact upd_same), (x9.keep (fun a xs e => same_upd ht1 _ _ e)).keep (fun a xs e => same_upd ht2' _ _ e), ke, de, hzl⟩
          exact ⟨_, _, _, _, _, _, _, _, rfl, S11.add M hn, (by rw [List.length_append]; show ms.length + 1 ≤ i + 1; omega), fun _ h => by cases ms <;> cases h⟩
        · exact ⟨_, _, _, _, _, _, _, ms, rfl, S9, by omega, fun _ h => by rw [h] at hn; cases hn⟩
      · have hzl := late_in a1 ha1 _ (str_num (i := i) (by omega))
        generalize a1 ++ Str.ofString (toString ((0 : Int) + (i : Nat))) = z at hzl ⊢
        obtain ⟨n8, D8⟩ := S8.dr
        refine ⟨_, rfl, _, rfl, p2, rfl, ⟨_, SqL.of S8.e2⟩, fun D1 hD1 => lc_list (xs := ms.map fun m => .ref m.col) (fun j H' => Same H8 H' ∧ H' D1 = some (.lst ((ms.take j).map fun m => V.str m.name))) ⟨same_upd hD1, upd_same⟩ (fun j H' _ h => SqL.of (h.1 _ _ S8.e2)) ?_ ?_⟩
        · rintro j x' H' hx ⟨sm, e9⟩
          have nD : ∀ {o}, Same H8 (upd H' D1 o) := fun b o' e' => by
            rw [upd_ne (ne_of_none e' hD1)]
            exact sm _ _ e'
          rw [List.getElem?_map] at hx
          obtain ⟨m, hm, rfl⟩ := Option.map_eq_some_iff.mp hx
          have M := S8.each m (List.mem_of_getElem? hm)
          refine ⟨m.col, _, rfl, SqT.of (sm _ _ M.at_col), rfl, _, _, rfl, _, _, rfl, rfl, rfl, ?_⟩
          refine ⟨_, rfl, _, e9, ?_, nD, ?_⟩
          · rw [List.length_map]
            have h1 : (ms.take j).length ≤ ms.length := by rw [List.length_take]; omega
            exact Nat.lt_of_le_of_lt (show _ ≤ 3 by omega) (by decide)
          · have h1 : ms.take (j + 1) = ms.take j ++ [m] := by
              rw [List.take_add_one, hm]
              rfl
            rw [h1, List.map_append]
            exact upd_same
        rintro H9 ⟨s9, e9⟩
        have e9' : H9 D1 = some (.lst ((ms.map MCol.name).map V.str)) := by
          rw [List.length_map, List.take_length] at e9
          rw [List.map_map]
          exact e9
        have S9 := S8.step (same_but s9) (D8.keep s9)
        have x9 := x8.keep (fun a xs e => s9 a _ e)
        clear S8 D8 s9 e9 x8
        refine ⟨D1, (ms.map MCol.name).map V.str, rfl, .inl (SqL.of e9'), rfl, flat_strs _, _, rfl, notin_strs (fun hn => ?_) (fun hn => ?_)⟩
        · have m3 : ∀ {f : MCol → V}, (ms.map f).length < sizeLine := by
            intro f
            rw [List.length_map]
            exact Nat.lt_of_le_of_lt (show _ ≤ 3 by omega) (by decide)
          refine ⟨_, rfl, .inl ⟨rfl, _, SqL.of S9.e1⟩, _, rfl, _, rfl, z2, fun t1 ht1 => ?_⟩
          have S10 := S9.new (o := .tup [.ref t, .str z]) ht1
          refine ⟨p1, _, _, rfl, rfl, S10.e1, m3, ?_⟩
          have E2 := S10.e2
          refine ⟨_, rfl, .inl ⟨rfl, _, SqL.of (by rw [upd_ne S10.ne.symm]; exact E2)⟩, _, rfl, _, rfl, z2, fun t2 ht2 => ?_⟩
          have ne2 : p1 ≠ t2 := ne_of_none upd_same ht2
          have ht2' : upd H9 t1 (.tup [.ref t, .str z]) t2 = none := by
            rw [upd_ne ne2.symm] at ht2
            exact ht2
          rw [upd_comm ne2]
          have S11 := S10.new (o := .tup [.str z, .str kw]) ht2'
          refine ⟨p2, _, _, rfl, rfl, by rw [upd_ne S11.ne.symm]; exact S11.e2, m3, ?_⟩
          have M : MColAt _ kf { det := t1, col := t2, told := .ref t, ex := e, kind := kb, name := z } := ⟨same_upd ht2' _ _ upd_same, (by rw [← hw]; exact upd_same), (x9.keep (fun a xs e => same_upd ht1 _ _ e)).keep (fun a xs e => same_upd ht2' _ _ e), ke, de, hzl⟩
          exact ⟨_, _, _, _, _, _, _, _, rfl, S11.add M hn, (by rw [List.length_append]; show ms.length + 1 ≤ i + 1; omega), fun _ h => by cases ms <;> cases h⟩
        · exact ⟨_, _, _, _, _, _, _, ms, rfl, S9, by omega, fun _ h => by rw [h] at hn; cases hn⟩
    · have C3 := C.but D S3.b
      refine ⟨_, rfl, _, rfl, d, s, cols, cl, kf, ns, tl, _, 2, rfl, D3, C3, hk, by decide, rfl, fun v e n5 H5 ke de xe b5 D5 => ⟨_, _, rfl, ?_⟩⟩
      have S5 := S3.step b5 D5
      obtain ⟨kb, hkb⟩ : ∃ kb : Bool, kb = true := ⟨_, rfl⟩
      have hw : ("int" : Str) = kW kb := by
        rw [hkb]
        rfl
      have ke : Kind kf e kb := hkb ▸ ke
      obtain ⟨n5', D5'⟩ := S5.dr
      refine ⟨_, rfl, z4, fun q1 hq1 => ?_⟩
      have S6 := S5.new (o := .tup [.str "k", .str "v", .str "w", .str "x"]) hq1
      obtain ⟨n6, D6⟩ := S6.dr
      refine ⟨d, s, q1, ns, tl, _, [.str "k", .str "v", .str "w", .str "x"], rfl, D6, (ne_of_none D5'.at_d hq1).symm, .inr (SqT.of upd_same), (by intro z; cases z), fun v1 H7 hv1 b7 D7 => ?_⟩
      have S7 := S6.step b7 D7
      refine ⟨_, rfl, d, s, ns, tl, _, _, rfl, D7, (by show (0 : Int) < 2; decide), fun r3 H8 _ _ b8 D8 => ⟨rfl, _, rfl, ?_⟩⟩
      have S8 := S7.step b8 D8
      have x8 := ((xe.keep (fun a xs e => same_upd (o := .tup [.str "k", .str "v", .str "w", .str "x"]) hq1 _ _ e)).keep (b7.tup D6.at_d)).keep (b8.tup D7.at_d)
      obtain ⟨a1, ha1, rfl⟩ := mem_strs (l := ["k", "v", "w", "x"]) hv1
      clear S3 S5 S6 S7 xe b7 b8 D5' D6 D7 D8 D3
      refine ite2 (fun c => ⟨a1, "", rfl, rfl, late_len _ ha1 _ (by decide +kernel), ?_⟩) (fun c => ⟨_, rfl, _, rfl, log_num (by omega), a1, _, rfl, rfl, late_len a1 ha1 _ (str_num (by omega)), ?_⟩)
      · have hzl := late_in a1 ha1 "" (by decide +kernel)
        generalize a1 ++ ("" : Str) = z at hzl ⊢
        obtain ⟨n8, D8⟩ := S8.dr
        refine ⟨_, rfl, _, rfl, p2, rfl, ⟨_, SqL.of S8.e2⟩, fun D1 hD1 => lc_list (xs := ms.map fun m => .ref m.col) (fun j H' => Same H8 H' ∧ H' D1 = some (.lst ((ms.take j).map fun m => V.str m.name))) ⟨same_upd hD1, upd_same⟩ (fun j H' _ h => SqL.of (h.1 _ _ S8.e2)) ?_ ?_⟩
        · rintro j x' H' hx ⟨sm, e9⟩
          have nD : ∀ {o}, Same H8 (upd H' D1 o) := fun b o' e' => by
            rw [upd_ne (ne_of_none e' hD1)]
            exact sm _ _ e'
          rw [List.getElem?_map] at hx
          obtain ⟨m, hm, rfl⟩ := Option.map_eq_some_iff.mp hx
          have M := S8.each m (List.mem_of_getElem? hm)
          refine ⟨m.col, _, rfl, SqT.of (sm _ _ M.at_col), rfl, _, _, rfl, _, _, rfl, rfl, rfl, ?_⟩
          refine ⟨_, rfl, _, e9, ?_, nD, ?_⟩
          · rw [List.length_map]
            have h1 : (ms.take j).length ≤ ms.length := by rw [List.length_take]; omega
            exact Nat.lt_of_le_of_lt (show _ ≤ 3 by omega) (by decide)
          · have h1 : ms.take (j + 1) = ms.take j ++ [m] := by
              rw [List.take_add_one, hm]
              rfl
            rw [h1, List.map_append]
            exact upd_same
        rintro H9 ⟨s9, e9⟩
        have e9' : H9 D1 = some (.lst ((ms.map MCol.name).map V.str)) := by
          rw [List.length_map, List.take_length] at e9
          rw [List.map_map]
          exact e9
        have S9 := S8.step (same_but s9) (D8.keep s9)
        have x9 := x8.keep (fun a xs e => s9 a _ e)
        clear S8 D8 s9 e9 x8
        refine ⟨D1, (ms.map MCol.name).map V.str, rfl, .inl (SqL.of e9'), rfl, flat_strs _, _, rfl, notin_strs (fun hn => ?_) (fun hn => ?_)⟩
        · have m3 : ∀ {f : MCol → V}, (ms.map f).length < sizeLine := by
            intro f
            rw [List.length_map]
            exact Nat.lt_of_le_of_lt (show _ ≤ 3 by omega) (by decide)
          refine ⟨_, rfl, .inl ⟨rfl, _, SqL.of S9.e1⟩, _, rfl, _, rfl, z2, fun t1 ht1 => ?_⟩
          have S10 := S9.new (o := .tup [v, .str z]) ht1
          refine ⟨p1, _, _, rfl, rfl, S10.e1, m3, ?_⟩
          have E2 := S10.e2
          refine ⟨_, rfl, .inl ⟨rfl, _, SqL.of (by rw [upd_ne S10.ne.symm]; exact E2)⟩, _, rfl, _, rfl, z2, fun t2 ht2 => ?_⟩
          have ne2 : p1 ≠ t2 := ne_of_none upd_same ht2
          have ht2' : upd H9 t1 (.tup [v, .str z]) t2 = none := by
            rw [upd_ne ne2.symm] at ht2
            exact ht2
          rw [upd_comm ne2]
          have S11 := S10.new (o := .tup [.str z, .str "int"]) ht2'
          refine ⟨p2, _, _, rfl, rfl, by rw [upd_ne S11.ne.symm]; exact S11.e2, m3, ?_⟩
          have M : MColAt _ kf { det := t1, col := t2, told := v, ex := e, kind := kb, name := z } := ⟨same_upd ht2' _ _ upd_same, (by rw [← hw]; exact upd_same), (x9.keep (fun a xs e => same_upd ht1 _ _ e)).keep (fun a xs e => same_upd ht2' _ _ e), ke, de, hzl⟩
          exact ⟨_, _, _, _, _, _, _, _, rfl, S11.add M hn, (by rw [List.length_append]; show ms.length + 1 ≤ i + 1; omega), fun _ h => by cases ms <;> cases h⟩
        · exact ⟨_, _, _, _, _, _, _, ms, rfl, S9, by omega, fun _ h => by rw [h] at hn; cases hn⟩
      · have hzl := late_in a1 ha1 _ (str_num (i := i) (by omega))
        generalize a1 ++ Str.ofString (toString ((0 : Int) + (i : Nat))) = z at hzl ⊢
        obtain ⟨n8, D8⟩ := S8.dr
        refine ⟨_, rfl, _, rfl, p2, rfl, ⟨_, SqL.of S8.e2⟩, fun D1 hD1 => lc_list (xs := ms.map fun m => .ref m.col) (fun j H' => Same H8 H' ∧ H' D1 = some (.lst ((ms.take j).map fun m => V.str m.name))) ⟨same_upd hD1, upd_same⟩ (fun j H' _ h => SqL.of (h.1 _ _ S8.e2)) ?_ ?_⟩
        · rintro j x' H' hx ⟨sm, e9⟩
          have nD : ∀ {o}, Same H8 (upd H' D1 o) := fun b o' e' => by
            rw [upd_ne (ne_of_none e' hD1)]
            exact sm _ _ e'
          rw [List.getElem?_map] at hx
          obtain ⟨m, hm, rfl⟩ := Option.map_eq_some_iff.mp hx
          have M := S8.each m (List.mem_of_getElem? hm)
          refine ⟨m.col, _, rfl, SqT.of (sm _ _ M.at_col), rfl, _, _, rfl, _, _, rfl, rfl, rfl, ?_⟩
          refine ⟨_, rfl, _, e9, ?_, nD, ?_⟩
          · rw [List.length_map]
            have h1 : (ms.take j).length ≤ ms.length := by rw [List.length_take]; omega
            exact Nat.lt_of_le_of_lt (show _ ≤ 3 by omega) (by decide)
          · have h1 : ms.take (j + 1) = ms.take j ++ [m] := by
              rw [List.take_add_one, hm]
              rfl
            rw [h1, List.map_append]
            exact upd_same
        rintro H9 ⟨s9, e9⟩
        have e9' : H9 D1 = some (.lst ((ms.map MCol.name).map V.str)) := by
          rw [List.length_map, List.take_length] at e9
          rw [List.map_map]
          exact e9
        have S9 := S8.step (same_but s9) (D8.keep s9)
        have x9 := x8.keep (fun a xs e => s9 a _ e)
        clear S8 D8 s9 e9 x8
        refine ⟨D1, (ms.map MCol.name).map V.str, rfl, .inl (SqL.of e9'), rfl, flat_strs _, _, rfl, notin_strs (fun hn => ?_) (fun hn => ?_)⟩
        · have m3 : ∀ {f : MCol → V}, (ms.map f).length < sizeLine := by
            intro f
            rw [List.length_map]
            exact Nat.lt_of_le_of_lt (show _ ≤ 3 by omega) (by decide)
          refine ⟨_, rfl, .inl ⟨rfl, _, SqL.of S9.e1⟩, _, rfl, _, rfl, z2, fun t1 ht1 => ?_⟩
          have S10 := S9.new (o := .tup [v, .str z]) ht1
          refine ⟨p1, _, _, rfl, rfl, S10.e1, m3, ?_⟩
          have E2 := S10.e2
          refine ⟨_, rfl, .inl ⟨rfl, _, SqL.of (by rw [upd_ne S10.ne.symm]; exact E2)⟩, _, rfl, _, rfl, z2, fun t2 ht2 => ?_⟩
          have ne2 : p1 ≠ t2 := ne_of_none upd_same ht2
          have ht2' : upd H9 t1 (.tup [v, .str z]) t2 = none := by
            rw [upd_ne ne2.symm] at ht2
            exact ht2
          rw [upd_comm ne2]
          have S11 := S10.new (o := .tup [.str z, .str "int"]) ht2'
          refine ⟨p2, _, _, rfl, rfl, by rw [upd_ne S11.ne.symm]; exact S11.e2, m3, ?_⟩
          have M : MColAt _ kf { det := t1, col := t2, told := v, ex := e, kind := kb, name := z } := ⟨same_upd ht2' _ _ upd_same, (by rw [← hw]; exact upd_same), (x9.keep (fun a xs e => same_upd ht1 _ _ e)).keep (fun a xs e => same_upd ht2' _ _ e), ke, de, hzl⟩
          exact ⟨_, _, _, _, _, _, _, _, rfl, S11.add M hn, (by rw [List.length_append]; show ms.length + 1 ≤ i + 1; omega), fun _ h => by cases ms <;> cases h⟩
        · exact ⟨_, _, _, _, _, _, _, ms, rfl, S9, by omega, fun _ h => by rw [h] at hn; cases hn⟩
  · rintro σ H2 ⟨y5, y6, y7, y8, y9, y10, y11, ms, rfl, S2, hl, hz⟩
    refine ⟨_, rfl, p1, _, rfl, .inl ⟨SqL.of S2.e1, fun t ht => ⟨_, rfl, z2, fun rr hrr => ?_⟩⟩⟩
    have S3 := S2.new (o := .tup (ms.map fun m => .ref m.det)) ht
    have S4 := S3.new (o := .tup [.ref t, .ref p2]) hrr
    obtain ⟨n4, D4⟩ := S4.dr
    exact q rr t p2 ms n4 _ upd_same (same_upd hrr _ _ upd_same) S4.e2 S4.each S4.nod (hz (by omega)) (by omega) S4.b D4
end
end Kj

namespace Kj
open PySem PySem.Spec PyProof.Rows L2 Kx
abbrev s_law_most : Stmt := topS 67
section
variable {P : Program} {w : World} {K : PySem.W.Frag} {mg : Str → Option Value} {base : Heap}
/-! ### _law_most -/
abbrev N_law_most : List Str := ["draw", "step", "some", "one"]
theorem sc_most : FnScope N_law_most ["draw", "step"] (defScope s_law_most) := ⟨rfl, rfl, rfl, by decide +kernel, rfl, by decide +kernel, by decide +kernel⟩
def spMost : Sp := fun vs H Q _ => ∃ (d s g st inp : Addr) (ns : List Int) (tl : List V) (n : Int) (nm det : V) (kind : Str) (is : List Str) (js : List Int) (kvs : List (L2.Key × V)), vs = [.ref d, .ref st] ∧ DrawAt H d s ns (.ref g :: tl) n ∧ H g = some (.dK kvs) ∧
  H st = some (.tup [nm, .str kind, .ref inp, det]) ∧ H inp = some (.tup (is.map V.str)) ∧ is.length = js.length ∧ js.length ≤ 1000 ∧ (∀ (i : Nat) (x : Str), is[i]? = some x → ∃ j : Int, js[i]? = some j ∧ valV kvs (.inr x) = some (.int j)) ∧
  (kind = "join" → ∃ a b : Int, js = [a, b] ∧ 0 ≤ a ∧ a ≤ 400 ∧ 0 ≤ b ∧ b ≤ 400 ∧ 0 ≤ a * b ∧ a * b ≤ 400) ∧ (kind ≠ "join" → 0 ≤ js.sum ∧ js.sum ≤ 400) ∧
  (kind = "sort" → ∃ (da : Addr) (x : V) (m : Int), det = .ref da ∧ H da = some (.tup [x, .int m]) ∧ 0 ≤ m) ∧ ∀ (j : Int) (H' : Hp), 0 ≤ j → j ≤ 400 → Same H H' → Q (.int j) H'
theorem at3 {a b c e : V} {tl : List V} : atI (a :: b :: c :: e :: tl) 3 = some e := atI_nat (j := 3) rfl
theorem ok_most {f : Addr} {fd : FuncData} (F : Fun K "_law_most" "_law_most" s_law_most f fd) (m_sum : mg "sum" = none) (m_min : mg "min" = none) : FnOk P w K mg base CX0 1 f fd ["draw", "step"] spMost := by
  refine F.ok sc_most (fun vs H Q E h => ?_) (fun cdv A outer s0 H vs Q E hr h => ?_)
  · obtain ⟨d, s, g, st, inp, ns, tl, n, nm, det, kind, is, js, kvs, rfl, _⟩ := h
    rfl
  obtain ⟨d, s, g, st, inp, ns, tl, n, nm, det, kind, is, js, kvs, rfl, D, eg, es, ei, il, jl, hv, hj, hj2, hs, q⟩ := h
  have nd := sc_most.nd
  have hu64 : _ + 64 < cLine := hr.units
  have z2 : 2 ≤ sizeLine := by decide
  have hu1 : _ + 1 < cLine := Nat.lt_of_le_of_lt (Nat.add_le_add_left (by decide : 1 ≤ 64) _) hu64
  refine ⟨_, pss_cons (ps_setLc (i := 2) (own := [("one", 3)]) (g := gName 3) (tt := tYes) rfl nd rfl rfl (sw_true rfl rfl rfl (by decide +kernel)) (pi_tup (pe_ix ix_tup (pv 1) pe_int (fun _ _ => rfl))) (blkOk_by (N := N_law_most) (sc := defScope s_law_most) (by decide +kernel)) (fun _ _ _ _ _ => pg_name (i := 3) nd rfl (Or.inl rfl)) (fun _ _ _ _ _ => pts_nil) (fun _ _ _ _ _ => (pe_dget hu1 (pe_ix (show IxR _ (rIxL K) from ix_list) (pv 0) pe_int (fun _ _ => rfl)) (pv 3) (fun _ _ => rfl))))
      (pss_cons (ps_if (pt_cmpR op_eq (pe_ix ix_tup (pv 1) pe_int (fun _ _ => rfl)) pe_str (nomark _)) (pss_one (ps_ret (pe_op op_mul (pe_ix ix_list (pv 2) pe_int (fun _ _ => rfl)) (pe_ix ix_list (pv 2) pe_int (fun _ _ => rfl))))) (pss_nil))
      (pss_one (ps_ret (pe_ifExp (pt_cmpR op_eq (pe_ix ix_tup (pv 1) pe_int (fun _ _ => rfl)) pe_str (nomark _)) (pe_callB (cr_min rfl) (by rfl) m_min boot_min (pa_cons (pe_lst (pa_cons (pe_callB (cr_sum rfl) (by rfl) m_sum boot_sum (pa_cons (pv 2) pa_nil)) (pa_cons (pe_ix ix_tup (pe_ix ix_tup (pv 1) pe_int (fun _ _ => rfl)) pe_int (fun _ _ => rfl)) pa_nil))) pa_nil)) (pe_callB (cr_sum rfl) (by rfl) m_sum boot_sum (pa_cons (pv 2) pa_nil)))))), ?_⟩
  refine ⟨_, rfl, st, _, 2, _, rfl, rfl, SqT.of es, rfl, inp, rfl, ⟨_, SqT.of ei⟩, fun D1 hD1 => lc_tup (xs := is.map V.str) (fun i H' => Same H H' ∧ H' D1 = some (.lst ((js.take i).map V.int))) ⟨same_upd hD1, upd_same⟩ (fun i H' _ h => SqT.of (h.1 _ _ ei)) ?_ ?_⟩
  · rintro i x H' hx ⟨sm, e⟩
    have nD : ∀ {o}, Same H (upd H' D1 o) := fun b o' e' => by
      rw [upd_ne (ne_of_none e' hD1)]
      exact sm _ _ e'
    rw [List.getElem?_map] at hx
    obtain ⟨z, hz, rfl⟩ := Option.map_eq_some_iff.mp hx
    obtain ⟨j, hj', ej⟩ := hv i z hz
    have gt : DGet H' g (.str z) (some (.int j)) := ej ▸ DGet.k (k := .inr z) (sm _ _ eg)
    refine ⟨rfl, ?_⟩
    refine ⟨_, rfl, d, _, 3, _, rfl, rfl, SqL.of (sm _ _ D.at_d), at3, _, rfl, g, _, rfl, gt, _, e, ?_, nD, ?_⟩
    · rw [List.length_map]
      have h1 : (js.take i).length ≤ js.length := by rw [List.length_take]; omega
      exact Nat.lt_of_le_of_lt (show _ ≤ 1000 by omega) (by decide)
    · have h1 : js.take (i + 1) = js.take i ++ [j] := by
        rw [List.take_add_one, hj']
        rfl
      rw [h1, List.map_append]
      exact upd_same
  rintro H1 ⟨s1, e1⟩
  rw [List.length_map, il, List.take_length] at e1
  refine ⟨_, rfl, st, _, 1, _, rfl, rfl, SqT.of (s1 _ _ es), rfl, rfl, _, rfl, ite2 (fun c => ?_) (fun c => ?_)⟩
  · have ek : kind = "join" := by
      have := of_decide_eq_true c
      injection this
    obtain ⟨a, b, rfl, a0, a1, b0, b1, p0, p1⟩ := hj ek
    refine ⟨_, rfl, D1, _, 0, _, rfl, rfl, SqL.of e1, rfl, _, rfl, D1, _, 1, _, rfl, rfl, SqL.of e1, rfl, _, _, rfl, rfl, ?_, ?_⟩
    · exact .inl (by show _ ∧ _; omega)
    · exact q _ _ p0 p1 s1
  · have nj : kind ≠ "join" := fun e => c (decide_eq_true (by rw [e]))
    obtain ⟨q0, q1⟩ := hj2 nj
    refine ⟨_, rfl, st, _, 1, _, rfl, rfl, SqT.of (s1 _ _ es), rfl, rfl, _, rfl, ite2 (fun c2 => ?_) (fun c2 => ⟨_, rfl, D1, js, rfl, SqL.of e1, q _ _ q0 q1 s1⟩)⟩
    have ek : kind = "sort" := by
      have := of_decide_eq_true c2
      injection this
    obtain ⟨da, x, m, rfl, ed, m0⟩ := hs ek
    refine ⟨_, rfl, D1, js, rfl, SqL.of e1, ?_⟩
    refine ⟨_, rfl, st, _, 3, _, rfl, rfl, SqT.of (s1 _ _ es), rfl, da, _, 1, _, rfl, rfl, SqT.of (s1 _ _ ed), rfl, z2, fun p hp => ?_⟩
    refine ⟨p, [_, m], rfl, SqL.of upd_same, (by show 0 < 2; decide), fun k hk hle => q _ _ ?_ ?_ (s1.trans (same_upd hp))⟩
    · rcases List.mem_cons.mp hk with rfl | hk
      · exact q0
      · rw [List.mem_singleton.mp hk]
        exact m0
    · exact Int.le_trans (hle _ List.mem_cons_self) q1
end
end Kj

namespace Kj
open PySem PySem.Spec PyProof.Rows L2 Kx
theorem nodup_len : ∀ {M ks : List L2.Key}, M.Nodup → (∀ z ∈ M, z ∈ ks) → M.length ≤ ks.length
  | [], _, _, _ => Nat.zero_le _
  | x :: M, ks, hn, hs => by
    have hn' := List.nodup_cons.mp hn
    obtain ⟨u, t, rfl⟩ := List.append_of_mem (hs x List.mem_cons_self)
    have h1 : M.length ≤ (u ++ t).length := nodup_len hn'.2 fun z hz => by
      have h2 := List.mem_append.mp (hs z (List.mem_cons_of_mem _ hz))
      rcases h2 with h2 | h2
      · exact List.mem_append_left _ h2
      rcases List.mem_cons.mp h2 with e | h2
      · rw [e] at hz
        exact absurd hz hn'.1
      · exact List.mem_append_right _ h2
    rw [List.length_append] at h1
    rw [List.length_append, List.length_cons, List.length_cons]
    omega
section
variable {X : Cx}
/-- len of a set of ints and texts -/
def rLenK (P : Program) (w : World) : List V → Hp → VK → Prop := fun vs H Q => ∃ (a : Addr) (L : List L2.Key), vs = [.ref a] ∧ H a = some (Yk.SetKO P w a L) ∧ Q (.int (L.length : Nat)) H
theorem cr_lenK : CallR X (.builtin "len") (rLenK X.prog X.w) := by
  intro pins s σ H vs us Q I r h
  obtain ⟨a, L, rfl, ha, q⟩ := h
  rw [Vals.ref1 r]
  obtain ⟨o, es, ep, t, ho, hex, hd, _, eL, _, hb, hf, _⟩ := Yk.setKO_get I ha
  have len : L.length = es.size := by
    rw [eL, List.length_map, Array.length_toList]
  have hb2 : es.size < 2 ^ 63 := Nat.lt_of_lt_of_le hb (by decide)
  exact call_len_set ho hex hd hf (by omega) ⟨.int (L.length : Nat), H, I.tok _, ⟨_, by rw [len]⟩, q⟩
end
/-- a list whose set has as many things has no thing twice -/
theorem len_nodup : ∀ {ks M : List L2.Key}, M.Nodup → (∀ z, z ∈ M ↔ z ∈ ks) → ks.length ≤ M.length → ks.Nodup
  | [], _, _, _, _ => List.nodup_nil
  | x :: r, M, hn, hm, hl => by
    by_cases hx : x ∈ r
    · have h1 := nodup_len (ks := r) hn fun z hz => by
        rcases List.mem_cons.mp ((hm z).mp hz) with e | h
        · rw [e]
          exact hx
        · exact h
      rw [List.length_cons] at hl
      omega
    · have xM : x ∈ M := (hm x).mpr List.mem_cons_self
      obtain ⟨u, v, rfl⟩ := List.append_of_mem xM
      have hp := List.nodup_cons.mp ((List.perm_middle (l₁ := u) (a := x) (l₂ := v)).nodup hn)
      refine List.nodup_cons.mpr ⟨hx, len_nodup (M := u ++ v) hp.2 (fun z => ?_) ?_⟩
      · have h0 := hm z
        rw [(List.perm_middle (l₁ := u) (a := x) (l₂ := v)).mem_iff, List.mem_cons, List.mem_cons] at h0
        constructor
        · intro h
          rcases h0.mp (.inr h) with e | h2
          · exact absurd (e ▸ h) hp.1
          · exact h2
        · intro h
          rcases h0.mpr (.inr h) with e | h2
          · exact absurd (e ▸ h) hx
          · exact h2
      · rw [List.length_append] at hl ⊢
        rw [List.length_cons, List.length_cons] at hl
        omega
theorem nodup_strs {l : List Str} (h : (l.map fun x => (Sum.inr x : L2.Key)).Nodup) : l.Nodup :=
  (List.pairwise_map.mp h).imp fun ne e => ne (congrArg Sum.inr e)
/-- every name that a drawn column can have -/
def allNames : List Str := (["k", "t", "n", "m", "f0", "f1", "f2", "c"] : List Str) ++ lates
theorem few_names {l : List Str} (hn : l.Nodup) (h : ∀ x ∈ l, x ∈ allNames) : l.length ≤ 24 := by
  have h1 := nodup_len (M := l.map fun x => (Sum.inr x : L2.Key)) (ks := allNames.map fun x => (Sum.inr x : L2.Key)) (List.pairwise_map.mpr (hn.imp fun ne e => ne (Sum.inr.inj e))) fun z hz => by
    obtain ⟨x, hx, rfl⟩ := List.mem_map.mp hz
    exact List.mem_map.mpr ⟨x, h x hx, rfl⟩
  rw [List.length_map, List.length_map] at h1
  exact h1
end Kj

namespace Kj
open PySem PySem.Spec PyProof.Rows L2 Kx
abbrev s_law_fold : Stmt := topS 65
/-- a fold that the law draws: where its detail stands, where its pair stands, its word, what it tells, its expression, that one's kind, its name -/
structure FCol where
  det : Addr
  col : Addr
  op : Str
  told : V
  ex : Option Ex
  kind : Bool
  name : Str
def folds6 : List Str := ["count", "sum", "least", "greatest", "mean", "unlike"]
def lateK (op : Str) (k : Bool) : Bool := if op ∈ (["least", "greatest"] : List Str) then k else true
def FTold (H : Hp) (kf : Str → Option Bool) (op : Str) (told : V) (k : Bool) : Option Ex → Prop
  | none => op = "count" ∧ told = .non ∧ k = true
  | some e => op ≠ "count" ∧ ExAt H told e ∧ Kind kf e k ∧ e.dep ≤ 3 ∧ (op ∉ (["least", "unlike", "greatest"] : List Str) → k = true)
theorem FTold.keep {H H' : Hp} {kf : Str → Option Bool} {op : Str} {told : V} {k : Bool} {oe : Option Ex} (t : FTold H kf op told k oe) (h : ∀ (a : Addr) (xs : List V), H a = some (.tup xs) → H' a = some (.tup xs)) : FTold H' kf op told k oe := by
  cases oe with
  | none => exact t
  | some e => exact ⟨t.1, t.2.1.keep h, t.2.2⟩
def fnames : List Str := ["f0", "f1", "f2", "c"]
structure FColAt (H : Hp) (kf : Str → Option Bool) (m : FCol) : Prop where
  at_det : H m.det = some (.tup [.str m.op, m.told, .str m.name])
  at_col : H m.col = some (.tup [.str m.name, .str (kW (lateK m.op m.kind))])
  told : FTold H kf m.op m.told m.kind m.ex
  op : m.op ∈ folds6
  nm : m.name ∈ fnames
theorem FColAt.keep {H H' : Hp} {kf : Str → Option Bool} {m : FCol} (M : FColAt H kf m) (h : ∀ (a : Addr) (xs : List V), H a = some (.tup xs) → H' a = some (.tup xs)) : FColAt H' kf m :=
  ⟨h _ _ M.at_det, h _ _ M.at_col, M.told.keep h, M.op, M.nm⟩
structure FSt (H0 H : Hp) (kf : Str → Option Bool) (d s p1 p2 : Addr) (ks : List Col) (ns : List Int) (tl : List V) (fs : List FCol) : Prop where
  dr : ∃ n, DrawAt H d s ns tl n
  b : But d H0 H
  f1 : H0 p1 = none
  f2 : H0 p2 = none
  fs' : ∃ o, H0 s = some o
  ne : p1 ≠ p2
  n1 : p1 ≠ d
  n2 : p2 ≠ d
  e1 : H p1 = some (.lst (fs.map fun m => .ref m.det))
  e2 : H p2 = some (.lst ((ks.map fun c => .ref c.1) ++ fs.map fun m => .ref m.col))
  each : ∀ m ∈ fs, FColAt H kf m
theorem FSt.step {H0 H H' : Hp} {kf : Str → Option Bool} {d s p1 p2 : Addr} {ks : List Col} {ns : List Int} {tl : List V} {fs : List FCol} {n : Int} (S : FSt H0 H kf d s p1 p2 ks ns tl fs) (b : But d H H') (D : DrawAt H' d s ns tl n) : FSt H0 H' kf d s p1 p2 ks ns tl fs := by
  obtain ⟨n0, D0⟩ := S.dr
  exact ⟨⟨n, D⟩, S.b.trans b, S.f1, S.f2, S.fs', S.ne, S.n1, S.n2, b _ _ S.n1 S.e1, b _ _ S.n2 S.e2, fun m hm => (S.each m hm).keep (b.tup D0.at_d)⟩
theorem FSt.new {H0 H : Hp} {kf : Str → Option Bool} {d s p1 p2 p : Addr} {ks : List Col} {ns : List Int} {tl : List V} {fs : List FCol} {o : HO} (S : FSt H0 H kf d s p1 p2 ks ns tl fs) (h : H p = none) : FSt H0 (upd H p o) kf d s p1 p2 ks ns tl fs := by
  obtain ⟨n0, D0⟩ := S.dr
  exact S.step (same_but (same_upd h)) (D0.keep (same_upd h))
theorem FSt.add {H0 H : Hp} {kf : Str → Option Bool} {d s p1 p2 : Addr} {ks : List Col} {ns : List Int} {tl : List V} {fs : List FCol} (S : FSt H0 H kf d s p1 p2 ks ns tl fs) {m : FCol} (M : FColAt H kf m) :
    FSt H0 (upd (upd H p1 (.lst ((fs.map fun m => .ref m.det) ++ [.ref m.det]))) p2 (.lst (((ks.map fun c => .ref c.1) ++ fs.map fun m => .ref m.col) ++ [.ref m.col]))) kf d s p1 p2 ks ns tl (fs ++ [m]) := by
  obtain ⟨n0, D0⟩ := S.dr
  have kp : ∀ {a : Addr} {o : HO}, a ≠ p1 → a ≠ p2 → H a = some o → upd (upd H p1 (.lst ((fs.map fun m => .ref m.det) ++ [.ref m.det]))) p2 (.lst (((ks.map fun c => .ref c.1) ++ fs.map fun m => .ref m.col) ++ [.ref m.col])) a = some o := fun h1 h2 e => by
    rw [upd_ne h2, upd_ne h1]
    exact e
  have kt : ∀ (a : Addr) (xs : List V), H a = some (.tup xs) → upd (upd H p1 (.lst ((fs.map fun m => .ref m.det) ++ [.ref m.det]))) p2 (.lst (((ks.map fun c => .ref c.1) ++ fs.map fun m => .ref m.col) ++ [.ref m.col])) a = some (.tup xs) := fun a xs e =>
    kp (fun q => by rw [q, S.e1] at e; cases e) (fun q => by rw [q, S.e2] at e; cases e) e
  obtain ⟨os, es⟩ := S.fs'
  have ks1 : s ≠ p1 := ne_of_none es S.f1
  have ks2 : s ≠ p2 := ne_of_none es S.f2
  refine ⟨⟨n0, kp S.n1.symm S.n2.symm D0.at_d, kp ks1 ks2 D0.at_s, D0.n0⟩, fun c o hc e => kp (ne_of_none e S.f1) (ne_of_none e S.f2) (S.b c o hc e), S.f1, S.f2, S.fs', S.ne, S.n1, S.n2, ?_, ?_, fun x hx => ?_⟩
  · rw [List.map_append, upd_ne S.ne]
    exact upd_same
  · rw [List.map_append, ← List.append_assoc]
    exact upd_same
  · rcases List.mem_append.mp hx with hx | hx
    · exact (S.each x hx).keep kt
    · rw [List.mem_singleton.mp hx]
      exact M.keep kt
theorem cut_2 (xs : List V) : cutV xs none (some 2) = xs.take 2 := by
  unfold cutV
  rw [HT.sIx_none, show (some (2 : Int)) = some ((2 : Nat) : Int) from rfl, HT.sIx_nat, List.drop_zero]
  match xs with
  | [] => rfl
  | [x] => rfl
  | x :: y :: r =>
    rw [List.length_cons, List.length_cons, show min 2 (r.length + 1 + 1) - 0 = 2 by omega]
theorem cut_two (ks : List Col) : ∃ ys : List Col, cutV (ks.map fun c => V.ref c.1) none (some 2) = (ys.map fun c => V.ref c.1) ∧ (∀ c ∈ ys, c ∈ ks) ∧ ys.length ≤ 2 := by
  have e : cutV (ks.map fun c => V.ref c.1) none (some 2) = (ks.take 2).map fun c => V.ref c.1 := by
    rw [List.map_take]
    exact cut_2 _
  exact ⟨_, e, fun c hc => List.mem_of_mem_take hc, by rw [List.length_take]; omega⟩
theorem f_name {i : Nat} (h : i < 3) : ("f" : Str) ++ Str.ofString (toString ((0 : Int) + (i : Nat))) ∈ fnames ∧ ("f" : Str).length + (Str.ofString (toString ((0 : Int) + (i : Nat)))).length ≤ sizeLine := by
  match i, h with
  | 0, _ => decide +kernel
  | 1, _ => decide +kernel
  | 2, _ => decide +kernel
theorem in_strs {z : Str} {l : List Str} {A B : Prop} (h1 : z ∈ l → A) (h2 : z ∉ l → B) : if (if false = true then !inV (.str z) (l.map V.str) else inV (.str z) (l.map V.str)) = true then A else B := by
  rw [if_neg Bool.false_ne_true, inV_str]
  by_cases h : z ∈ l
  · rw [decide_eq_true h]
    exact iteT (h1 h)
  · rw [decide_eq_false h]
    exact iteF (h2 h)
section
variable {P : Program} {w : World} {K : PySem.W.Frag} {mg : Str → Option Value} {base : Heap}
/-! ### _law_fold -/
abbrev N_law_fold : List Str := ["draw", "columns", "keys", "pair", "folds", "found", "number", "kind", "told", "late", "name", "names"]
def spFold : Sp := fun vs H Q _ => ∃ (d s cols : Addr) (cl : List Col) (kf : Str → Option Bool) (ns : List Int) (tl : List V) (n : Int), vs = [.ref d, .ref cols] ∧ DrawAt H d s ns tl n ∧ ColsAt H cols cl ∧ (∀ c ∈ cl, kf c.2.1 = some c.2.2) ∧ cl ≠ [] ∧
  ∀ (r t kt ft f : Addr) (ks : List Col) (fs : List FCol) (n' : Int) (H' : Hp), H' r = some (.tup [.ref t, .ref f]) → H' t = some (.tup [.ref kt, .ref ft]) → H' kt = some (.tup (ks.map fun c => .str c.2.1)) → H' ft = some (.tup (fs.map fun m => .ref m.det)) → H' f = some (.lst ((ks.map fun c => .ref c.1) ++ fs.map fun m => .ref m.col)) →
    (∀ c ∈ ks, c ∈ cl) → (∀ m ∈ fs, FColAt H' kf m) → ((ks.map fun c => c.2.1) ++ fs.map FCol.name).Nodup → fs ≠ [] → fs.length ≤ 3 → But d H H' → DrawAt H' d s ns tl n' → Q (.ref r) H'
theorem sc_fold : FnScope N_law_fold ["draw", "columns"] (defScope s_law_fold) := ⟨rfl, rfl, rfl, by decide +kernel, rfl, by decide +kernel, by decide +kernel⟩
theorem ok_fold {f : Addr} {fd : FuncData} (F : Fun K "_law_fold" "_law_fold" s_law_fold f fd) (m_range : mg "range" = none) (m_str : mg "str" = none) (m_tuple : mg "tuple" = none) (m_list : mg "list" = none) (m_len : mg "len" = none) (m_set : mg "set" = none) (G_law_next : Ready P w K mg base 3 "_law_next" ["draw", "bound"] spNext) (G_law_pick : Ready P w K mg base 4 "_law_pick" ["draw", "things"] (spPick K))
    (G_law_int : Ready P w K mg base 6 "_law_int" ["draw", "columns", "deep"] (spInt 2)) : FnOk P w K mg base CX0 8 f fd ["draw", "columns"] spFold := by
  refine F.ok sc_fold (fun vs H Q E h => ?_) (fun cdv A outer s0 H vs Q E hr h => ?_)
  · obtain ⟨d, s, cols, cl, kf, ns, tl, n, rfl, _⟩ := h
    rfl
  obtain ⟨d, s, cols, cl, kf, ns, tl, n, rfl, D, C, hk, hne, q⟩ := h
  have nd := sc_fold.nd
  have hu64 : _ + 64 < cLine := hr.units
  have hr6 : Room 6 _ := hr.mono (by omega)
  have hr4 : Room 4 _ := hr.mono (by omega)
  have hr3 : Room 3 _ := hr.mono (by omega)
  refine ⟨_, pss_cons (ps_set (i := 2) nd rfl (.inl rfl) (pe_slice sl_list (pe_lc (own := [("pair", 3)]) (g := gName 3) (tt := _) rfl nd (pi_list (pv 1)) (blkOk_by (N := N_law_fold) (sc := defScope s_law_fold) (by decide +kernel)) (fun _ _ _ _ _ => pg_name (i := 3) nd rfl (Or.inl rfl)) (fun _ _ _ _ _ => pts_one (pt_cmpR op_eq (pe_fn (G_law_next) hr3 (pa_cons (pv 0) (pa_cons pe_int pa_nil))) pe_int (nomark _))) (fun _ _ _ _ _ => (pv 3))) po_none (po_some pe_int)))
      (pss_cons (ps_par (i := 4) (j := 5) rfl nd rfl rfl (by decide) rfl rfl (pa_cons (pe_lst pa_nil) (pa_cons (pe_callTy call_list_of (by rfl) m_list PyProof.Rows.boot_list (pa_cons (pv 2) pa_nil)) pa_nil)) rfl)
      (pss_cons (ps_for PassesOwn.never rfl (pi_range1 rfl m_range (pa_cons (pe_op op_add pe_int (pe_fn (G_law_next) hr3 (pa_cons (pv 0) (pa_cons pe_int pa_nil)))) pa_nil)) (pg_name (i := 6) nd rfl (.inl rfl)) (pss_cons (ps_set (i := 7) nd rfl (.inl rfl) (pe_fn (G_law_pick) hr4 (pa_cons (pv 0) (pa_cons (pe_tup (pa_cons pe_str (pa_cons pe_str (pa_cons pe_str (pa_cons pe_str (pa_cons pe_str (pa_cons pe_str pa_nil))))))) pa_nil))))
      (C8.pss_cut (ps_asg (pe_ifExp (pt_cmpR op_eq (pv 7) pe_str (nomark _)) (pe_tup (pa_cons pe_non (pa_cons pe_str pa_nil))) (pe_tup (pa_cons (pe_fn (G_law_int) hr6 (pa_cons (pv 0) (pa_cons (pv 1) (pa_cons pe_int pa_nil)))) (pa_cons pe_str pa_nil)))) (pg_tup rfl (pgs_cons (pg_name (i := 8) nd rfl (.inl rfl)) (pgs_cons (pg_name (i := 9) nd rfl (.inl rfl)) pgs_nil))))
      (C8.pss_cut (ps_if (PW.pt (pw_and (pt_cmpR op_in_seq (pv 7) (pe_tup (pa_cons pe_str (pa_cons pe_str (pa_cons pe_str pa_nil)))) (by with_unfolding_all rfl)) (pw_and1 (pt_cmpR op_eq (pe_fn (G_law_next) hr3 (pa_cons (pv 0) (pa_cons pe_int pa_nil))) pe_int (nomark _))))) (pss_cons (ps_asg (pe_fn (G_law_pick) hr4 (pa_cons (pv 0) (pa_cons (pv 1) pa_nil))) (pg_tup rfl (pgs_cons (pg_name (i := 10) nd rfl (.inl rfl)) (pgs_cons (pg_name (i := 9) nd rfl (.inl rfl)) pgs_nil))))
      (pss_one (ps_set (i := 8) nd rfl (.inl rfl) (pe_tup (pa_cons pe_str (pa_cons (pv 10) pa_nil)))))) (pss_nil))
      (pss_cons (ps_expr (pe_bm PySem.F.plainAttrs_list PySem.F.slot_list_append PySem.F.type_list_append mt_append (pv 4) (pa_cons (pe_tup (pa_cons (pv 7) (pa_cons (pv 8) (pa_cons (pe_op op_add_str pe_str (pe_callTy call_str_int (by rfl) m_str PyProof.Rows.boot_str (pa_cons (pv 6) pa_nil))) pa_nil)))) pa_nil)))
      (pss_one (ps_expr (pe_bm PySem.F.plainAttrs_list PySem.F.slot_list_append PySem.F.type_list_append mt_append (pv 5) (pa_cons (pe_tup (pa_cons (pe_op op_add_str pe_str (pe_callTy call_str_int (by rfl) m_str PyProof.Rows.boot_str (pa_cons (pv 6) pa_nil))) (pa_cons (pe_ifExp (pt_cmpR op_in_seq (pv 7) (pe_tup (pa_cons pe_str (pa_cons pe_str pa_nil))) (by with_unfolding_all rfl)) (pv 9) pe_str) pa_nil))) pa_nil)))))))))
      (pss_cons (ps_setLc (i := 11) (own := [("name", 10), ("kind", 7)]) (g := (gTup K 2 (gCons (gName 10) (gCons (gName 7) gNil)))) (tt := tYes) rfl nd rfl rfl (sw_true rfl rfl rfl (by decide +kernel)) (pi_list (pv 5)) (blkOk_by (N := N_law_fold) (sc := defScope s_law_fold) (by decide +kernel)) (fun _ _ _ _ _ => pg_tup rfl (pgs_cons (pg_name (i := 10) nd rfl (.inl rfl)) (pgs_cons (pg_name (i := 7) nd rfl (.inl rfl)) pgs_nil))) (fun _ _ _ _ _ => pts_nil) (fun _ _ _ _ _ => (pv 10)))
      (pss_cons (ps_if (pt_cmpR op_lt (pe_callB cr_lenK (by rfl) m_len PySem.boot_len (pa_cons (pe_callTy (Yk.cr_setK rfl) (by rfl) m_set PyProof.Rows.boot_set (pa_cons (pv 11) pa_nil)) pa_nil)) (pe_callB call_len_seq (by rfl) m_len PySem.boot_len (pa_cons (pv 11) pa_nil)) (nomark _)) (pss_one (ps_ret (pe_tup (pa_cons (pe_tup (pa_cons (pe_tup pa_nil) (pa_cons (pe_tup (pa_cons (pe_tup (pa_cons pe_str (pa_cons pe_non (pa_cons pe_str pa_nil)))) pa_nil)) pa_nil))) (pa_cons (pe_lst (pa_cons (pe_tup (pa_cons pe_str (pa_cons pe_str pa_nil))) pa_nil)) pa_nil))))) (pss_nil))
      (pss_one (ps_ret (pe_tup (pa_cons (pe_tup (pa_cons (pe_callTy call_tuple_of (by rfl) m_tuple PyProof.Rows.boot_tuple (pa_cons (pe_lc (own := [("name", 10), ("kind", 7)]) (g := (gTup K 2 (gCons (gName 10) (gCons (gName 7) gNil)))) (tt := tYes) rfl nd (pi_list (pv 2)) (blkOk_by (N := N_law_fold) (sc := defScope s_law_fold) (by decide +kernel)) (fun _ _ _ _ _ => pg_tup rfl (pgs_cons (pg_name (i := 10) nd rfl (.inl rfl)) (pgs_cons (pg_name (i := 7) nd rfl (.inl rfl)) pgs_nil))) (fun _ _ _ _ _ => pts_nil) (fun _ _ _ _ _ => (pv 10))) pa_nil)) (pa_cons (pe_callTy call_tuple_of (by rfl) m_tuple PyProof.Rows.boot_tuple (pa_cons (pv 4) pa_nil)) pa_nil))) (pa_cons (pv 5) pa_nil))))))))), ?_⟩
  have z2 : 2 ≤ sizeLine := by decide
  have z3 : 3 ≤ sizeLine := by decide
  have z6 : 6 ≤ sizeLine := by decide
  have cne := C.ne D
  have clne : (cl.map fun c => V.ref c.1) ≠ [] := fun e => hne (List.map_eq_nil_iff.mp e)
  -- keys
  refine ⟨_, rfl, cols, rfl, ⟨_, SqL.of C.all⟩, fun D1 hD1 => ?_⟩
  have n1 : D1 ≠ d := (ne_of_none D.at_d hD1).symm
  refine lc_list (K := K) (a := cols) (xs := cl.map fun c => .ref c.1) (fun i H' => ∃ n' ks, DrawAt H' d s ns tl n' ∧ But d H H' ∧ H' D1 = some (.lst (ks.map fun c => .ref c.1)) ∧ (∀ c ∈ ks, c ∈ cl) ∧ ks.length ≤ i) ⟨n, [], D.keep (same_upd hD1), same_but (same_upd hD1), upd_same, fun c hc => absurd hc List.not_mem_nil, Nat.le_refl _⟩ (fun i H' _ h => ?_) ?_ ?_
  · obtain ⟨n', ks, D', b', _⟩ := h
    exact SqL.of (C.but D b').all
  · rintro i x H' hx ⟨n', ks, D', b', e', sub, le⟩
    rw [List.getElem?_map] at hx
    obtain ⟨c, hc, rfl⟩ := Option.map_eq_some_iff.mp hx
    have hi : i < cl.length := (List.getElem?_eq_some_iff.mp hc).1
    refine ⟨rfl, _, rfl, d, s, ns, tl, _, 2, rfl, D', by decide, fun r H3 r0 r1 b3 D3 => ⟨rfl, _, rfl, ite2 (fun cc => ?_) (fun cc => ?_)⟩⟩
    · have e3 := b3 _ _ n1 e'
      refine ⟨_, rfl, _, e3, ?_, n' + 1, ks ++ [c], ?_, ?_, ?_, ?_, ?_⟩
      · rw [List.length_map]
        have := C.few
        exact Nat.lt_of_le_of_lt (show ks.length ≤ 1000 by omega) (by decide)
      · exact ⟨by rw [upd_ne n1.symm]; exact D3.at_d, by rw [upd_ne (ne_of_none D.at_s hD1)]; exact D3.at_s, D3.n0⟩
      · exact fun b o hb e => by
          rw [upd_ne (ne_of_none e hD1)]
          exact (b'.trans b3) _ _ hb e
      · rw [upd_same, List.map_append]
        rfl
      · intro c' hc'
        rcases List.mem_append.mp hc' with hc' | hc'
        · exact sub _ hc'
        · rw [List.mem_singleton.mp hc']
          exact List.mem_of_getElem? hc
      · rw [List.length_append]
        exact Nat.succ_le_succ le
    · exact ⟨n' + 1, ks, D3, b'.trans b3, b3 _ _ n1 e', sub, Nat.le_succ_of_le le⟩
  rintro H1 ⟨nk, ks0, D1', b1, e1, sub0, le0⟩
  -- the first two
  refine ⟨_, rfl, D1, _, rfl, SqL.of e1, fun pk hpk => ?_⟩
  obtain ⟨ks, eks, subk, lek⟩ := cut_two ks0
  have hks : ks.length ≤ 2 := lek
  rw [eks]
  have sub : ∀ c ∈ ks, c ∈ cl := fun c hc => sub0 c (subk c hc)
  have b2 : But d H (upd H1 pk (.lst (ks.map fun c => .ref c.1))) := b1.trans (same_but (same_upd hpk))
  have D2 := D1'.keep (same_upd (o := .lst (ks.map fun c => .ref c.1)) hpk)
  have npk : pk ≠ d := (ne_of_none D1'.at_d hpk).symm
  have epk : upd H1 pk (.lst (ks.map fun c => .ref c.1)) pk = some (.lst (ks.map fun c => .ref c.1)) := upd_same
  generalize upd H1 pk (.lst (ks.map fun c => .ref c.1)) = H2 at b2 D2 epk ⊢
  clear D1' hpk e1 n1 b1 eks
  -- folds, found
  refine ⟨Nat.zero_le _, fun p1 hp1 => ?_⟩
  have s1 := same_upd (o := .lst []) hp1
  refine ⟨_, rfl, pk, _, rfl, .inl (SqL.of (s1 _ _ epk)), fun p2 hp2 => ⟨_, _, rfl, ?_⟩⟩
  have hp2' : H2 p2 = none := by
    by_cases e : p2 = p1
    · rw [e, upd_same] at hp2
      cases hp2
    · rw [upd_ne e] at hp2
      exact hp2
  have S0 : FSt H2 (upd (upd H2 p1 (.lst [])) p2 (.lst (ks.map fun c => .ref c.1))) kf d s p1 p2 ks ns tl [] := by
    have s2 := s1.trans (same_upd (o := .lst (ks.map fun c => .ref c.1)) hp2)
    exact ⟨⟨_, D2.keep s2⟩, same_but s2, hp1, hp2', ⟨_, D2.at_s⟩, ne_of_none upd_same hp2, (ne_of_none D2.at_d hp1).symm, (ne_of_none D2.at_d hp2').symm, same_upd hp2 _ _ upd_same, by rw [upd_same]; simp, fun m hm => (List.not_mem_nil hm).elim⟩
  obtain ⟨n0, D0⟩ := S0.dr
  refine ⟨_, rfl, d, s, ns, tl, _, _, rfl, D0, (by show (0 : Int) < 3; decide), fun r H1 r0 r1 b1 D1 => ?_⟩
  have S1 := S0.step b1 D1
  clear S0 D0 b1 D1 hp2
  refine ⟨_, _, rfl, rfl, _, rfl, by omega, by omega, ?_⟩
  have bC : ∀ {H' : Hp} {fs : List FCol}, FSt H2 H' kf d s p1 p2 ks ns tl fs → ColsAt H' cols cl := fun S => C.but D (b2.trans S.b)
  have e3 : ∀ {H' : Hp} {fs : List FCol}, FSt H2 H' kf d s p1 p2 ks ns tl fs → H' pk = some (.lst (ks.map fun c => .ref c.1)) := fun S => S.b _ _ npk epk
  refine for_range (fun i σ H' => ∃ y3 y6 y7 y8 y9 y10 y11 fs, σ = [some (.ref d), some (.ref cols), some (.ref pk), y3, some (.ref p1), some (.ref p2), y6, y7, y8, y9, y10, y11] ∧ FSt H2 H' kf d s p1 p2 ks ns tl fs ∧ fs.length ≤ i ∧ (0 < i → fs ≠ [])) ⟨none, none, none, none, none, none, none, [], rfl, S1, Nat.le_refl _, fun h => absurd h (Nat.lt_irrefl _)⟩ ?_ ?_
  · rintro i σ H3 hi ⟨y3, y6, y7, y8, y9, y10, y11, fs, rfl, S3, hl, hz⟩
    obtain ⟨n3, D3⟩ := S3.dr
    refine ⟨_, rfl, z6, fun q1 hq1 => ?_⟩
    have S4 := S3.new (o := .tup (folds6.map V.str)) hq1
    obtain ⟨n4, D4⟩ := S4.dr
    refine ⟨d, s, q1, ns, tl, _, folds6.map V.str, rfl, D4, (ne_of_none D3.at_d hq1).symm, .inr (SqT.of upd_same), (by intro z; cases z), fun v1 H5 hv1 b5 D5 => ?_⟩
    have S5 := S4.step b5 D5
    obtain ⟨op, hop, rfl⟩ := mem_strs (l := folds6) hv1
    clear S4 D4 b5 S3 D3 hq1 hv1
    refine ⟨fun σ H' => ∃ y10 tv oe k, σ = [some (.ref d), some (.ref cols), some (.ref pk), y3, some (.ref p1), some (.ref p2), some (.int ((0 : Int) + (i : Nat))), some (.str op), some tv, some (.str (kW k)), y10, y11] ∧ FSt H2 H' kf d s p1 p2 ks ns tl fs ∧ FTold H' kf op tv k oe, ?_, ?_⟩
    · refine ⟨_, rfl, rfl, _, rfl, ite2 (fun c => ?_) (fun c => ?_)⟩
      · refine ⟨z2, fun t ht => ⟨t, _, rfl, SqT.of upd_same, rfl, _, _, rfl, _, _, rfl, rfl, ?_⟩⟩
        exact ⟨_, .non, none, true, rfl, S5.new ht, by have := of_decide_eq_true c; injection this, rfl, rfl⟩
      · obtain ⟨n5, D5'⟩ := S5.dr
        refine ⟨_, rfl, _, rfl, d, s, cols, cl, kf, ns, tl, _, 1, rfl, D5', bC S5, hk, by decide, rfl, fun v e n6 H6 ke de xe b6 D6 => ?_⟩
        have S6 := S5.step b6 D6
        refine ⟨z2, fun t ht => ⟨t, _, rfl, SqT.of upd_same, rfl, _, _, rfl, _, _, rfl, rfl, ?_⟩⟩
        exact ⟨_, v, some e, true, rfl, S6.new ht, fun e' => c (decide_eq_true (by rw [e'])), xe.keep fun a xs z => same_upd ht _ _ z, ke, de, fun _ => rfl⟩
    clear S5 D5 y10
    rintro σ H6 ⟨y10, tv, oe, k, rfl, S6, T6⟩
    refine ⟨fun σ H' => ∃ y10 tv oe k, σ = [some (.ref d), some (.ref cols), some (.ref pk), y3, some (.ref p1), some (.ref p2), some (.int ((0 : Int) + (i : Nat))), some (.str op), some tv, some (.str (kW k)), y10, y11] ∧ FSt H2 H' kf d s p1 p2 ks ns tl fs ∧ FTold H' kf op tv k oe, ?_, ?_⟩
    · refine ⟨_, rfl, z3, fun q2 hq2 => ?_⟩
      have S7 := S6.new (o := .tup ((["least", "unlike", "greatest"] : List Str).map V.str)) hq2
      have T7 := T6.keep (H' := upd H6 q2 (.tup ((["least", "unlike", "greatest"] : List Str).map V.str))) fun a xs z => same_upd hq2 _ _ z
      refine ⟨q2, (["least", "unlike", "greatest"] : List Str).map V.str, rfl, .inr (SqT.of upd_same), rfl, flat_strs _, _, rfl, in_strs (fun hin => ?_) (fun hin => iteF ?_)⟩
      · obtain ⟨n7, D7⟩ := S7.dr
        refine ⟨_, rfl, d, s, ns, tl, _, _, rfl, D7, (by show (0 : Int) < 2; decide), fun r2 H8 _ _ b8 D8 => ?_⟩
        have S8 := S7.step b8 D8
        refine ⟨rfl, _, rfl, ite2 (fun c => ?_) (fun c => ?_)⟩
        · refine ⟨_, rfl, _, rfl, d, s, cols, ns, tl, _, _, rfl, D8, cne, .inl (SqL.of (bC S8).all), clne, fun v H9 hv b9 D9 => ?_⟩
          have S9 := S8.step b9 D9
          obtain ⟨⟨a, x, kb⟩, hc, rfl⟩ := List.mem_map.mp hv
          refine ⟨a, _, rfl, SqT.of ((bC S9).each _ hc), rfl, _, _, rfl, _, _, rfl, rfl, ?_⟩
          refine ⟨_, rfl, z2, fun t ht => ?_⟩
          exact ⟨_, .ref t, some (.col x), kb, rfl, S9.new ht, fun e => by rw [e] at hin; revert hin; decide +kernel, ⟨t, rfl, upd_same⟩, .col (hk _ hc), by show 1 ≤ 3; omega, fun hno => absurd hin hno⟩
        · exact ⟨_, tv, oe, k, rfl, S8, T7.keep (b8.tup D7.at_d)⟩
      · exact ⟨_, tv, oe, k, rfl, S7, T7⟩
    clear S6 T6 y10 tv oe k
    rintro σ H7 ⟨y10, tv, oe, k, rfl, S7, T7⟩
    obtain ⟨fn, fl⟩ := f_name (i := i) (by omega)
    have m3 : ∀ {g : FCol → V}, (fs.map g).length < sizeLine := by
      intro g
      rw [List.length_map]
      exact Nat.lt_of_le_of_lt (show _ ≤ 3 by omega) (by decide)
    have m9 : ((ks.map fun c => V.ref c.1) ++ fs.map fun m => V.ref m.col).length < sizeLine := by
      rw [List.length_append, List.length_map, List.length_map]
      exact Nat.lt_of_le_of_lt (show _ ≤ 1003 by omega) (by decide)
    refine ⟨_, rfl, .inl ⟨rfl, _, SqL.of S7.e1⟩, _, rfl, _, rfl, _, rfl, _, rfl, log_num (by omega), "f", _, rfl, rfl, fl, ?_⟩
    refine ⟨z3, fun t1 ht1 => ?_⟩
    have S8 := S7.new (o := .tup [.str op, tv, .str ("f" ++ Str.ofString (toString ((0 : Int) + (i : Nat))))]) ht1
    refine ⟨p1, _, _, rfl, rfl, S8.e1, m3, ?_⟩
    refine ⟨_, rfl, .inl ⟨rfl, _, SqL.of (by rw [upd_ne S8.ne.symm]; exact S8.e2)⟩, _, rfl, _, rfl, log_num (by omega), "f", _, rfl, rfl, fl, ?_⟩
    generalize ("f" : Str) ++ Str.ofString (toString ((0 : Int) + (i : Nat))) = z at fn S8 ⊢
    have fin : ∀ {H' : Hp} {t2 : Addr}, FSt H2 H' kf d s p1 p2 ks ns tl fs → FTold H' kf op tv k oe → H' t1 = some (.tup [.str op, tv, .str z]) → H' t2 = some (.tup [.str z, .str (kW (lateK op k))]) →
        FSt H2 (upd (upd H' p1 (.lst ((fs.map fun m => .ref m.det) ++ [.ref t1]))) p2 (.lst (((ks.map fun c => .ref c.1) ++ fs.map fun m => .ref m.col) ++ [.ref t2]))) kf d s p1 p2 ks ns tl (fs ++ [⟨t1, t2, op, tv, oe, k, z⟩]) := fun {H' t2} S T e1 e2 => S.add (m := ⟨t1, t2, op, tv, oe, k, z⟩) ⟨e1, e2, T, hop, fn⟩
    have T8 := T7.keep (H' := upd H7 t1 (.tup [.str op, tv, .str z])) fun a xs e => same_upd ht1 _ _ e
    have et1 : upd H7 t1 (.tup [.str op, tv, .str z]) t1 = some (.tup [.str op, tv, .str z]) := upd_same
    generalize upd H7 t1 (.tup [.str op, tv, .str z]) = H8 at S8 T8 et1 ⊢
    clear S7 T7 ht1
    refine ⟨_, rfl, z2, fun q3 hq3 => ?_⟩
    have nq3 : p1 ≠ q3 := ne_of_none upd_same hq3
    have hq3' : H8 q3 = none := by
      rw [upd_ne nq3.symm] at hq3
      exact hq3
    rw [upd_comm nq3]
    have S9 := S8.new (o := .tup [.str "least", .str "greatest"]) hq3'
    have T9 := T8.keep (H' := upd H8 q3 (.tup [.str "least", .str "greatest"])) fun a xs e => same_upd hq3' _ _ e
    have et9 := same_upd (o := .tup [.str "least", .str "greatest"]) hq3' _ _ et1
    have eq9 : upd (upd H8 q3 (.tup [.str "least", .str "greatest"])) p1 (.lst ((fs.map fun m => .ref m.det) ++ [.ref t1])) q3 = some (.tup [.str "least", .str "greatest"]) := by
      rw [upd_ne nq3.symm]
      exact upd_same
    refine ⟨q3, (["least", "greatest"] : List Str).map V.str, rfl, .inr (SqT.of eq9), rfl, flat_strs _, _, rfl, ?_⟩
    generalize upd H8 q3 (.tup [.str "least", .str "greatest"]) = H9 at S9 T9 et9 eq9 ⊢
    clear S8 T8 et1 hq3' hq3 nq3 eq9
    refine in_strs (fun hin => ⟨_, rfl, z2, fun t2 ht2 => ?_⟩) (fun hin => ⟨z2, fun t2 ht2 => ?_⟩)
    · have nt2 : p1 ≠ t2 := ne_of_none upd_same ht2
      have ht2' : H9 t2 = none := by
        rw [upd_ne nt2.symm] at ht2
        exact ht2
      rw [upd_comm nt2]
      have S10 := S9.new (o := .tup [.str z, .str (kW k)]) ht2'
      refine ⟨p2, _, _, rfl, rfl, by rw [upd_ne S10.ne.symm]; exact S10.e2, m9, ?_⟩
      have lk : lateK op k = k := if_pos hin
      exact ⟨_, _, _, _, _, _, _, _, rfl, fin S10 (T9.keep fun a xs e => same_upd ht2' _ _ e) (same_upd ht2' _ _ et9) (by rw [lk]; exact upd_same), by rw [List.length_append]; show fs.length + 1 ≤ i + 1; omega, fun _ h => by cases fs <;> cases h⟩
    · have nt2 : p1 ≠ t2 := ne_of_none upd_same ht2
      have ht2' : H9 t2 = none := by
        rw [upd_ne nt2.symm] at ht2
        exact ht2
      rw [upd_comm nt2]
      have S10 := S9.new (o := .tup [.str z, .str "int"]) ht2'
      refine ⟨p2, _, _, rfl, rfl, by rw [upd_ne S10.ne.symm]; exact S10.e2, m9, ?_⟩
      have lk : lateK op k = true := if_neg hin
      exact ⟨_, _, _, _, _, _, _, _, rfl, fin S10 (T9.keep fun a xs e => same_upd ht2' _ _ e) (same_upd ht2' _ _ et9) (by rw [lk]; exact upd_same), by rw [List.length_append]; show fs.length + 1 ≤ i + 1; omega, fun _ h => by cases fs <;> cases h⟩
  · rintro σ H3 ⟨y3, y6, y7, y8, y9, y10, y11, fs, rfl, S3, hl, hz⟩
    have hl3 : fs.length ≤ 3 := by omega
    have hfs : fs ≠ [] := hz (by omega)
    -- names
    obtain ⟨prs, eprs, enm⟩ : ∃ prs : List (Addr × Str), prs = (ks.map fun c => (c.1, c.2.1)) ++ fs.map (fun m => (m.col, m.name)) ∧ prs.map (·.2) = (ks.map fun c => c.2.1) ++ fs.map FCol.name := ⟨_, rfl, by rw [List.map_append, List.map_map, List.map_map]; rfl⟩
    have er : (ks.map fun c => V.ref c.1) ++ (fs.map fun m => V.ref m.col) = prs.map fun p => V.ref p.1 := by
      rw [eprs, List.map_append, List.map_map, List.map_map]
      rfl
    have lp : prs.length ≤ 1003 := by
      rw [eprs, List.length_append, List.length_map, List.length_map]
      omega
    have each : ∀ p ∈ prs, ∃ u, H3 p.1 = some (.tup [.str p.2, u]) := fun p hp => by
      rw [eprs] at hp
      rcases List.mem_append.mp hp with hp | hp
      · obtain ⟨c, hc, rfl⟩ := List.mem_map.mp hp
        exact ⟨_, (bC S3).each c (sub c hc)⟩
      · obtain ⟨m, hm, rfl⟩ := List.mem_map.mp hp
        exact ⟨_, (S3.each m hm).at_col⟩
    have e2 := S3.e2
    rw [er] at e2
    refine ⟨_, rfl, p2, rfl, ⟨_, SqL.of e2⟩, fun D4 hD4 => lc_list (K := K) (a := p2) (xs := prs.map fun p => .ref p.1) (fun i H' => Same H3 H' ∧ H' D4 = some (.lst (((prs.map (·.2)).take i).map V.str))) ⟨same_upd hD4, upd_same⟩ (fun i H' _ h => SqL.of (h.1 _ _ e2)) ?_ ?_⟩
    · rintro i x H' hx ⟨sm, e⟩
      rw [List.getElem?_map] at hx
      obtain ⟨p, hp, rfl⟩ := Option.map_eq_some_iff.mp hx
      obtain ⟨u, eu⟩ := each p (List.mem_of_getElem? hp)
      refine ⟨p.1, _, rfl, SqT.of (sm _ _ eu), rfl, _, _, rfl, _, _, rfl, rfl, rfl, _, rfl, _, e, ?_, fun b o' e' => ?_, ?_⟩
      · rw [List.length_map, List.length_take, List.length_map]
        exact Nat.lt_of_le_of_lt (show _ ≤ 1003 by omega) (by decide)
      · rw [upd_ne (ne_of_none e' hD4)]
        exact sm _ _ e'
      · have h1 : (prs.map (·.2)).take (i + 1) = (prs.map (·.2)).take i ++ [p.2] := by
          rw [List.take_add_one, List.getElem?_map, hp]
          rfl
        rw [h1, List.map_append]
        exact upd_same
    rintro H4 ⟨s4, e4⟩
    rw [List.length_map, List.take_of_length_le (by rw [List.length_map]; exact Nat.le_refl _), enm] at e4
    obtain ⟨n3, D3⟩ := S3.dr
    have S4 := S3.step (same_but s4) (D3.keep s4)
    clear each e2 er S3 D3 s4
    have ek : (((ks.map fun c => c.2.1) ++ fs.map FCol.name).map (fun x => (Sum.inr x : L2.Key))).map kV = ((ks.map fun c => c.2.1) ++ fs.map FCol.name).map V.str := by
      rw [List.map_map]
      rfl
    refine ⟨_, rfl, D4, ((ks.map fun c => c.2.1) ++ fs.map FCol.name).map (fun x => (Sum.inr x : L2.Key)), rfl, .inl (SqL.of (by rw [ek]; exact e4)), ?_, fun p M nM mM hp => ?_⟩
    · rw [List.length_map, List.length_append, List.length_map, List.length_map]
      omega
    have S5 := S4.new (o := Yk.SetKO P w p M) hp
    have e5 := same_upd (o := Yk.SetKO P w p M) hp _ _ e4
    have z1 : 1 ≤ sizeLine := by decide
    refine ⟨p, M, rfl, upd_same, _, rfl, D4, _, rfl, .inl (SqL.of e5), _, _, rfl, rfl, _, rfl, ite2 (fun c => ?_) (fun c => ?_)⟩
    · refine ⟨Nat.zero_le _, fun e0 h0 => ⟨z3, fun x hx => ⟨z1, fun y hy => ⟨z2, fun zt hzt => ⟨z2, fun wt hwt => ⟨z1, fun l hl => ⟨z2, fun rr hrr => ?_⟩⟩⟩⟩⟩⟩⟩
      have S12 := ((((((S5.new (o := .tup []) h0).new (o := .tup [.str "count", .non, .str "c"]) hx).new (o := .tup [.ref x]) hy).new (o := .tup [.ref e0, .ref y]) hzt).new (o := .tup [.str "c", .str "int"]) hwt).new (o := .lst [.ref wt]) hl).new (o := .tup [.ref zt, .ref l]) hrr
      obtain ⟨n12, D12⟩ := S12.dr
      have u1 := same_upd (o := .tup [.ref zt, .ref l]) hrr
      have u2 := (same_upd (o := .lst [.ref wt]) hl).trans u1
      have u3 := (same_upd (o := .tup [.str "c", .str "int"]) hwt).trans u2
      have u4 := (same_upd (o := .tup [.ref e0, .ref y]) hzt).trans u3
      have u5 := (same_upd (o := .tup [.ref x]) hy).trans u4
      have u6 := (same_upd (o := .tup [.str "count", .non, .str "c"]) hx).trans u5
      exact q rr zt e0 y l [] [⟨x, wt, "count", .non, none, true, "c"⟩] n12 _ upd_same (u3 _ _ upd_same) (u6 _ _ upd_same) (u4 _ _ upd_same) (u1 _ _ upd_same) (fun c hc => absurd hc List.not_mem_nil)
        (fun m hm => by
          rw [List.mem_singleton.mp hm]
          exact ⟨u5 _ _ upd_same, u2 _ _ upd_same, ⟨rfl, rfl, rfl⟩, (show ("count" : Str) ∈ folds6 by decide +kernel), (show ("c" : Str) ∈ fnames by decide +kernel)⟩) (List.nodup_cons.mpr ⟨List.not_mem_nil, List.nodup_nil⟩) (by intro z; cases z) (show 1 ≤ 3 by decide) (b2.trans S12.b) D12
    · have hnd : ((ks.map fun c => c.2.1) ++ fs.map FCol.name).Nodup := nodup_strs (len_nodup nM mM (by
        have h1 : ¬ ((M.length : Nat) : Int) < (((((ks.map fun c => c.2.1) ++ fs.map FCol.name).map V.str).length : Nat) : Int) := fun z => c (decide_eq_true z)
        rw [List.length_map] at h1 ⊢
        omega))
      have ek5 := e3 S5
      have C5 := bC S5
      obtain ⟨n5, D5⟩ := S5.dr
      refine ⟨_, rfl, pk, rfl, ⟨_, SqL.of ek5⟩, fun D6 hD6 => lc_list (K := K) (a := pk) (xs := ks.map fun c => .ref c.1) (fun i H' => Same (upd H4 p (Yk.SetKO P w p M)) H' ∧ H' D6 = some (.lst (((ks.map fun c => c.2.1).take i).map V.str))) ⟨same_upd hD6, upd_same⟩ (fun i H' _ h => SqL.of (h.1 _ _ ek5)) ?_ ?_⟩
      · rintro i x H' hx ⟨sm, e⟩
        rw [List.getElem?_map] at hx
        obtain ⟨p, hp, rfl⟩ := Option.map_eq_some_iff.mp hx
        have eu := C5.each p (sub p (List.mem_of_getElem? hp))
        refine ⟨p.1, _, rfl, SqT.of (sm _ _ eu), rfl, _, _, rfl, _, _, rfl, rfl, rfl, _, rfl, _, e, ?_, fun b o' e' => ?_, ?_⟩
        · rw [List.length_map, List.length_take, List.length_map]
          exact Nat.lt_of_le_of_lt (show _ ≤ 1003 by omega) (by decide)
        · rw [upd_ne (ne_of_none e' hD6)]
          exact sm _ _ e'
        · have h1 : (ks.map fun c => c.2.1).take (i + 1) = (ks.map fun c => c.2.1).take i ++ [p.2.1] := by
            rw [List.take_add_one, List.getElem?_map, hp]
            rfl
          rw [h1, List.map_append]
          exact upd_same
      rintro H6 ⟨s6, e6⟩
      rw [List.length_map, List.take_of_length_le (by rw [List.length_map]; exact Nat.le_refl _), List.map_map] at e6
      have S6 := S5.step (same_but s6) (D5.keep s6)
      refine ⟨D6, _, rfl, .inl ⟨SqL.of e6, fun kt hkt => ?_⟩⟩
      have S7 := S6.new (o := .tup (ks.map (V.str ∘ fun c => c.2.1))) hkt
      refine ⟨_, rfl, p1, _, rfl, .inl ⟨SqL.of S7.e1, fun ft hft => ?_⟩⟩
      have S8 := S7.new (o := .tup (fs.map fun m => .ref m.det)) hft
      refine ⟨z2, fun t ht => ⟨_, rfl, z2, fun rr hrr => ?_⟩⟩
      have S9 := (S8.new (o := .tup [.ref kt, .ref ft]) ht).new (o := .tup [.ref t, .ref p2]) hrr
      obtain ⟨n9, D9⟩ := S9.dr
      have u1 := same_upd (o := .tup [.ref t, .ref p2]) hrr
      have u2 := (same_upd (o := .tup [.ref kt, .ref ft]) ht).trans u1
      have u3 := (same_upd (o := .tup (fs.map fun m => .ref m.det)) hft).trans u2
      exact q rr t kt ft p2 ks fs n9 _ upd_same (u1 _ _ upd_same) (u3 _ _ upd_same) (u2 _ _ upd_same) S9.e2 sub S9.each hnd hfs hl3 (b2.trans S9.b) D9
end
end Kj

namespace Kj
open PySem PySem.Spec PyProof.Rows L2 Kx
abbrev s_law_join : Stmt := topS 66
abbrev NC : Type := Str × Bool
def colD (c : NC) : PyData := .tuple [.str c.1, .str (kW c.2)]
theorem kW_inj {a b : Bool} (h : kW a = kW b) : a = b := by
  cases a <;> cases b <;> first | rfl | (exfalso; revert h; decide +kernel)
theorem colD_eqv (a b : NC) : PyData.eqv (colD a) (colD b) = decide (a = b) := by
  show ((a.1 == b.1) && ((kW a.2 == kW b.2) && true)) = _
  rw [Bool.and_true]
  by_cases h : a = b
  · rw [h, decide_eq_true rfl, beq_self_eq_true, beq_self_eq_true]
    rfl
  · rw [decide_eq_false h]
    by_cases h1 : a.1 = b.1
    · have h2 : ¬ kW a.2 = kW b.2 := fun e => h (Prod.ext h1 (kW_inj e))
      rw [beq_eq_false_iff_ne.mpr h2, Bool.and_false]
    · rw [beq_eq_false_iff_ne.mpr h1]
      rfl
theorem any_col (c : NC) : ∀ l : List NC, (l.map colD).any (fun z => PyData.eqv z (colD c)) = decide (c ∈ l)
  | [] => by simp
  | a :: l => by
    rw [List.map_cons, List.any_cons, colD_eqv, any_col c l]
    by_cases h : a = c
    · simp [h]
    · have h' : ¬ c = a := fun e => h e.symm
      simp [h, h']
theorem colD_ok {c : NC} (h : PyData.canLay0 (.str c.1) = true) : PyData.canLay0 (colD c) = true := by
  show (PyData.canLay0 (.str c.1) && (PyData.canLay0 (.str (kW c.2)) && true)) = true
  rw [h]
  cases c.2 <;> decide +kernel
theorem colsD_ok : ∀ l : List NC, (∀ c ∈ l, PyData.canLay0 (.str c.1) = true) → PyData.canLayAll0 (l.map colD) = true
  | [], _ => rfl
  | c :: l, h => by
    show (PyData.canLay0 (colD c) && PyData.canLayAll0 (l.map colD)) = true
    rw [colD_ok (h c List.mem_cons_self), colsD_ok l fun x hx => h x (List.mem_cons_of_mem _ hx)]
    rfl
theorem colsD_dep : ∀ l : List NC, PyData.depthAll (l.map colD) ≤ 1
  | [] => Nat.zero_le _
  | c :: l => by
    show max (PyData.depth (colD c)) (PyData.depthAll (l.map colD)) ≤ 1
    exact Nat.max_le.mpr ⟨Nat.le_refl 1, colsD_dep l⟩
theorem colD_sh {c : NC} (h : PyData.canLay0 (.str c.1) = true) : SeqAt.shaped (colD c) = true := by
  show (PyData.canLay0 (colD c) && decide (PyData.depth (colD c) ≤ 64)) = true
  rw [colD_ok h]
  rfl
theorem colsD_sh {l : List NC} (h : ∀ c ∈ l, PyData.canLay0 (.str c.1) = true) : SeqAt.shaped (.list (l.map colD)) = true := by
  have d := colsD_dep l
  show (PyData.canLayAll0 (l.map colD) && decide (PyData.depthAll (l.map colD) + 1 ≤ 64)) = true
  rw [colsD_ok l h, decide_eq_true (by omega)]
  rfl
def PairsAt (H : Hp) (cl : List Col) : Prop := ∀ c ∈ cl, H c.1 = some (.tup [.str c.2.1, .str (kW c.2.2)])
theorem col_dp {K : PySem.W.Frag} {H : Hp} {c : Col} (h : H c.1 = some (.tup [.str c.2.1, .str (kW c.2.2)])) : Dp K H (.ref c.1) (colD c.2) := .tup (SqT.of h) (.cons (.str _) (.cons (.str _) .nil))
theorem cols_dpA {K : PySem.W.Frag} {H : Hp} : ∀ {cl : List Col}, PairsAt H cl → DpAll K H (cl.map fun c => .ref c.1) ((cl.map (·.2)).map colD)
  | [], _ => .nil
  | c :: cl, h => .cons (col_dp (h c List.mem_cons_self)) (cols_dpA fun x hx => h x (List.mem_cons_of_mem _ hx))
theorem cols_dp {K : PySem.W.Frag} {H : Hp} {a : Addr} {cl : List Col} (e : H a = some (.lst (cl.map fun c => .ref c.1))) (h : PairsAt H cl) : Dp K H (.ref a) (.list ((cl.map (·.2)).map colD)) := .lst (SqL.of e) (cols_dpA h)
/-- a table that the law knows: where its columns' list stands -/
structure Tab (H : Hp) (a : Addr) (cl : List Col) : Prop where
  cols : ColsAt H a cl
  nod : (cl.map fun c => c.2.1).Nodup
  inn : ∀ c ∈ cl, c.2.1 ∈ allNames
  ne : cl ≠ []
theorem Tab.few {H : Hp} {a : Addr} {cl : List Col} (T : Tab H a cl) : cl.length ≤ 24 := by
  have := few_names T.nod fun x hx => by
    obtain ⟨c, hc, rfl⟩ := List.mem_map.mp hx
    exact T.inn c hc
  rw [List.length_map] at this
  exact this
theorem all_ok : ∀ x ∈ allNames, PyData.canLay0 (.str x) = true := by decide +kernel
theorem Tab.keep {H H' : Hp} {a : Addr} {cl : List Col} (T : Tab H a cl) (h : Same H H') : Tab H' a cl := ⟨T.cols.keep h, T.nod, T.inn, T.ne⟩
theorem Tab.but {H H' : Hp} {a d s : Addr} {cl : List Col} {ns : List Int} {tl : List V} {n : Int} (T : Tab H a cl) (D : DrawAt H d s ns tl n) (h : But d H H') : Tab H' a cl := ⟨T.cols.but D h, T.nod, T.inn, T.ne⟩
/-- what the law knows: names, where their columns stand, the columns -/
abbrev Knw : Type := List (Str × Addr × List Col)
structure KnowsAt (H : Hp) (kd g : Addr) (kn : Knw) : Prop where
  at_k : H kd = some (.dK (kn.map fun e => (.inr e.1, .ref e.2.1)))
  tabs : ∀ e ∈ kn, Tab H e.2.1 e.2.2
  nod : (kn.map (·.1)).Nodup
  few : kn.length ≤ 40
  sizes : ∃ kvs : List (L2.Key × V), H g = some (.dK kvs) ∧ kvs.length ≤ 40 ∧ ∀ e ∈ kn, ∃ j : Int, valV kvs (.inr e.1) = some (.int j) ∧ 0 ≤ j ∧ j ≤ 400
  nms : ∀ e ∈ kn, PyData.canLay0 (.str e.1) = true
theorem KnowsAt.keep {H H' : Hp} {kd g : Addr} {kn : Knw} (k : KnowsAt H kd g kn) (h : Same H H') : KnowsAt H' kd g kn := by
  obtain ⟨kvs, h1, h2⟩ := k.sizes
  exact ⟨h _ _ k.at_k, fun e he => (k.tabs e he).keep h, k.nod, k.few, ⟨kvs, h _ _ h1, h2⟩, k.nms⟩
theorem KnowsAt.but {H H' : Hp} {kd g d s : Addr} {kn : Knw} {ns : List Int} {tl : List V} {n : Int} (k : KnowsAt H kd g kn) (D : DrawAt H d s ns tl n) (h : But d H H') : KnowsAt H' kd g kn := by
  obtain ⟨kvs, h1, h2⟩ := k.sizes
  have nd : ∀ {a : Addr} {q : List (L2.Key × V)}, H a = some (.dK q) → a ≠ d := fun e z => by
    rw [z, D.at_d] at e
    cases e
  exact ⟨h _ _ (nd k.at_k) k.at_k, fun e he => (k.tabs e he).but D h, k.nod, k.few, ⟨kvs, h _ _ (nd h1) h1, h2⟩, k.nms⟩
theorem val_key {α : Type} {f : α → V} {nm : α → Str} : ∀ {l : List α}, (l.map nm).Nodup → ∀ {e : α}, e ∈ l → valV (l.map fun e => ((.inr (nm e) : L2.Key), f e)) (.inr (nm e)) = some (f e)
  | [], _, e, h => absurd h List.not_mem_nil
  | x :: l, hn, e, h => by
    unfold valV
    rw [List.map_cons, List.find?_cons]
    by_cases hx : nm x = nm e
    · have hxe : x = e := by
        rcases List.mem_cons.mp h with rfl | h
        · rfl
        · exact absurd (by rw [hx]; exact List.mem_map.mpr ⟨e, h, rfl⟩) (List.nodup_cons.mp hn).1
      rw [decide_eq_true (show (Sum.inr (nm x) : L2.Key) = Sum.inr (nm e) by rw [hx]), hxe]
      rfl
    · rw [decide_eq_false (show ¬ (Sum.inr (nm x) : L2.Key) = Sum.inr (nm e) from fun z => hx (Sum.inr.inj z))]
      have hl : e ∈ l := by
        rcases List.mem_cons.mp h with rfl | h
        · exact absurd rfl hx
        · exact h
      exact val_key (List.nodup_cons.mp hn).2 hl
theorem KnowsAt.get {H : Hp} {kd g : Addr} {kn : Knw} (k : KnowsAt H kd g kn) {e : Str × Addr × List Col} (he : e ∈ kn) : DGet H kd (.str e.1) (some (.ref e.2.1)) := by
  have := val_key (f := fun e : Str × Addr × List Col => V.ref e.2.1) (nm := fun e => e.1) k.nod he
  exact this ▸ DGet.k (k := .inr e.1) k.at_k
def joinC (f s k : List NC) : List NC := k ++ (f.filter (fun c => decide (c ∉ k)) ++ s.filter fun c => decide (c ∉ k))
theorem filt_yes {P : Col → Bool} {cl : List Col} {i : Nat} {c : Col} (h : cl[i]? = some c) (hp : P c = true) : (cl.take (i + 1)).filter P = (cl.take i).filter P ++ [c] := by
  rw [take_at h, List.filter_append, List.filter_cons, hp]
  rfl
theorem filt_no {P : Col → Bool} {cl : List Col} {i : Nat} {c : Col} (h : cl[i]? = some c) (hp : P c = false) : (cl.take (i + 1)).filter P = (cl.take i).filter P := by
  rw [take_at h, List.filter_append, List.filter_cons, hp]
  show _ ++ [] = _
  rw [List.append_nil]
theorem filt_len {P : Col → Bool} (cl : List Col) : (cl.filter P).length ≤ cl.length := List.length_filter_le _ _
theorem cut_nat (xs : List V) (m : Nat) : cutV xs none (some (m : Int)) = xs.take m := by
  unfold cutV
  rw [HT.sIx_none, HT.sIx_nat, List.drop_zero, Nat.sub_zero]
  by_cases h : m ≤ xs.length
  · rw [Nat.min_eq_left h]
  · rw [Nat.min_eq_right (by omega), List.take_length, List.take_of_length_le (by omega)]
theorem room65 {k : Nat} {A : Around} (r : Room k A) : A.units + 65 < cLine := by
  have := r.un
  omega
section
variable {P : Program} {w : World} {K : PySem.W.Frag} {mg : Str → Option Value} {base : Heap}
/-! ### _law_join -/
abbrev N_law_join : List Str := ["draw", "known", "one", "other", "first", "second", "keys", "pair", "rest", "names", "name", "kind"]
def spJoin : Sp := fun vs H Q _ => ∃ (d s kd g : Addr) (kn : Knw) (one : Str) (a1 : Addr) (c1 : List Col) (ns : List Int) (n : Int), vs = [.ref d, .ref kd, .str one] ∧ DrawAt H d s ns [.ref g] n ∧ KnowsAt H kd g kn ∧ (one, a1, c1) ∈ kn ∧
  (∀ (r : Addr) (n' : Int) (H' : Hp), H' r = some (.tup [.non, .non]) → But d H H' → DrawAt H' d s ns [.ref g] n' → Q (.ref r) H') ∧
  ∀ (r t kt f a2 : Addr) (other : Str) (c2 ks cl : List Col) (n' : Int) (H' : Hp), H' r = some (.tup [.ref t, .ref f]) → H' t = some (.tup [.str other, .ref kt]) → H' kt = some (.tup (ks.map fun c => .str c.2.1)) → (other, a2, c2) ∈ kn → Tab H' f cl → ks ≠ [] →
    (∀ c ∈ ks, c ∈ c1 ∧ c.2 ∈ c2.map (·.2)) → cl.map (·.2) = joinC (c1.map (·.2)) (c2.map (·.2)) (ks.map (·.2)) → (∀ kvs x y, H g = some (.dK kvs) → valV kvs (.inr one) = some (.int x) → valV kvs (.inr other) = some (.int y) → x * y ≤ 400) → But d H H' → DrawAt H' d s ns [.ref g] n' → Q (.ref r) H'
theorem sc_join : FnScope N_law_join ["draw", "known", "one"] (defScope s_law_join) := ⟨rfl, rfl, rfl, by decide +kernel, rfl, by decide +kernel, by decide +kernel⟩
theorem ok_join {f : Addr} {fd : FuncData} (F : Fun K "_law_join" "_law_join" s_law_join f fd) (m_tuple : mg "tuple" = none) (m_len : mg "len" = none) (m_set : mg "set" = none) (m_sorted : mg "sorted" = none) (G_law_next : Ready P w K mg base 3 "_law_next" ["draw", "bound"] spNext) (G_law_pick : Ready P w K mg base 4 "_law_pick" ["draw", "things"] (spPick K)) :
    FnOk P w K mg base CX0 5 f fd ["draw", "known", "one"] spJoin := by
  refine F.ok sc_join (fun vs H Q E h => ?_) (fun cdv A outer s0 H vs Q E hr h => ?_)
  · obtain ⟨d, s, kd, g, kn, one, a1, c1, ns, n, rfl, _⟩ := h
    rfl
  obtain ⟨d, s, kd, g, kn, one, a1, c1, ns, n, rfl, D, KN, h1, q0, q⟩ := h
  have nd := sc_join.nd
  have hr4 : Room 4 _ := hr
  have hr3 : Room 3 _ := hr.mono (by omega)
  have hu64 : _ + 64 < cLine := hr.units
  have hu65 := room65 hr
  have hu1 : _ + 1 < cLine := Nat.lt_of_le_of_lt (Nat.add_le_add_left (by decide : 1 ≤ 64) _) hu64
  refine ⟨_, pss_cons (ps_set (i := 3) nd rfl (.inl rfl) (pe_fn (G_law_pick) hr4 (pa_cons (pv 0) (pa_cons (pe_callB (call_sortedD rfl) (by rfl) m_sorted (by decide +kernel) (pa_cons (pv 1) pa_nil)) pa_nil))))
      (pss_cons (ps_if (pt_cmpR op_gt (pe_op op_mul (pe_dget hu1 (pe_ix (show IxR _ (rIxL K) from ix_list) (pv 0) pe_int (fun _ _ => rfl)) (pv 2) (fun _ _ => rfl)) (pe_dget hu1 (pe_ix (show IxR _ (rIxL K) from ix_list) (pv 0) pe_int (fun _ _ => rfl)) (pv 3) (fun _ _ => rfl))) pe_int (nomark _)) (pss_one (ps_ret (pe_tup (pa_cons pe_non (pa_cons pe_non pa_nil))))) (pss_nil))
      (pss_cons (ps_asg (pe_tup (pa_cons (pe_dget hu1 (pv 1) (pv 2) (fun _ _ => rfl)) (pa_cons (pe_dget hu1 (pv 1) (pv 3) (fun _ _ => rfl)) pa_nil))) (pg_tup rfl (pgs_cons (pg_name (i := 4) nd rfl (.inl rfl)) (pgs_cons (pg_name (i := 5) nd rfl (.inr rfl)) pgs_nil))))
      (pss_cons (ps_set (i := 6) nd rfl (.inr rfl) (pe_slice sl_list (pe_lc (own := [("pair", 7)]) (g := gName 7) (tt := tTest (tOp (rInD K) (tVar 7) (tVar 5))) rfl nd (pi_list (pv 4)) (blkOk_by (N := N_law_join) (sc := defScope s_law_join) (by decide +kernel)) (fun _ _ _ _ _ => pg_name (i := 7) nd rfl (Or.inl rfl)) (fun _ _ _ _ _ => pts_one (pt_cmpR (op_inD hu65) (pv 7) (pv 5) rfl)) (fun _ _ _ _ _ => (pv 7))) po_none (po_some (pe_op op_add pe_int (pe_fn (G_law_next) hr3 (pa_cons (pv 0) (pa_cons pe_int pa_nil)))))))
      (pss_cons (ps_set (i := 8) nd rfl (.inl rfl) (pe_op op_cat (pe_lc (own := [("pair", 7)]) (g := gName 7) (tt := tTest (tOp (rNotInD K) (tVar 7) (tVar 6))) rfl nd (pi_list (pv 4)) (blkOk_by (N := N_law_join) (sc := defScope s_law_join) (by decide +kernel)) (fun _ _ _ _ _ => pg_name (i := 7) nd rfl (Or.inl rfl)) (fun _ _ _ _ _ => pts_one (pt_cmpR (op_notInD hu65) (pv 7) (pv 6) rfl)) (fun _ _ _ _ _ => (pv 7))) (pe_lc (own := [("pair", 7)]) (g := gName 7) (tt := tTest (tOp (rNotInD K) (tVar 7) (tVar 6))) rfl nd (pi_list (pv 5)) (blkOk_by (N := N_law_join) (sc := defScope s_law_join) (by decide +kernel)) (fun _ _ _ _ _ => pg_name (i := 7) nd rfl (Or.inl rfl)) (fun _ _ _ _ _ => pts_one (pt_cmpR (op_notInD hu65) (pv 7) (pv 6) rfl)) (fun _ _ _ _ _ => (pv 7)))))
      (pss_cons (ps_setLc (i := 9) (own := [("name", 10), ("kind", 11)]) (g := (gTup K 2 (gCons (gName 10) (gCons (gName 11) gNil)))) (tt := tYes) rfl nd rfl rfl (sw_true rfl rfl rfl (by decide +kernel)) (pi_list (pe_op op_cat (pv 6) (pv 8))) (blkOk_by (N := N_law_join) (sc := defScope s_law_join) (by decide +kernel)) (fun _ _ _ _ _ => pg_tup rfl (pgs_cons (pg_name (i := 10) nd rfl (.inl rfl)) (pgs_cons (pg_name (i := 11) nd rfl (.inl rfl)) pgs_nil))) (fun _ _ _ _ _ => pts_nil) (fun _ _ _ _ _ => (pv 10)))
      (pss_cons (ps_if (PW.pt (pw_or (pt_cmpR (op_eqD hu64) (pv 6) (pe_lst pa_nil) (nomark _)) (pw_or1 (pt_cmpR op_lt (pe_callB cr_lenK (by rfl) m_len PySem.boot_len (pa_cons (pe_callTy (Yk.cr_setK rfl) (by rfl) m_set PyProof.Rows.boot_set (pa_cons (pv 9) pa_nil)) pa_nil)) (pe_callB call_len_seq (by rfl) m_len PySem.boot_len (pa_cons (pv 9) pa_nil)) (nomark _))))) (pss_one (ps_ret (pe_tup (pa_cons pe_non (pa_cons pe_non pa_nil))))) (pss_nil))
      (pss_one (ps_ret (pe_tup (pa_cons (pe_tup (pa_cons (pv 3) (pa_cons (pe_callTy call_tuple_of (by rfl) m_tuple PyProof.Rows.boot_tuple (pa_cons (pe_lc (own := [("name", 10), ("kind", 11)]) (g := (gTup K 2 (gCons (gName 10) (gCons (gName 11) gNil)))) (tt := tYes) rfl nd (pi_list (pv 6)) (blkOk_by (N := N_law_join) (sc := defScope s_law_join) (by decide +kernel)) (fun _ _ _ _ _ => pg_tup rfl (pgs_cons (pg_name (i := 10) nd rfl (.inl rfl)) (pgs_cons (pg_name (i := 11) nd rfl (.inl rfl)) pgs_nil))) (fun _ _ _ _ _ => pts_nil) (fun _ _ _ _ _ => (pv 10))) pa_nil)) pa_nil))) (pa_cons (pe_op op_cat (pv 6) (pv 8)) pa_nil))))))))))), ?_⟩
  have z2 : 2 ≤ sizeLine := by decide
  obtain ⟨kvs, eg, lkv, hsz⟩ := KN.sizes
  -- other
  refine ⟨_, rfl, _, rfl, kd, _, kn.map (·.1), rfl, .inl KN.at_k, (by rw [List.map_map, List.map_map]; rfl), (by rw [List.length_map]; have := KN.few; omega), fun ys p pm _ hp => ?_⟩
  have sp := same_upd (o := .lst (ys.map V.str)) hp
  refine ⟨d, s, p, ns, [.ref g], n, ys.map V.str, rfl, D.keep sp, (ne_of_none D.at_d hp).symm, .inl (SqL.of upd_same), ?_, fun v H1 hv b1 D1 => ?_⟩
  · intro z
    have h0 : ys = [] := List.map_eq_nil_iff.mp z
    rw [h0] at pm
    have h2 := pm.nil_eq
    rw [List.map_eq_nil_iff.mp h2.symm] at h1
    exact absurd h1 List.not_mem_nil
  obtain ⟨other, ho, rfl⟩ := mem_strs hv
  obtain ⟨e2, he2, rfl⟩ := List.mem_map.mp (pm.mem_iff.mp ho)
  obtain ⟨other, a2, c2⟩ := e2
  have b01 : But d H H1 := (same_but sp).trans b1
  have KN1 := KN.but D b01
  obtain ⟨j1, g1, j10, j11⟩ := hsz _ h1
  obtain ⟨j2, g2, j20, j21⟩ := hsz _ he2
  have ng : g ≠ d := fun z => by
    rw [z, D.at_d] at eg
    cases eg
  have eg1 := b01 _ _ ng eg
  have gt1 : DGet H1 g (.str one) (some (.int j1)) := g1 ▸ DGet.k (k := .inr one) eg1
  have gt2 : DGet H1 g (.str other) (some (.int j2)) := g2 ▸ DGet.k (k := .inr other) eg1
  clear hv pm ho sp hp b1
  -- sizes
  refine ⟨_, rfl, d, _, 3, _, rfl, rfl, SqL.of D1.at_d, at3, _, rfl, g, _, rfl, gt1, _, rfl, d, _, 3, _, rfl, rfl, SqL.of D1.at_d, at3, _, rfl, g, _, rfl, gt2, _, _, rfl, rfl, ?_, ?_⟩
  · have p0 := Int.mul_nonneg j10 j20
    have p1 : j1 * j2 ≤ 400 * 400 := Int.mul_le_mul j11 j21 j20 (by decide)
    exact .inl (by show _ ∧ _; omega)
  refine ⟨_, _, rfl, rfl, _, rfl, ite2 (fun c => ⟨z2, fun r hr => q0 r _ _ upd_same (b01.trans (same_but (same_upd hr))) (D1.keep (same_upd hr))⟩) (fun c => ?_)⟩
  have j12 : j1 * j2 ≤ 400 := by
    rcases Int.lt_or_le 400 (j1 * j2) with z | z
    · exact absurd (decide_eq_true z) c
    · exact z
  refine ⟨_, rfl, _, rfl, kd, _, rfl, KN1.get h1, _, rfl, _, rfl, kd, _, rfl, KN1.get he2, z2, fun t0 ht0 => ⟨t0, _, rfl, SqT.of upd_same, rfl, _, _, rfl, _, _, rfl, rfl, ?_⟩⟩
  have u0 := same_upd (o := .tup [.ref a1, .ref a2]) ht0
  replace KN1 := KN1.keep u0
  replace b01 := b01.trans (same_but (d := d) u0)
  replace D1 := D1.keep u0
  clear gt1 gt2 eg1 u0
  dsimp only at KN1 b01 D1 ⊢
  generalize upd H1 t0 (.tup [.ref a1, .ref a2]) = H3 at KN1 b01 D1 ⊢
  have T1 := KN1.tabs _ h1
  have T2 := KN1.tabs _ he2
  dsimp only at T1 T2 ⊢
  -- keys
  refine ⟨_, rfl, a1, rfl, ⟨_, SqL.of T1.cols.all⟩, fun D2 hD2 => ?_⟩
  refine lc_list (K := K) (a := a1) (xs := c1.map fun c => .ref c.1) (fun i H' => Same H3 H' ∧ H' D2 = some (.lst (((c1.take i).filter (fun c : Col => decide (c.2 ∈ c2.map (·.2)))).map fun c => .ref c.1))) ⟨same_upd hD2, upd_same⟩ (fun i H' _ h => SqL.of (h.1 _ _ T1.cols.all)) ?_ ?_
  · rintro i x H' hx ⟨sm, e⟩
    rw [List.getElem?_map] at hx
    obtain ⟨c, hc, rfl⟩ := Option.map_eq_some_iff.mp hx
    have cm := List.mem_of_getElem? hc
    refine ⟨rfl, _, rfl, _, rfl, colD c.2, _, col_dp (sm _ _ (T1.cols.each c cm)), cols_dp (sm _ _ T2.cols.all) (fun c hc => sm _ _ (T2.cols.each c hc)), colD_sh (T1.cols.ok c cm), colsD_sh (fun z hz => by
      obtain ⟨c, hc, rfl⟩ := List.mem_map.mp hz
      exact T2.cols.ok c hc), _, rfl, ?_⟩
    rw [any_col]
    have lf : (((c1.take i).filter (fun c : Col => decide (c.2 ∈ c2.map (·.2)))).map fun c => V.ref c.1).length < sizeLine := by
      rw [List.length_map]
      have h1 := filt_len (P := (fun c : Col => decide (c.2 ∈ c2.map (·.2)))) (c1.take i)
      have h2 : (c1.take i).length ≤ c1.length := by rw [List.length_take]; omega
      have h3 := T1.few
      exact Nat.lt_of_le_of_lt (show _ ≤ 24 by omega) (by decide)
    refine ite2 (fun cc => ⟨_, rfl, _, e, lf, fun b o e' => ?_, ?_⟩) (fun cc => ⟨sm, ?_⟩)
    · rw [upd_ne (ne_of_none e' hD2)]
      exact sm _ _ e'
    · rw [filt_yes hc (by simpa using cc), List.map_append]
      exact upd_same
    · rw [filt_no hc (by simpa using cc)]
      exact e
  rintro H4 ⟨s4, e4⟩
  rw [List.length_map, List.take_length] at e4
  have n2 : D2 ≠ d := (ne_of_none D1.at_d hD2).symm
  have D4 := D1.keep s4
  refine ⟨_, rfl, d, s, ns, [.ref g], _, 2, rfl, D4, by decide, fun r H5 r0 r1 b5 D5 => ?_⟩
  refine ⟨_, _, rfl, rfl, _, rfl, D2, _, rfl, SqL.of (b5 _ _ n2 e4), fun pk hpk => ?_⟩
  obtain ⟨m, rfl⟩ := Int.eq_ofNat_of_zero_le r0
  have e1m : (1 : Int) + (m : Int) = ((1 + m : Nat) : Int) := by omega
  rw [e1m, cut_nat, ← List.map_take]
  obtain ⟨ks, eks⟩ : ∃ ks, ks = (c1.filter (fun c : Col => decide (c.2 ∈ c2.map (·.2)))).take (1 + m) := ⟨_, rfl⟩
  rw [← eks]
  have hks : ∀ c ∈ ks, c ∈ c1 ∧ c.2 ∈ c2.map (·.2) := fun c hc => by
    rw [eks] at hc
    have h2 := List.mem_filter.mp (List.mem_of_mem_take hc)
    exact ⟨h2.1, of_decide_eq_true h2.2⟩
  have lks : ks.length ≤ 2 := by
    rw [eks, List.length_take]
    omega
  have b35 : But d H3 (upd H5 pk (.lst (ks.map fun c => .ref c.1))) := ((same_but s4).trans b5).trans (same_but (same_upd hpk))
  have D6 := D5.keep (same_upd (o := .lst (ks.map fun c => .ref c.1)) hpk)
  have epk : upd H5 pk (.lst (ks.map fun c => .ref c.1)) pk = some (.lst (ks.map fun c => .ref c.1)) := upd_same
  generalize upd H5 pk (.lst (ks.map fun c => .ref c.1)) = H6 at b35 D6 epk ⊢
  replace T1 := T1.but D1 b35
  replace T2 := T2.but D1 b35
  replace KN1 := KN1.but D1 b35
  replace b01 := b01.trans b35
  clear D4 s4 e4 b5 D5 hpk hD2 n2 b35 D1 eks
  have ksA : PairsAt H6 ks := fun c hc => T1.cols.each c (hks c hc).1
  have ksO : ∀ z ∈ ks.map (·.2), PyData.canLay0 (.str z.1) = true := fun z hz => by
    obtain ⟨c, hc, rfl⟩ := List.mem_map.mp hz
    exact T1.cols.ok c (hks c hc).1
  -- rest
  refine ⟨_, rfl, a1, rfl, ⟨_, SqL.of T1.cols.all⟩, fun DA hDA => ?_⟩
  refine lc_list (K := K) (a := a1) (xs := c1.map fun c => .ref c.1) (fun i H' => Same H6 H' ∧ H' DA = some (.lst (((c1.take i).filter (fun c : Col => decide (c.2 ∉ ks.map (·.2)))).map fun c => .ref c.1))) ⟨same_upd hDA, upd_same⟩ (fun i H' _ h => SqL.of (h.1 _ _ T1.cols.all)) ?_ ?_
  · rintro i x H' hx ⟨sm, e⟩
    rw [List.getElem?_map] at hx
    obtain ⟨c, hc, rfl⟩ := Option.map_eq_some_iff.mp hx
    have cm := List.mem_of_getElem? hc
    refine ⟨rfl, _, rfl, _, rfl, colD c.2, _, col_dp (sm _ _ (T1.cols.each c cm)), cols_dp (sm _ _ epk) (fun c hc => sm _ _ (ksA c hc)), colD_sh (T1.cols.ok c cm), colsD_sh ksO, _, rfl, ?_⟩
    rw [any_col]
    have lf : (((c1.take i).filter (fun c : Col => decide (c.2 ∉ ks.map (·.2)))).map fun c => V.ref c.1).length < sizeLine := by
      rw [List.length_map]
      have h1 := filt_len (P := (fun c : Col => decide (c.2 ∉ ks.map (·.2)))) (c1.take i)
      have h2 : (c1.take i).length ≤ c1.length := by rw [List.length_take]; omega
      have h3 := T1.few
      exact Nat.lt_of_le_of_lt (show _ ≤ 24 by omega) (by decide)
    refine ite2 (fun cc => ⟨_, rfl, _, e, lf, fun b o e' => ?_, ?_⟩) (fun cc => ⟨sm, ?_⟩)
    · rw [upd_ne (ne_of_none e' hDA)]
      exact sm _ _ e'
    · rw [filt_yes hc (by simpa using cc), List.map_append]
      exact upd_same
    · rw [filt_no hc (by simpa using cc)]
      exact e
  rintro H7 ⟨s7, eA⟩
  rw [List.length_map, List.take_length] at eA
  replace T1 := T1.keep s7
  replace T2 := T2.keep s7
  replace b01 := b01.trans (same_but (d := d) s7)
  replace epk := s7 _ _ epk
  replace ksA : PairsAt H7 ks := fun c hc => s7 _ _ (ksA c hc)
  replace D6 := D6.keep s7
  clear s7 hDA KN1
  refine ⟨_, rfl, a2, rfl, ⟨_, SqL.of T2.cols.all⟩, fun DB hDB => ?_⟩
  refine lc_list (K := K) (a := a2) (xs := c2.map fun c => .ref c.1) (fun i H' => Same H7 H' ∧ H' DB = some (.lst (((c2.take i).filter (fun c : Col => decide (c.2 ∉ ks.map (·.2)))).map fun c => .ref c.1))) ⟨same_upd hDB, upd_same⟩ (fun i H' _ h => SqL.of (h.1 _ _ T2.cols.all)) ?_ ?_
  · rintro i x H' hx ⟨sm, e⟩
    rw [List.getElem?_map] at hx
    obtain ⟨c, hc, rfl⟩ := Option.map_eq_some_iff.mp hx
    have cm := List.mem_of_getElem? hc
    refine ⟨rfl, _, rfl, _, rfl, colD c.2, _, col_dp (sm _ _ (T2.cols.each c cm)), cols_dp (sm _ _ epk) (fun c hc => sm _ _ (ksA c hc)), colD_sh (T2.cols.ok c cm), colsD_sh ksO, _, rfl, ?_⟩
    rw [any_col]
    have lf : (((c2.take i).filter (fun c : Col => decide (c.2 ∉ ks.map (·.2)))).map fun c => V.ref c.1).length < sizeLine := by
      rw [List.length_map]
      have h1 := filt_len (P := (fun c : Col => decide (c.2 ∉ ks.map (·.2)))) (c2.take i)
      have h2 : (c2.take i).length ≤ c2.length := by rw [List.length_take]; omega
      have h3 := T2.few
      exact Nat.lt_of_le_of_lt (show _ ≤ 24 by omega) (by decide)
    refine ite2 (fun cc => ⟨_, rfl, _, e, lf, fun b o e' => ?_, ?_⟩) (fun cc => ⟨sm, ?_⟩)
    · rw [upd_ne (ne_of_none e' hDB)]
      exact sm _ _ e'
    · rw [filt_yes hc (by simpa using cc), List.map_append]
      exact upd_same
    · rw [filt_no hc (by simpa using cc)]
      exact e
  rintro H8 ⟨s8, eB⟩
  rw [List.length_map, List.take_length] at eB
  replace T1 := T1.keep s8
  replace T2 := T2.keep s8
  replace b01 := b01.trans (same_but (d := d) s8)
  replace epk := s8 _ _ epk
  replace ksA : PairsAt H8 ks := fun c hc => s8 _ _ (ksA c hc)
  replace D6 := D6.keep s8
  replace eA := s8 _ _ eA
  clear s8 hDB
  obtain ⟨lA, elA⟩ : ∃ l, l = c1.filter (fun c : Col => decide (c.2 ∉ ks.map (·.2))) := ⟨_, rfl⟩
  obtain ⟨lB, elB⟩ : ∃ l, l = c2.filter (fun c : Col => decide (c.2 ∉ ks.map (·.2))) := ⟨_, rfl⟩
  rw [← elA] at eA
  rw [← elB] at eB
  have lnA : lA.length ≤ 24 := by
    rw [elA]
    exact Nat.le_trans (filt_len _) T1.few
  have lnB : lB.length ≤ 24 := by
    rw [elB]
    exact Nat.le_trans (filt_len _) T2.few
  have s50 : ∀ {n : Nat}, n ≤ 50 → n ≤ sizeLine := fun h => Nat.le_trans h (by decide)
  have s50' : ∀ {n : Nat}, n ≤ 50 → n < sizeLine := fun h => Nat.lt_of_le_of_lt h (by decide)
  refine ⟨DA, DB, _, _, rfl, rfl, eA, eB, (by rw [List.length_map, List.length_map]; exact s50 (by omega)), fun pr hpr => ?_⟩
  rw [← List.map_append]
  have allA : PairsAt H8 (ks ++ (lA ++ lB)) := fun c hc => by
    rcases List.mem_append.mp hc with hc | hc
    · exact ksA c hc
    rcases List.mem_append.mp hc with hc | hc
    · rw [elA] at hc
      exact T1.cols.each c (List.mem_filter.mp hc).1
    · rw [elB] at hc
      exact T2.cols.each c (List.mem_filter.mp hc).1
  have inn : ∀ c ∈ ks ++ (lA ++ lB), c.2.1 ∈ allNames := fun c hc => by
    rcases List.mem_append.mp hc with hc | hc
    · exact T1.inn c (hks c hc).1
    rcases List.mem_append.mp hc with hc | hc
    · rw [elA] at hc
      exact T1.inn c (List.mem_filter.mp hc).1
    · rw [elB] at hc
      exact T2.inn c (List.mem_filter.mp hc).1
  have s9 := same_upd (o := .lst ((lA ++ lB).map fun c => .ref c.1)) hpr
  have epr : upd H8 pr (.lst ((lA ++ lB).map fun c => .ref c.1)) pr = some (.lst ((lA ++ lB).map fun c => .ref c.1)) := upd_same
  generalize upd H8 pr (.lst ((lA ++ lB).map fun c => .ref c.1)) = H9 at s9 epr ⊢
  replace b01 := b01.trans (same_but (d := d) s9)
  replace epk := s9 _ _ epk
  replace D6 := D6.keep s9
  replace allA : PairsAt H9 (ks ++ (lA ++ lB)) := fun c hc => s9 _ _ (allA c hc)
  clear s9 hpr eA eB ksA T1 T2
  have lall : (ks ++ (lA ++ lB)).length ≤ 50 := by
    rw [List.length_append, List.length_append]
    omega
  have lcat : (ks.map fun c => V.ref c.1).length + ((lA ++ lB).map fun c => V.ref c.1).length ≤ sizeLine := by
    rw [List.length_map, List.length_map, ← List.length_append]
    exact s50 lall
  -- names
  refine ⟨_, rfl, _, rfl, pk, pr, _, _, rfl, rfl, epk, epr, lcat, fun pn hpn => ?_⟩
  rw [← List.map_append]
  have sn := same_upd (o := .lst ((ks ++ (lA ++ lB)).map fun c => .ref c.1)) hpn
  have epn : upd H9 pn (.lst ((ks ++ (lA ++ lB)).map fun c => .ref c.1)) pn = some (.lst ((ks ++ (lA ++ lB)).map fun c => .ref c.1)) := upd_same
  generalize upd H9 pn (.lst ((ks ++ (lA ++ lB)).map fun c => .ref c.1)) = H10 at sn epn ⊢
  refine ⟨pn, rfl, ⟨_, SqL.of epn⟩, fun DN hDN => lc_list (K := K) (a := pn) (xs := (ks ++ (lA ++ lB)).map fun c => .ref c.1) (fun i H' => Same H10 H' ∧ H' DN = some (.lst ((((ks ++ (lA ++ lB)).map fun c => c.2.1).take i).map V.str))) ⟨same_upd hDN, upd_same⟩ (fun i H' _ h => SqL.of (h.1 _ _ epn)) ?_ ?_⟩
  · rintro i x H' hx ⟨sm, e⟩
    rw [List.getElem?_map] at hx
    obtain ⟨p, hp, rfl⟩ := Option.map_eq_some_iff.mp hx
    have eu := sn _ _ (allA p (List.mem_of_getElem? hp))
    refine ⟨p.1, _, rfl, SqT.of (sm _ _ eu), rfl, _, _, rfl, _, _, rfl, rfl, rfl, _, rfl, _, e, ?_, fun b o' e' => ?_, ?_⟩
    · rw [List.length_map, List.length_take, List.length_map]
      exact s50' (by omega)
    · rw [upd_ne (ne_of_none e' hDN)]
      exact sm _ _ e'
    · have h1 : ((ks ++ (lA ++ lB)).map fun c => c.2.1).take (i + 1) = ((ks ++ (lA ++ lB)).map fun c => c.2.1).take i ++ [p.2.1] := by
        rw [List.take_add_one, List.getElem?_map, hp]
        rfl
      rw [h1, List.map_append (f := V.str)]
      exact upd_same
  rintro H11 ⟨s11, e11⟩
  rw [List.length_map, List.take_of_length_le (by rw [List.length_map]; exact Nat.le_refl _)] at e11
  replace s11 := sn.trans s11
  replace b01 := b01.trans (same_but (d := d) s11)
  replace epk := s11 _ _ epk
  replace epr := s11 _ _ epr
  replace D6 := D6.keep s11
  replace allA : PairsAt H11 (ks ++ (lA ++ lB)) := fun c hc => s11 _ _ (allA c hc)
  clear s11 hDN sn epn hpn
  -- the test
  refine ⟨_, rfl, Nat.zero_le _, fun p0 hp0 => ?_⟩
  have s12 := same_upd (o := .lst []) hp0
  have e0 : upd H11 p0 (.lst []) p0 = some (.lst []) := upd_same
  generalize upd H11 p0 (.lst []) = H12 at s12 e0 ⊢
  replace b01 := b01.trans (same_but (d := d) s12)
  replace epk := s12 _ _ epk
  replace epr := s12 _ _ epr
  replace e11 := s12 _ _ e11
  replace D6 := D6.keep s12
  replace allA : PairsAt H12 (ks ++ (lA ++ lB)) := fun c hc => s12 _ _ (allA c hc)
  clear s12 hp0
  refine ⟨_, _, cols_dp epk (fun c hc => allA c (List.mem_append_left _ hc)), .lst (SqL.of e0) .nil, colsD_sh ksO, by decide, _, rfl, ite2 (fun c => iteT ⟨z2, fun r hr => q0 r _ _ upd_same (b01.trans (same_but (same_upd hr))) (D6.keep (same_upd hr))⟩) (fun cne => ?_)⟩
  have hne : ks ≠ [] := fun z => by
    rw [z] at cne
    exact cne rfl
  have ek : (((ks ++ (lA ++ lB)).map fun c => c.2.1).map (fun x => (Sum.inr x : L2.Key))).map kV = ((ks ++ (lA ++ lB)).map fun c => c.2.1).map V.str := by
    rw [List.map_map]
    rfl
  refine ⟨_, rfl, DN, ((ks ++ (lA ++ lB)).map fun c => c.2.1).map (fun x => (Sum.inr x : L2.Key)), rfl, .inl (SqL.of (by rw [ek]; exact e11)), ?_, fun p M nM mM hp => ?_⟩
  · rw [List.length_map, List.length_map]
    omega
  have s13 := same_upd (o := Yk.SetKO P w p M) hp
  refine ⟨p, M, rfl, upd_same, _, rfl, DN, _, rfl, .inl (SqL.of (s13 _ _ e11)), _, _, rfl, rfl, _, rfl, ite2 (fun c => ?_) (fun c => ?_)⟩
  · exact ⟨z2, fun r hr => q0 r _ _ upd_same ((b01.trans (same_but s13)).trans (same_but (same_upd hr))) ((D6.keep s13).keep (same_upd hr))⟩
  have hnd : ((ks ++ (lA ++ lB)).map fun c => c.2.1).Nodup := nodup_strs (len_nodup nM mM (by
    have h1 : ¬ ((M.length : Nat) : Int) < (((((ks ++ (lA ++ lB)).map fun c => c.2.1).map V.str).length : Nat) : Int) := fun z => c (decide_eq_true z)
    rw [List.length_map] at h1 ⊢
    omega))
  refine ⟨_, rfl, _, rfl, pk, rfl, ⟨_, SqL.of (s13 _ _ epk)⟩, fun D7 hD7 => lc_list (K := K) (a := pk) (xs := ks.map fun c => .ref c.1) (fun i H' => Same (upd H12 p (Yk.SetKO P w p M)) H' ∧ H' D7 = some (.lst (((ks.map fun c => c.2.1).take i).map V.str))) ⟨same_upd hD7, upd_same⟩ (fun i H' _ h => SqL.of (h.1 _ _ (s13 _ _ epk))) ?_ ?_⟩
  · rintro i x H' hx ⟨sm, e⟩
    rw [List.getElem?_map] at hx
    obtain ⟨p', hp', rfl⟩ := Option.map_eq_some_iff.mp hx
    have eu := s13 _ _ (allA p' (List.mem_append_left _ (List.mem_of_getElem? hp')))
    refine ⟨p'.1, _, rfl, SqT.of (sm _ _ eu), rfl, _, _, rfl, _, _, rfl, rfl, rfl, _, rfl, _, e, ?_, fun b o' e' => ?_, ?_⟩
    · rw [List.length_map, List.length_take, List.length_map]
      exact s50' (by omega)
    · rw [upd_ne (ne_of_none e' hD7)]
      exact sm _ _ e'
    · have h1 : (ks.map fun c => c.2.1).take (i + 1) = (ks.map fun c => c.2.1).take i ++ [p'.2.1] := by
        rw [List.take_add_one, List.getElem?_map, hp']
        rfl
      rw [h1, List.map_append]
      exact upd_same
  rintro H14 ⟨s14, e14⟩
  rw [List.length_map, List.take_of_length_le (by rw [List.length_map]; exact Nat.le_refl _), List.map_map] at e14
  refine ⟨D7, _, rfl, .inl ⟨SqL.of e14, fun kt hkt => ⟨z2, fun t ht => ?_⟩⟩⟩
  have s15 := ((s13.trans s14).trans (same_upd (o := .tup (ks.map (V.str ∘ fun c => c.2.1))) hkt)).trans (same_upd (o := .tup [.str other, .ref kt]) ht)
  refine ⟨_, rfl, _, rfl, pk, pr, _, _, rfl, rfl, s15 _ _ epk, s15 _ _ epr, lcat, fun f' hf' => ⟨z2, fun r hr => ?_⟩⟩
  rw [← List.map_append] at hr ⊢
  have v1 := same_upd (o := .tup [.ref t, .ref f']) hr
  have v2 := (same_upd (o := .lst ((ks ++ (lA ++ lB)).map fun c => .ref c.1)) hf').trans v1
  have v3 := (same_upd (o := .tup [.str other, .ref kt]) ht).trans v2
  have v4 := s15.trans v2
  refine q r t kt f' a2 other c2 ks (ks ++ (lA ++ lB)) _ _ upd_same (v2 _ _ upd_same) (v3 _ _ upd_same) he2 ⟨⟨v1 _ _ upd_same, fun c hc => v4 _ _ (allA c hc), by omega, fun c hc => all_ok _ (inn c hc)⟩, hnd, inn, fun z => hne (List.append_eq_nil_iff.mp z).1⟩ hne hks ?_ (fun kvs' x y hg hx hy => ?_) (b01.trans (same_but v4)) (D6.keep v4)
  · unfold joinC
    rw [List.map_append, List.map_append, elA, elB, List.filter_map, List.filter_map]
    rfl
  · rw [eg] at hg
    cases hg
    rw [g1] at hx
    rw [g2] at hy
    cases hx
    cases hy
    exact j12
end
end Kj

set_option maxHeartbeats 8000000
namespace Kj
open PySem PySem.Spec PyProof.Rows L2 Kx
abbrev s_law_step : Stmt := topS 68
/-! ### jobs as data -/
abbrev MC : Type := Ex × Bool × Str
abbrev FC : Type := Str × Option Ex × Bool × Str
inductive Det where
  | read (cs : List NC)
  | filter (e : Ex)
  | map (ms : List MC)
  | fold (ks : List NC) (fs : List FC)
  | join (ks : List NC)
  | union
  | unlike
  | sort (ws : List (Str × Str)) (m : Int)
def Det.what : Det → Str
  | .read _ => "read"
  | .filter _ => "filter"
  | .map _ => "map"
  | .fold _ _ => "fold"
  | .join _ => "join"
  | .union => "union"
  | .unlike => "unlike"
  | .sort _ _ => "sort"
def FTo (H : Hp) (told : V) : Option Ex → Prop
  | none => told = .non
  | some e => ExAt H told e
/-- a tuple of which it is known that it has no dict of its own -/
def TupF (H : Hp) (a : Addr) (xs : List V) : Prop := ∃ o : Obj, o.dict = none ∧ H a = some (.frz o (.tup xs))
theorem TupF.sq {K : PySem.W.Frag} {H : Hp} {a : Addr} {xs : List V} (t : TupF H a xs) : SqT K H a xs := let ⟨o, _, e⟩ := t; .inl (.inr ⟨o, e⟩)
abbrev KeepF (H H' : Hp) : Prop := ∀ (a : Addr) (xs : List V), TupF H a xs → TupF H' a xs
theorem same_f {H H' : Hp} (h : Same H H') : KeepF H H' := fun a xs ⟨o, d, e⟩ => ⟨o, d, h _ _ e⟩
theorem But.tupF {H H' : Hp} {d : Addr} {l : List V} (h : But d H H') (hd : H d = some (.lst l)) : KeepF H H' := fun a xs ⟨o, dn, e⟩ => ⟨o, dn, h a _ (fun q => by rw [q, hd] at e; cases e) e⟩
def DetAt (H : Hp) (v : V) : Det → Prop
  | .read cs => ∃ (t : Addr) (as : List Col), v = .ref t ∧ TupF H t (as.map fun c => .ref c.1) ∧ PairsAt H as ∧ as.map (·.2) = cs
  | .filter e => ExAt H v e
  | .map ms => ∃ (t : Addr) (as : List (Addr × MC)), v = .ref t ∧ H t = some (.tup (as.map fun p => .ref p.1)) ∧ (∀ p ∈ as, ∃ told, H p.1 = some (.tup [told, .str p.2.2.2]) ∧ ExAt H told p.2.1) ∧ as.map (·.2) = ms
  | .fold ks fs => ∃ (t kt ft : Addr) (as : List (Addr × FC)), v = .ref t ∧ H t = some (.tup [.ref kt, .ref ft]) ∧ H kt = some (.tup (ks.map fun k => .str k.1)) ∧ H ft = some (.tup (as.map fun p => .ref p.1)) ∧ (∀ p ∈ as, ∃ told, H p.1 = some (.tup [.str p.2.1, told, .str p.2.2.2.2]) ∧ FTo H told p.2.2.1) ∧ as.map (·.2) = fs
  | .join ks => ∃ t : Addr, v = .ref t ∧ H t = some (.tup (ks.map fun k => .str k.1))
  | .union => ∃ t : Addr, v = .ref t ∧ H t = some (.tup [])
  | .unlike => ∃ t : Addr, v = .ref t ∧ H t = some (.tup [])
  | .sort ws m => ∃ (t wt : Addr) (as : List (Addr × Str × Str)), v = .ref t ∧ H t = some (.tup [.ref wt, .int m]) ∧ H wt = some (.tup (as.map fun p => .ref p.1)) ∧ (∀ p ∈ as, H p.1 = some (.tup [.str p.2.1, .str p.2.2])) ∧ as.map (·.2) = ws
abbrev KeepT (H H' : Hp) : Prop := ∀ (a : Addr) (xs : List V), H a = some (.tup xs) → H' a = some (.tup xs)
theorem FTo.keep {H H' : Hp} (h : KeepT H H') {told : V} : ∀ {o : Option Ex}, FTo H told o → FTo H' told o
  | none, q => q
  | some _, q => ExAt.keep h q
theorem DetAt.keep {H H' : Hp} (h : KeepT H H') (hf : KeepF H H') {v : V} : ∀ {d : Det}, DetAt H v d → DetAt H' v d
  | .read _, ⟨t, as, e, h1, h2, h3⟩ => ⟨t, as, e, hf _ _ h1, fun c hc => h _ _ (h2 c hc), h3⟩
  | .filter _, q => ExAt.keep h q
  | .map _, ⟨t, as, e, h1, h2, h3⟩ => ⟨t, as, e, h _ _ h1, fun p hp => let ⟨told, a, b⟩ := h2 p hp; ⟨told, h _ _ a, b.keep h⟩, h3⟩
  | .fold _ _, ⟨t, kt, ft, as, e, h1, h2, h3, h4, h5⟩ => ⟨t, kt, ft, as, e, h _ _ h1, h _ _ h2, h _ _ h3, fun p hp => let ⟨told, a, b⟩ := h4 p hp; ⟨told, h _ _ a, b.keep h⟩, h5⟩
  | .join _, ⟨t, e, h1⟩ => ⟨t, e, h _ _ h1⟩
  | .union, ⟨t, e, h1⟩ => ⟨t, e, h _ _ h1⟩
  | .unlike, ⟨t, e, h1⟩ => ⟨t, e, h _ _ h1⟩
  | .sort _ _, ⟨t, wt, as, e, h1, h2, h3, h4⟩ => ⟨t, wt, as, e, h _ _ h1, h _ _ h2, fun p hp => h _ _ (h3 p hp), h4⟩
structure Stp where
  name : Str
  ins : List Str
  det : Det
def StpAt (H : Hp) (a : Addr) (s : Stp) : Prop := ∃ (inp : Addr) (dv : V), H a = some (.tup [.str s.name, .str s.det.what, .ref inp, dv]) ∧ H inp = some (.tup (s.ins.map V.str)) ∧ DetAt H dv s.det
theorem StpAt.keep {H H' : Hp} (h : KeepT H H') (hf : KeepF H H') {a : Addr} {s : Stp} : StpAt H a s → StpAt H' a s := fun ⟨inp, dv, h1, h2, h3⟩ => ⟨inp, dv, h _ _ h1, h _ _ h2, h3.keep h hf⟩
theorem same_t {H H' : Hp} (h : Same H H') : KeepT H H' := fun a xs e => h a _ e
/-- the kind of a column, by its name -/
def kfN (cs : List NC) (x : Str) : Option Bool := (cs.find? fun c => decide (c.1 = x)).map (·.2)
theorem kfN_of : ∀ {cs : List NC}, (cs.map (·.1)).Nodup → ∀ {c : NC}, c ∈ cs → kfN cs c.1 = some c.2
  | [], _, c, h => absurd h List.not_mem_nil
  | x :: cs, hn, c, h => by
    unfold kfN
    rw [List.find?_cons]
    by_cases hx : x.1 = c.1
    · have e : x = c := by
        rcases List.mem_cons.mp h with rfl | h
        · rfl
        · exact absurd (by show x.1 ∈ _; rw [hx]; exact List.mem_map.mpr ⟨c, h, rfl⟩) (List.nodup_cons.mp hn).1
      rw [decide_eq_true hx, e]
      rfl
    · rw [decide_eq_false hx]
      have hl : c ∈ cs := by
        rcases List.mem_cons.mp h with rfl | h
        · exact absurd rfl hx
        · exact h
      exact kfN_of (List.nodup_cons.mp hn).2 hl
def FOk (cs : List NC) (m : FC) : Prop := m.1 ∈ folds6 ∧ match m.2.1 with
  | none => m.1 = "count" ∧ m.2.2.1 = true
  | some e => m.1 ≠ "count" ∧ Kind (kfN cs) e m.2.2.1 ∧ e.dep ≤ 3 ∧ (m.1 ∉ (["least", "unlike", "greatest"] : List Str) → m.2.2.1 = true)
inductive StepOk (kn : List (Str × List NC)) : List Str → Det → List NC → Prop where
  | filter {one : Str} {cs : List NC} {e : Ex} (h : (one, cs) ∈ kn) (k : Kind (kfN cs) e true) (d : e.dep ≤ 4) : StepOk kn [one] (.filter e) cs
  | map {one : Str} {cs : List NC} {ms : List MC} (h : (one, cs) ∈ kn) (k : ∀ m ∈ ms, Kind (kfN cs) m.1 m.2.1 ∧ m.1.dep ≤ 4) (nd : (ms.map (·.2.2)).Nodup) (ne : ms ≠ []) (l : ms.length ≤ 3) : StepOk kn [one] (.map ms) (ms.map fun m => (m.2.2, m.2.1))
  | fold {one : Str} {cs ks : List NC} {fs : List FC} (h : (one, cs) ∈ kn) (hk : ∀ k ∈ ks, k ∈ cs) (hf : ∀ m ∈ fs, FOk cs m) (nd : (ks.map (·.1) ++ fs.map (·.2.2.2)).Nodup) (ne : fs ≠ []) (l : fs.length ≤ 3) : StepOk kn [one] (.fold ks fs) (ks ++ fs.map fun m => (m.2.2.2, lateK m.1 m.2.2.1))
  | join {one other : Str} {f s ks : List NC} (h1 : (one, f) ∈ kn) (h2 : (other, s) ∈ kn) (ne : ks ≠ []) (hk : ∀ k ∈ ks, k ∈ f ∧ k ∈ s) (nd : ((joinC f s ks).map (·.1)).Nodup) : StepOk kn [one, other] (.join ks) (joinC f s ks)
  | union {one other : Str} {cs : List NC} (h1 : (one, cs) ∈ kn) (h2 : (other, cs) ∈ kn) : StepOk kn [one, other] .union cs
  | unlike {one : Str} {cs : List NC} (h : (one, cs) ∈ kn) : StepOk kn [one] .unlike cs
  | sort {one : Str} {cs : List NC} {ws : List (Str × Str)} {m : Int} (h : (one, cs) ∈ kn) (ne : ws ≠ []) (hw : ∀ x ∈ ws, (∃ k, (x.1, k) ∈ cs) ∧ (x.2 = "up" ∨ x.2 = "down")) (l : ws.length ≤ 2) (m1 : 1 ≤ m) (m5 : m ≤ 5) : StepOk kn [one] (.sort ws m) cs
def abs (kn : Knw) : List (Str × List NC) := kn.map fun e => (e.1, e.2.2.map (·.2))
theorem abs_mem {kn : Knw} {e : Str × Addr × List Col} (h : e ∈ kn) : (e.1, e.2.2.map (·.2)) ∈ abs kn := List.mem_map.mpr ⟨e, h, rfl⟩
def SizeOk (kvs : List (L2.Key × V)) (ins : List Str) (what : Str) : Prop := ∃ js : List Int, ins.length = js.length ∧ (∀ (i : Nat) (x : Str), ins[i]? = some x → ∃ j : Int, js[i]? = some j ∧ valV kvs (.inr x) = some (.int j)) ∧
  (what = "join" → ∃ a b : Int, js = [a, b] ∧ 0 ≤ a ∧ a ≤ 400 ∧ 0 ≤ b ∧ b ≤ 400 ∧ 0 ≤ a * b ∧ a * b ≤ 400) ∧ (what ≠ "join" → 0 ≤ js.sum ∧ js.sum ≤ 400)
theorem size_one {kvs : List (L2.Key × V)} {one what : Str} {j : Int} (h : valV kvs (.inr one) = some (.int j)) (h0 : 0 ≤ j) (h1 : j ≤ 400) (nj : what ≠ "join") : SizeOk kvs [one] what :=
  by
  refine ⟨[j], rfl, fun i x e => ?_, fun z => absurd z nj, fun _ => ?_⟩
  · match i, e with
    | 0, e =>
      cases e
      exact ⟨j, rfl, h⟩
    | i + 1, e => cases e
  · show 0 ≤ j + 0 ∧ j + 0 ≤ 400
    omega
theorem size_two {kvs : List (L2.Key × V)} {one other what : Str} {a b : Int} (h : valV kvs (.inr one) = some (.int a)) (h' : valV kvs (.inr other) = some (.int b)) (a0 : 0 ≤ a) (a1 : a ≤ 400) (b0 : 0 ≤ b) (b1 : b ≤ 400) (hj : what = "join" → a * b ≤ 400) (hs : what ≠ "join" → a + b ≤ 400) : SizeOk kvs [one, other] what :=
  by
  refine ⟨[a, b], rfl, fun i x e => ?_, fun z => ⟨a, b, rfl, a0, a1, b0, b1, Int.mul_nonneg a0 b0, hj z⟩, fun z => ?_⟩
  · match i, e with
    | 0, e =>
      cases e
      exact ⟨a, rfl, h⟩
    | 1, e =>
      cases e
      exact ⟨b, rfl, h'⟩
    | i + 2, e => cases e
  · have := hs z
    show 0 ≤ a + (b + 0) ∧ a + (b + 0) ≤ 400
    omega
theorem colsA_eqv : ∀ l m : List NC, PyData.eqvAll (l.map colD) (m.map colD) = decide (l = m)
  | [], [] => rfl
  | [], _ :: _ => rfl
  | _ :: _, [] => rfl
  | a :: l, b :: m => by
    show (PyData.eqv (colD a) (colD b) && PyData.eqvAll (l.map colD) (m.map colD)) = _
    rw [colD_eqv, colsA_eqv l m]
    by_cases h1 : a = b
    · by_cases h2 : l = m
      · simp [h1, h2]
      · simp [h1, h2]
    · simp [h1]
theorem colsD_eqv (l m : List NC) : PyData.eqv (.list (l.map colD)) (.list (m.map colD)) = decide (l = m) := colsA_eqv l m
def WaysAt (H : Hp) (cl : List Col) (as : List (Addr × Str × Str)) : Prop := ∀ p ∈ as, H p.1 = some (.tup [.str p.2.1, .str p.2.2]) ∧ (∃ k, (p.2.1, k) ∈ cl.map (·.2)) ∧ (p.2.2 = "up" ∨ p.2.2 = "down") ∧ PyData.canLay0 (.str p.2.1) = true
theorem WaysAt.keep {H H' : Hp} {cl : List Col} {as : List (Addr × Str × Str)} (W : WaysAt H cl as) (h : KeepT H H') : WaysAt H' cl as := fun p hp => ⟨h _ _ (W p hp).1, (W p hp).2⟩
def wayD (x : Str × Str) : PyData := .tuple [.str x.1, .str x.2]
theorem ways_dp {K : PySem.W.Frag} {H : Hp} {cl : List Col} : ∀ {as : List (Addr × Str × Str)}, WaysAt H cl as → DpAll K H (as.map fun p => .ref p.1) (as.map fun p => wayD p.2)
  | [], _ => .nil
  | p :: as, h => .cons (.tup (SqT.of (h p List.mem_cons_self).1) (.cons (.str _) (.cons (.str _) .nil))) (ways_dp fun x hx => h x (List.mem_cons_of_mem _ hx))
theorem way_ok {x : Str × Str} (h : PyData.canLay0 (.str x.1) = true) (w : x.2 = "up" ∨ x.2 = "down") : PyData.canLay0 (wayD x) = true := by
  show (PyData.canLay0 (.str x.1) && (PyData.canLay0 (.str x.2) && true)) = true
  rw [h]
  rcases w with w | w
  · rw [w]
    decide +kernel
  · rw [w]
    decide +kernel
theorem ways_ok {H : Hp} {cl : List Col} : ∀ {as : List (Addr × Str × Str)}, WaysAt H cl as → PyData.canLayAll0 (as.map fun p => wayD p.2) = true
  | [], _ => rfl
  | p :: as, h => by
    show (PyData.canLay0 (wayD p.2) && PyData.canLayAll0 (as.map fun p => wayD p.2)) = true
    rw [way_ok (h p List.mem_cons_self).2.2.2 (h p List.mem_cons_self).2.2.1, ways_ok fun x hx => h x (List.mem_cons_of_mem _ hx)]
    rfl
theorem ways_dep : ∀ as : List (Addr × Str × Str), PyData.depthAll (as.map fun p => wayD p.2) ≤ 1
  | [] => Nat.zero_le _
  | p :: as => by
    show max (PyData.depth (wayD p.2)) (PyData.depthAll (as.map fun p => wayD p.2)) ≤ 1
    exact Nat.max_le.mpr ⟨Nat.le_refl 1, ways_dep as⟩
theorem ways_sh {H : Hp} {cl : List Col} {as : List (Addr × Str × Str)} (W : WaysAt H cl as) : SeqAt.shaped (.tuple (as.map fun p => wayD p.2)) = true := by
  have d := ways_dep as
  show (PyData.canLayAll0 (as.map fun p => wayD p.2) && decide (PyData.depthAll (as.map fun p => wayD p.2) + 1 ≤ 64)) = true
  rw [ways_ok W, decide_eq_true (by omega)]
  rfl
theorem fn_all : ∀ x ∈ fnames, x ∈ allNames := by decide +kernel
section
variable {P : Program} {w : World} {K : PySem.W.Frag} {mg : Str → Option Value} {base : Heap}
/-! ### _law_step -/
abbrev N_law_step : List Str := ["draw", "known", "name", "one", "columns", "kind", "details", "late", "pair", "some", "other", "ways"]
def spStep : Sp := fun vs H Q _ => ∃ (d s kd g : Addr) (kn : Knw) (name one : Str) (a1 : Addr) (c1 : List Col) (ns : List Int) (n : Int), vs = [.ref d, .ref kd, .str name, .str one] ∧ DrawAt H d s ns [.ref g] n ∧ KnowsAt H kd g kn ∧ (one, a1, c1) ∈ kn ∧
  ∀ (r st f : Addr) (ins : List Str) (det : Det) (cl : List Col) (n' : Int) (H' : Hp), H' r = some (.tup [.ref st, .ref f]) → StpAt H' st ⟨name, ins, det⟩ → Tab H' f cl → StepOk (abs kn) ins det (cl.map (·.2)) → (∀ kvs, H g = some (.dK kvs) → SizeOk kvs ins det.what) → But d H H' → DrawAt H' d s ns [.ref g] n' → Q (.ref r) H'
theorem sc_step : FnScope N_law_step ["draw", "known", "name", "one"] (defScope s_law_step) := ⟨rfl, rfl, rfl, by decide +kernel, rfl, by decide +kernel, by decide +kernel⟩
theorem ok_step {f : Addr} {fd : FuncData} (F : Fun K "_law_step" "_law_step" s_law_step f fd) (m_tuple : mg "tuple" = none) (m_sorted : mg "sorted" = none) (G_law_next : Ready P w K mg base 3 "_law_next" ["draw", "bound"] spNext) (G_law_pick : Ready P w K mg base 4 "_law_pick" ["draw", "things"] (spPick K))
    (G_law_int : Ready P w K mg base 7 "_law_int" ["draw", "columns", "deep"] (spInt 3)) (G_law_map : Ready P w K mg base 8 "_law_map" ["draw", "columns", "at"] spMap) (G_law_fold : Ready P w K mg base 8 "_law_fold" ["draw", "columns"] spFold) (G_law_join : Ready P w K mg base 5 "_law_join" ["draw", "known", "one"] spJoin) :
    FnOk P w K mg base CX0 9 f fd ["draw", "known", "name", "one"] spStep := by
  refine F.ok sc_step (fun vs H Q E h => ?_) (fun cdv A outer s0 H vs Q E hr h => ?_)
  · obtain ⟨d, s, kd, g, kn, name, one, a1, c1, ns, n, rfl, _⟩ := h
    rfl
  obtain ⟨d, s, kd, g, kn, name, one, a1, c1, ns, n, rfl, D, KN, h1, q⟩ := h
  have nd := sc_step.nd
  have hr8 : Room 8 _ := hr
  have hr7 : Room 7 _ := hr.mono (by omega)
  have hr5 : Room 5 _ := hr.mono (by omega)
  have hr4 : Room 4 _ := hr.mono (by omega)
  have hr3 : Room 3 _ := hr.mono (by omega)
  have hu64 : _ + 64 < cLine := hr.units
  have hu1 : _ + 1 < cLine := Nat.lt_of_le_of_lt (Nat.add_le_add_left (by decide : 1 ≤ 64) _) hu64
  refine ⟨_, pss_cons (ps_asg (pe_tup (pa_cons (pe_dget hu1 (pv 1) (pv 3) (fun _ _ => rfl)) (pa_cons (pe_fn (G_law_next) hr3 (pa_cons (pv 0) (pa_cons pe_int pa_nil))) pa_nil))) (pg_tup rfl (pgs_cons (pg_name (i := 4) nd rfl (.inr rfl)) (pgs_cons (pg_name (i := 5) nd rfl (.inl rfl)) pgs_nil))))
      (pss_cons (ps_if (pt_cmpR op_lt (pv 5) pe_int (nomark _)) (pss_one (ps_ret (pe_tup (pa_cons (pe_tup (pa_cons (pv 2) (pa_cons pe_str (pa_cons (pe_tup (pa_cons (pv 3) pa_nil)) (pa_cons (pe_fn (G_law_int) hr7 (pa_cons (pv 0) (pa_cons (pv 4) (pa_cons pe_int pa_nil)))) pa_nil))))) (pa_cons (pv 4) pa_nil))))) (pss_nil))
      (pss_cons (ps_if (pt_cmpR op_eq (pv 5) pe_int (nomark _)) (pss_cons (ps_asg (pe_fn (G_law_map) hr8 (pa_cons (pv 0) (pa_cons (pv 4) (pa_cons pe_int pa_nil)))) (pg_tup rfl (pgs_cons (pg_name (i := 6) nd rfl (.inl rfl)) (pgs_cons (pg_name (i := 7) nd rfl (.inl rfl)) pgs_nil))))
      (pss_one (ps_ret (pe_tup (pa_cons (pe_tup (pa_cons (pv 2) (pa_cons pe_str (pa_cons (pe_tup (pa_cons (pv 3) pa_nil)) (pa_cons (pv 6) pa_nil))))) (pa_cons (pv 7) pa_nil)))))) (pss_nil))
      (pss_cons (ps_if (pt_cmpR op_lt (pv 5) pe_int (nomark _)) (pss_cons (ps_asg (pe_fn (G_law_fold) hr8 (pa_cons (pv 0) (pa_cons (pv 4) pa_nil))) (pg_tup rfl (pgs_cons (pg_name (i := 6) nd rfl (.inl rfl)) (pgs_cons (pg_name (i := 7) nd rfl (.inl rfl)) pgs_nil))))
      (pss_one (ps_ret (pe_tup (pa_cons (pe_tup (pa_cons (pv 2) (pa_cons pe_str (pa_cons (pe_tup (pa_cons (pv 3) pa_nil)) (pa_cons (pv 6) pa_nil))))) (pa_cons (pv 7) pa_nil)))))) (pss_nil))
      (C8.pss_cut (ps_if (pt_cmpR op_eq (pv 5) pe_int (nomark _)) (pss_cons (ps_asg (pe_fn (G_law_join) hr5 (pa_cons (pv 0) (pa_cons (pv 1) (pa_cons (pv 3) pa_nil)))) (pg_tup rfl (pgs_cons (pg_name (i := 8) nd rfl (.inl rfl)) (pgs_cons (pg_name (i := 7) nd rfl (.inl rfl)) pgs_nil))))
      (pss_one (ps_if (pt_cmpR op_notN (pv 8) pe_non (nomark _)) (pss_one (ps_ret (pe_tup (pa_cons (pe_tup (pa_cons (pv 2) (pa_cons pe_str (pa_cons (pe_tup (pa_cons (pv 3) (pa_cons (pe_ix ix_tup (pv 8) pe_int (fun _ _ => rfl)) pa_nil))) (pa_cons (pe_ix ix_tup (pv 8) pe_int (fun _ _ => rfl)) pa_nil))))) (pa_cons (pv 7) pa_nil))))) (pss_nil)))) (pss_nil))
      (C8.pss_cut (ps_if (pt_cmpR op_eq (pv 5) pe_int (nomark _)) (pss_cons (ps_setLc (i := 9) (own := [("other", 10)]) (g := gName 10) (tt := tAnd (tTest (tOp (rEqD K) (tDGet (tVar 1) (tVar 10)) (tVar 4))) (tTest (tOp (rI0 fun i j => V.bl (decide (i ≤ j))) (tOp (rI0 fun i j => V.int (i + j)) (tDGet (tOp (rIxL K) (tVar 0) (tC (V.int 3))) (tVar 3)) (tDGet (tOp (rIxL K) (tVar 0) (tC (V.int 3))) (tVar 10))) (tC (V.int 60))))) rfl nd rfl rfl (sw_true rfl rfl rfl (by decide +kernel)) (pi_list (pe_callB (call_sortedD rfl) (by rfl) m_sorted (by decide +kernel) (pa_cons (pv 1) pa_nil))) (blkOk_by (N := N_law_step) (sc := defScope s_law_step) (by decide +kernel)) (fun _ _ _ _ _ => pg_name (i := 10) nd rfl (Or.inl rfl)) (fun _ _ _ _ _ => pts_one (PW.pt (pw_and (pt_cmpR (op_eqD hu64) (pe_dget hu1 (pv 1) (pv 10) (fun _ _ => rfl)) (pv 4) (nomark _)) (pw_and1 (pt_cmpR op_le (pe_op op_add (pe_dget hu1 (pe_ix (show IxR _ (rIxL K) from ix_list) (pv 0) pe_int (fun _ _ => rfl)) (pv 3) (fun _ _ => rfl)) (pe_dget hu1 (pe_ix (show IxR _ (rIxL K) from ix_list) (pv 0) pe_int (fun _ _ => rfl)) (pv 10) (fun _ _ => rfl))) pe_int (nomark _)))))) (fun _ _ _ _ _ => (pv 10)))
      (pss_one (ps_if (pt_cmpR (op_neD hu64) (pv 9) (pe_lst pa_nil) (nomark _)) (pss_one (ps_ret (pe_tup (pa_cons (pe_tup (pa_cons (pv 2) (pa_cons pe_str (pa_cons (pe_tup (pa_cons (pv 3) (pa_cons (pe_fn (G_law_pick) hr4 (pa_cons (pv 0) (pa_cons (pv 9) pa_nil))) pa_nil))) (pa_cons (pe_tup pa_nil) pa_nil))))) (pa_cons (pv 4) pa_nil))))) (pss_nil)))) (pss_nil))
      (C8.pss_cut (ps_if (pt_cmpR op_eq (pv 5) pe_int (nomark _)) (pss_cons (ps_set (i := 11) nd rfl (.inl rfl) (pe_callTy call_tuple_of (by rfl) m_tuple PyProof.Rows.boot_tuple (pa_cons (pe_slice sl_list (pe_lc (own := [("pair", 8)]) (g := gName 8) (tt := _) (te := tTup (tCons (tOp (rIxT K) (tVar 8) (tC (V.int 0))) (tCons (tCall (spPick K) [] E0 (tCons (tVar 0) (tCons (tTup (tCons (tC (V.str "up")) (tCons (tC (V.str "down")) tNil))) tNil))) tNil))) rfl nd (pi_list (pv 4)) (blkOk_by (N := N_law_step) (sc := defScope s_law_step) (by decide +kernel)) (fun _ _ _ _ _ => pg_name (i := 8) nd rfl (Or.inl rfl)) (fun _ _ _ _ _ => pts_one (pt_cmpR op_eq (pe_fn (G_law_next) hr3 (pa_cons (pv 0) (pa_cons pe_int pa_nil))) pe_int (nomark _))) (fun _ _ _ _ _ => (pe_tup (pa_cons (pe_ix ix_tup (pv 8) pe_int (fun _ _ => rfl)) (pa_cons (pe_fn (G_law_pick) hr4 (pa_cons (pv 0) (pa_cons (pe_tup (pa_cons pe_str (pa_cons pe_str pa_nil))) pa_nil))) pa_nil))))) po_none (po_some pe_int)) pa_nil)))
      (pss_one (ps_if (pt_cmpR (op_neD hu64) (pv 11) (pe_tup pa_nil) (nomark _)) (pss_one (ps_ret (pe_tup (pa_cons (pe_tup (pa_cons (pv 2) (pa_cons pe_str (pa_cons (pe_tup (pa_cons (pv 3) pa_nil)) (pa_cons (pe_tup (pa_cons (pv 11) (pa_cons (pe_op op_add pe_int (pe_fn (G_law_next) hr3 (pa_cons (pv 0) (pa_cons pe_int pa_nil)))) pa_nil))) pa_nil))))) (pa_cons (pv 4) pa_nil))))) (pss_nil)))) (pss_nil))
      (pss_one (ps_ret (pe_tup (pa_cons (pe_tup (pa_cons (pv 2) (pa_cons pe_str (pa_cons (pe_tup (pa_cons (pv 3) pa_nil)) (pa_cons (pe_tup pa_nil) pa_nil))))) (pa_cons (pv 4) pa_nil))))))))))), ?_⟩
  have z1 : 1 ≤ sizeLine := by decide
  have z2 : 2 ≤ sizeLine := by decide
  have z4 : 4 ≤ sizeLine := by decide
  obtain ⟨kvs, eg, lkv, hsz⟩ := KN.sizes
  have ret : ∀ (H' : Hp) (inp f : Addr) (dv : V) (ins : List Str) (det : Det) (cl : List Col) (n' : Int), H' inp = some (.tup (ins.map V.str)) → DetAt H' dv det → Tab H' f cl → StepOk (abs kn) ins det (cl.map (·.2)) → (∀ kvs, H g = some (.dK kvs) → SizeOk kvs ins det.what) → But d H H' → DrawAt H' d s ns [.ref g] n' →
      ∀ st, H' st = none → ∀ r, upd H' st (.tup [.str name, .str det.what, .ref inp, dv]) r = none → Q (.ref r) (upd (upd H' st (.tup [.str name, .str det.what, .ref inp, dv])) r (.tup [.ref st, .ref f])) := fun H' inp f dv ins det cl n' ei xd T O Z b D' st hst r hr => by
    have s1 := same_upd (o := .tup [.str name, .str det.what, .ref inp, dv]) hst
    have s2 := s1.trans (same_upd (o := .tup [.ref st, .ref f]) hr)
    exact q r st f ins det cl n' _ upd_same ⟨inp, dv, same_upd hr _ _ upd_same, s2 _ _ ei, xd.keep (same_t s2) (same_f s2)⟩ (T.keep s2) O Z (b.trans (same_but s2)) (D'.keep s2)
  have one_sz : ∀ {what : Str}, what ≠ "join" → ∀ kvs', H g = some (.dK kvs') → SizeOk kvs' [one] what := fun hw kvs' h => by
    rw [eg] at h
    cases h
    obtain ⟨j, g1, j0, j1⟩ := hsz _ h1
    exact size_one g1 j0 j1 hw
  have kn1 : (one, c1.map (·.2)) ∈ abs kn := abs_mem h1
  have hk : ∀ c ∈ c1, kfN (c1.map (·.2)) c.2.1 = some c.2.2 := fun c hc => kfN_of (by rw [List.map_map]; exact (KN.tabs _ h1).nod) (List.mem_map.mpr ⟨c, hc, rfl⟩)
  -- columns, kind
  refine ⟨_, rfl, _, rfl, kd, _, rfl, KN.get h1, _, rfl, d, s, ns, [.ref g], n, 9, rfl, D, by decide, fun kd0 H1 r0 r1 b1 D1 => ⟨z2, fun t0 ht0 => ⟨t0, _, rfl, SqT.of upd_same, rfl, _, _, rfl, _, _, rfl, rfl, ?_⟩⟩⟩
  dsimp only at D1 ht0 ⊢
  have u0 := same_upd (o := .tup [.ref a1, .int kd0]) ht0
  have b0 : But d H (upd H1 t0 (.tup [.ref a1, .int kd0])) := b1.trans (same_but u0)
  replace D1 := D1.keep u0
  generalize upd H1 t0 (.tup [.ref a1, .int kd0]) = H2 at b0 D1 ⊢
  clear u0 ht0 b1
  have T1 : ∀ {H' : Hp}, But d H H' → Tab H' a1 c1 := fun b => (KN.tabs _ h1).but D b
  -- filter
  refine ⟨_, rfl, _, _, rfl, rfl, _, rfl, ite2 (fun c => ?_) (fun c => ?_)⟩
  · refine ⟨_, rfl, _, rfl, z1, fun inp hinp => ?_⟩
    have s1 := same_upd (o := .tup [.str one]) hinp
    have ei : upd H2 inp (.tup [.str one]) inp = some (.tup [.str one]) := upd_same
    have D2 := D1.keep s1
    have b2 : But d H (upd H2 inp (.tup [.str one])) := b0.trans (same_but s1)
    refine ⟨_, rfl, _, rfl, d, s, a1, c1, kfN (c1.map (·.2)), ns, [.ref g], _, 2, rfl, D2, (T1 b2).cols, hk, by decide, rfl, fun v e n5 H5 ke de xe b5 D5 => ⟨z4, fun st hst => ⟨_, rfl, z2, fun r hr => ?_⟩⟩⟩
    exact ret H5 inp a1 v [one] (.filter e) c1 n5 (b5.tup D2.at_d _ _ ei) xe (T1 (b2.trans b5)) (.filter kn1 ke de) (one_sz (show ("filter" : Str) ≠ "join" by decide +kernel)) (b2.trans b5) D5 st hst r hr
  clear c
  -- map
  refine ⟨_, rfl, rfl, _, rfl, ite2 (fun c => ?_) (fun c => ?_)⟩
  · refine ⟨_, rfl, _, rfl, d, s, a1, .int 0, c1, kfN (c1.map (·.2)), ns, [.ref g], _, rfl, D1, (T1 b0).cols, hk, (KN.tabs _ h1).ne, fun r0 t f0 ms n5 H5 er et ef hms hnd hne hl b5 D5 => ?_⟩
    refine ⟨r0, _, rfl, SqT.of er, rfl, _, _, rfl, _, _, rfl, rfl, ?_⟩
    refine ⟨_, rfl, _, rfl, z1, fun inp hinp => ⟨_, rfl, z4, fun st hst => ⟨_, rfl, z2, fun r hr => ?_⟩⟩⟩
    have s1 := same_upd (o := .tup [.str one]) hinp
    have hms' := fun m hm => (hms m hm).keep (same_t s1)
    refine ret _ inp f0 (.ref t) [one] (.map (ms.map fun m => (m.ex, m.kind, m.name))) (ms.map fun m => (m.col, m.name, m.kind)) n5 upd_same ⟨t, ms.map fun m => (m.det, m.ex, m.kind, m.name), rfl, ?_, fun p hp => ?_, ?_⟩ ⟨⟨?_, fun c hc => ?_, ?_, fun c hc => ?_⟩, ?_, fun c hc => ?_, ?_⟩ ?_ (one_sz (show ("map" : Str) ≠ "join" by decide +kernel)) ((b0.trans b5).trans (same_but s1)) (D5.keep s1) st hst r hr
    · rw [List.map_map]
      exact s1 _ _ et
    · obtain ⟨m, hm, rfl⟩ := List.mem_map.mp hp
      exact ⟨m.told, (hms' m hm).at_det, (hms' m hm).ex⟩
    · rw [List.map_map]
      rfl
    · rw [List.map_map]
      exact s1 _ _ ef
    · obtain ⟨m, hm, rfl⟩ := List.mem_map.mp hc
      exact (hms' m hm).at_col
    · rw [List.length_map]
      omega
    · obtain ⟨m, hm, rfl⟩ := List.mem_map.mp hc
      exact lates_ok _ (hms m hm).nm
    · rw [List.map_map]
      exact hnd
    · obtain ⟨m, hm, rfl⟩ := List.mem_map.mp hc
      exact List.mem_append_right _ (hms m hm).nm
    · exact fun z => hne (List.map_eq_nil_iff.mp z)
    · have := StepOk.map (ms := ms.map fun m => (m.ex, m.kind, m.name)) kn1 (fun m' hm' => by
        obtain ⟨m, hm, rfl⟩ := List.mem_map.mp hm'
        exact ⟨(hms m hm).kd, (hms m hm).dep⟩) (by rw [List.map_map]; exact hnd) (fun z => hne (List.map_eq_nil_iff.mp z)) (by rw [List.length_map]; exact hl)
      rw [List.map_map] at this ⊢
      exact this
  clear c
  -- fold
  refine ⟨_, rfl, _, _, rfl, rfl, _, rfl, ite2 (fun c => ?_) (fun c => ?_)⟩
  · refine ⟨_, rfl, _, rfl, d, s, a1, c1, kfN (c1.map (·.2)), ns, [.ref g], _, rfl, D1, (T1 b0).cols, hk, (KN.tabs _ h1).ne, fun r0 t kt ft f0 ks fs n5 H5 er et ekt eft ef hks hfs hnd hne hl b5 D5 => ?_⟩
    refine ⟨r0, _, rfl, SqT.of er, rfl, _, _, rfl, _, _, rfl, rfl, ?_⟩
    refine ⟨_, rfl, _, rfl, z1, fun inp hinp => ⟨_, rfl, z4, fun st hst => ⟨_, rfl, z2, fun r hr => ?_⟩⟩⟩
    have s1 := same_upd (o := .tup [.str one]) hinp
    have hfs' := fun m hm => (hfs m hm).keep (same_t s1)
    have C6 := (T1 (b0.trans b5)).keep s1
    have lk : ks.length ≤ 24 := by
      have h2 := few_names (l := ks.map fun c => c.2.1) (List.nodup_append.mp hnd).1 fun x hx => by
        obtain ⟨c, hc, rfl⟩ := List.mem_map.mp hx
        exact C6.inn c (hks c hc)
      rw [List.length_map] at h2
      exact h2
    refine ret _ inp f0 (.ref t) [one] (.fold (ks.map (·.2)) (fs.map fun m => (m.op, m.ex, m.kind, m.name))) (ks ++ fs.map fun m => (m.col, m.name, lateK m.op m.kind)) n5 upd_same ⟨t, kt, ft, fs.map fun m => (m.det, m.op, m.ex, m.kind, m.name), rfl, s1 _ _ et, ?_, ?_, fun p hp => ?_, ?_⟩ ⟨⟨?_, fun c hc => ?_, ?_, fun c hc => ?_⟩, ?_, fun c hc => ?_, ?_⟩ ?_ (one_sz (show ("fold" : Str) ≠ "join" by decide +kernel)) ((b0.trans b5).trans (same_but s1)) (D5.keep s1) st hst r hr
    · rw [List.map_map]
      exact s1 _ _ ekt
    · rw [List.map_map]
      exact s1 _ _ eft
    · obtain ⟨m, hm, rfl⟩ := List.mem_map.mp hp
      refine ⟨m.told, (hfs' m hm).at_det, ?_⟩
      have tt := (hfs' m hm).told
      show FTo _ m.told m.ex
      cases hx : m.ex with
      | none =>
        rw [hx] at tt
        exact tt.2.1
      | some e =>
        rw [hx] at tt
        exact tt.2.1
    · rw [List.map_map]
      rfl
    · rw [List.map_append, List.map_map]
      exact s1 _ _ ef
    · rcases List.mem_append.mp hc with hc | hc
      · exact C6.cols.each c (hks c hc)
      · obtain ⟨m, hm, rfl⟩ := List.mem_map.mp hc
        exact (hfs' m hm).at_col
    · rw [List.length_append, List.length_map]
      omega
    · rcases List.mem_append.mp hc with hc | hc
      · exact C6.cols.ok c (hks c hc)
      · obtain ⟨m, hm, rfl⟩ := List.mem_map.mp hc
        exact all_ok _ (fn_all _ (hfs m hm).nm)
    · rw [List.map_append, List.map_map]
      exact hnd
    · rcases List.mem_append.mp hc with hc | hc
      · exact C6.inn c (hks c hc)
      · obtain ⟨m, hm, rfl⟩ := List.mem_map.mp hc
        exact fn_all _ (hfs m hm).nm
    · exact fun z => hne (List.map_eq_nil_iff.mp (List.append_eq_nil_iff.mp z).2)
    · have := StepOk.fold (ks := ks.map (·.2)) (fs := fs.map fun m => (m.op, m.ex, m.kind, m.name)) kn1 (fun k hk' => by
        obtain ⟨c, hc, rfl⟩ := List.mem_map.mp hk'
        exact List.mem_map.mpr ⟨c, hks c hc, rfl⟩) (fun m' hm' => by
        obtain ⟨m, hm, rfl⟩ := List.mem_map.mp hm'
        refine ⟨(hfs m hm).op, ?_⟩
        have tt := (hfs m hm).told
        dsimp only
        cases hx : m.ex with
        | none =>
          rw [hx] at tt
          exact ⟨tt.1, tt.2.2⟩
        | some e =>
          rw [hx] at tt
          exact ⟨tt.1, tt.2.2⟩) (by rw [List.map_map, List.map_map]; exact hnd) (fun z => hne (List.map_eq_nil_iff.mp z)) (by rw [List.length_map]; exact hl)
      rw [List.map_map] at this
      rw [List.map_append, List.map_map]
      exact this
  clear c
  -- join
  let Mid : L2.St → Hp → Prop := fun σ H' => ∃ y6 y7 y8 y9 y10 y11 n', σ = [some (.ref d), some (.ref kd), some (.str name), some (.str one), some (.ref a1), some (.int kd0), y6, y7, y8, y9, y10, y11] ∧ But d H H' ∧ DrawAt H' d s ns [.ref g] n'
  refine ⟨Mid, ?_, ?_⟩
  · refine ⟨_, rfl, rfl, _, rfl, ite2 (fun c => ?_) (fun c => ⟨_, _, _, _, _, _, _, rfl, b0, D1⟩)⟩
    refine ⟨_, rfl, _, rfl, _, rfl, d, s, kd, g, kn, one, a1, c1, ns, _, rfl, D1, KN.but D b0, h1, fun r0 n5 H5 er b5 D5 => ?_, fun r0 t kt f0 a2 other c2 ks cl n5 H5 er et ek ho T hne hks hcl hsz' b5 D5 => ?_⟩
    · refine ⟨r0, _, rfl, SqT.of er, rfl, _, _, rfl, _, _, rfl, rfl, ?_⟩
      refine ⟨_, rfl, rfl, _, rfl, ?_⟩
      exact ⟨_, _, _, _, _, _, _, rfl, b0.trans b5, D5⟩
    · refine ⟨r0, _, rfl, SqT.of er, rfl, _, _, rfl, _, _, rfl, rfl, ?_⟩
      refine ⟨_, rfl, rfl, _, rfl, ?_⟩
      refine iteT ?_
      refine ⟨_, rfl, _, rfl, _, rfl, t, _, 0, _, rfl, rfl, SqT.of et, rfl, z2, fun inp hinp => ?_⟩
      have s1 := same_upd (o := .tup [.str one, .str other]) hinp
      refine ⟨_, rfl, t, _, 1, _, rfl, rfl, SqT.of (s1 _ _ et), rfl, z4, fun st hst => ⟨_, rfl, z2, fun r hr => ?_⟩⟩
      refine ret _ inp f0 (.ref kt) [one, other] (.join (ks.map (·.2))) cl n5 upd_same ⟨kt, rfl, by rw [List.map_map]; exact s1 _ _ ek⟩ (T.keep s1) ?_ (fun kvs' hg => ?_) ((b0.trans b5).trans (same_but s1)) (D5.keep s1) st hst r hr
      · rw [hcl]
        refine .join kn1 (abs_mem ho) (fun z => hne (List.map_eq_nil_iff.mp z)) (fun k hk' => ?_) ?_
        · obtain ⟨c, hc, rfl⟩ := List.mem_map.mp hk'
          exact ⟨List.mem_map.mpr ⟨c, (hks c hc).1, rfl⟩, (hks c hc).2⟩
        · rw [← hcl, List.map_map]
          exact T.nod
      · rw [eg] at hg
        cases hg
        obtain ⟨j1, g1, j10, j11⟩ := hsz _ h1
        obtain ⟨j2, g2, j20, j21⟩ := hsz _ ho
        refine size_two g1 g2 j10 j11 j20 j21 (fun _ => ?_) (fun z => absurd rfl z)
        exact hsz' kvs j1 j2 (b0 _ _ (fun z => by rw [z, D.at_d] at eg; cases eg) eg) g1 g2
  clear b0 D1
  rintro σ H3 ⟨y6, y7, y8, y9, y10, y11, n3, rfl, b0, D1⟩
  -- union
  refine ⟨Mid, ?_, ?_⟩
  · refine ⟨_, rfl, rfl, _, rfl, ite2 (fun c => ?_) (fun c => ⟨_, _, _, _, _, _, _, rfl, b0, D1⟩)⟩
    have KN3 := KN.but D b0
    refine ⟨_, rfl, kd, _, kn.map (·.1), rfl, .inl KN3.at_k, (by rw [List.map_map, List.map_map]; rfl), (by rw [List.length_map]; have := KN.few; omega), fun ys p pm _ hp => ?_⟩
    have sp := same_upd (o := .lst (ys.map V.str)) hp
    have ep : upd H3 p (.lst (ys.map V.str)) p = some (.lst (ys.map V.str)) := upd_same
    have ly : ys.length ≤ 40 := by
      rw [pm.length_eq, List.length_map]
      exact KN.few
    refine ⟨p, rfl, ⟨_, SqL.of ep⟩, fun D9 hD9 => ?_⟩
    have KN4 := KN3.keep sp
    have D4 := D1.keep sp
    have b4 : But d H (upd H3 p (.lst (ys.map V.str))) := b0.trans (same_but sp)
    generalize upd H3 p (.lst (ys.map V.str)) = H4 at ep KN4 D4 b4 hD9 ⊢
    have g3 : ∀ {H' : Hp}, But d H H' → H' g = some (.dK kvs) := fun b => b _ _ (fun z => by rw [z, D.at_d] at eg; cases eg) eg
    refine lc_list (K := K) (a := p) (xs := ys.map V.str) (fun i H' => Same H4 H' ∧ ∃ os : List Str, H' D9 = some (.lst (os.map V.str)) ∧ os.length ≤ i ∧ ∀ o ∈ os, ∃ a2 c2 j1 j2, (o, a2, c2) ∈ kn ∧ c2.map (·.2) = c1.map (·.2) ∧ valV kvs (.inr one) = some (.int j1) ∧ valV kvs (.inr o) = some (.int j2) ∧ 0 ≤ j1 ∧ 0 ≤ j2 ∧ j1 + j2 ≤ 60) ⟨same_upd hD9, [], upd_same, Nat.le_refl _, fun o ho => absurd ho List.not_mem_nil⟩ (fun i H' _ h => SqL.of (h.1 _ _ ep)) ?_ ?_
    · rintro i x H' hx ⟨sm, os, e9, lo, hos⟩
      rw [List.getElem?_map] at hx
      obtain ⟨o, ho, rfl⟩ := Option.map_eq_some_iff.mp hx
      have hi : i < ys.length := (List.getElem?_eq_some_iff.mp ho).1
      obtain ⟨e2, he2, rfl⟩ := List.mem_map.mp (pm.mem_iff.mp (List.mem_of_getElem? ho))
      have KN5 := KN4.keep sm
      have T2 := KN5.tabs _ he2
      have T1' := KN5.tabs _ h1
      obtain ⟨j1, g1, j10, j11⟩ := hsz _ h1
      obtain ⟨j2, g2, j20, j21⟩ := hsz _ he2
      have ok2 : ∀ {a : Addr} {c : List Col}, Tab H' a c → ∀ z ∈ c.map (·.2), PyData.canLay0 (.str z.1) = true := fun T z hz => by
        obtain ⟨c, hc, rfl⟩ := List.mem_map.mp hz
        exact T.cols.ok c hc
      refine ⟨rfl, ?_⟩
      refine ⟨_, rfl, _, rfl, kd, _, rfl, KN5.get he2, _, rfl, _, _, cols_dp T2.cols.all T2.cols.each, cols_dp T1'.cols.all T1'.cols.each, colsD_sh (ok2 T2), colsD_sh (ok2 T1'), _, rfl, ?_⟩
      rw [colsD_eqv]
      refine ite2 (fun ce => ?_) (fun ce => ⟨sm, os, e9, Nat.le_succ_of_le lo, hos⟩)
      have eg5 := g3 (b4.trans (same_but (d := d) sm))
      have D5 := D4.keep sm
      have gt1 : DGet H' g (.str one) (some (.int j1)) := g1 ▸ DGet.k (k := .inr one) eg5
      have gt2 : DGet H' g (.str e2.1) (some (.int j2)) := g2 ▸ DGet.k (k := .inr e2.1) eg5
      refine ⟨_, rfl, d, _, 3, _, rfl, rfl, SqL.of D5.at_d, at3, _, rfl, g, _, rfl, gt1, _, rfl, d, _, 3, _, rfl, rfl, SqL.of D5.at_d, at3, _, rfl, g, _, rfl, gt2, _, _, rfl, rfl, _, _, rfl, rfl, _, rfl, ite2 (fun cs => ?_) (fun cs => ⟨sm, os, e9, Nat.le_succ_of_le lo, hos⟩)⟩
      refine ⟨_, rfl, _, e9, Nat.lt_of_le_of_lt (show _ ≤ 40 by rw [List.length_map]; omega) (by decide), fun b o' e' => ?_, os ++ [e2.1], ?_, ?_, fun o ho' => ?_⟩
      · rw [upd_ne (ne_of_none e' hD9)]
        exact sm _ _ e'
      · rw [upd_same, List.map_append]
        rfl
      · rw [List.length_append]
        exact Nat.succ_le_succ lo
      · rcases List.mem_append.mp ho' with ho' | ho'
        · exact hos o ho'
        · rw [List.mem_singleton.mp ho']
          exact ⟨e2.2.1, e2.2.2, j1, j2, he2, of_decide_eq_true ce, g1, g2, j10, j20, of_decide_eq_true cs⟩
    rintro H5 ⟨s5, os, e9, lo, hos⟩
    rw [List.length_map] at lo
    have b5 := b4.trans (same_but (d := d) s5)
    have D5 := D4.keep s5
    have n9 : D9 ≠ d := (ne_of_none D4.at_d hD9).symm
    have okos : ∀ x ∈ os, PyData.canLay0 (.str x) = true := fun x hx => by
      obtain ⟨a2, c2, _, _, h2, _⟩ := hos x hx
      exact KN.nms _ h2
    refine ⟨_, rfl, Nat.zero_le _, fun p0 hp0 => ?_⟩
    have s6 := same_upd (o := .lst []) hp0
    refine ⟨_, _, .lst (SqL.of (s6 _ _ e9)) (dpa_strs os), .lst (SqL.of upd_same) .nil, strs_shaped okos, by decide, _, rfl, ite2 (fun cn => ?_) (fun cn => ⟨_, _, _, _, _, _, _, rfl, b5.trans (same_but s6), D5.keep s6⟩)⟩
    have hne := strs_ne cn
    have b6 := b5.trans (same_but (d := d) s6)
    have D6 := D5.keep s6
    refine ⟨_, rfl, _, rfl, _, rfl, _, rfl, d, s, D9, ns, [.ref g], _, os.map V.str, rfl, D6, n9, .inl (SqL.of (s6 _ _ e9)), hne, fun v H8 hv b8 D8 => ?_⟩
    obtain ⟨o, ho, rfl⟩ := mem_strs hv
    obtain ⟨a2, c2, j1, j2, h2, ec, g1, g2, j10, j20, j12⟩ := hos o ho
    refine ⟨z2, fun inp hinp => ⟨Nat.zero_le _, fun et het => ⟨z4, fun st hst => ⟨_, rfl, z2, fun r hr => ?_⟩⟩⟩⟩
    have s1 := (same_upd (o := .tup [.str one, .str o]) hinp).trans (same_upd (o := .tup []) het)
    refine ret _ inp a1 (.ref et) [one, o] .union c1 _ (same_upd het _ _ upd_same) ⟨et, rfl, upd_same⟩ ((T1 (b6.trans b8)).keep s1) ?_ (fun kvs' hg => ?_) ((b6.trans b8).trans (same_but s1)) (D8.keep s1) st hst r hr
    · exact .union kn1 (ec ▸ abs_mem h2)
    · rw [eg] at hg
      cases hg
      exact size_two g1 g2 j10 (by omega) j20 (by omega) (fun z => absurd z (by decide +kernel)) (fun _ => by omega)
  clear b0 D1 y6 y7 y8 y9 y10 y11 n3
  rintro σ H3 ⟨y6, y7, y8, y9, y10, y11, n3, rfl, b0, D1⟩
  -- sort
  refine ⟨Mid, ?_, ?_⟩
  · refine ⟨_, rfl, rfl, _, rfl, ite2 (fun c => ?_) (fun c => ⟨_, _, _, _, _, _, _, rfl, b0, D1⟩)⟩
    have TT := T1 b0
    refine ⟨_, rfl, a1, rfl, ⟨_, SqL.of TT.cols.all⟩, fun D9 hD9 => ?_⟩
    have n9 : D9 ≠ d := (ne_of_none D1.at_d hD9).symm
    refine lc_list (K := K) (a := a1) (xs := c1.map fun c => .ref c.1) (fun i H' => ∃ n' as, DrawAt H' d s ns [.ref g] n' ∧ But d H3 H' ∧ WaysAt H' c1 as ∧ H' D9 = some (.lst (as.map fun p => .ref p.1)) ∧ as.length ≤ i) ⟨_, [], D1.keep (same_upd hD9), same_but (same_upd hD9), fun p hp => absurd hp List.not_mem_nil, upd_same, Nat.le_refl _⟩ (fun i H' _ h => ?_) ?_ ?_
    · obtain ⟨n', as, D', b', _⟩ := h
      exact SqL.of (TT.cols.but D1 b').all
    · rintro i x H' hx ⟨n', as, D', b', W, e', le⟩
      rw [List.getElem?_map] at hx
      obtain ⟨c, hc, rfl⟩ := Option.map_eq_some_iff.mp hx
      have hi : i < c1.length := (List.getElem?_eq_some_iff.mp hc).1
      have cm := List.mem_of_getElem? hc
      refine ⟨rfl, _, rfl, d, s, ns, [.ref g], _, 2, rfl, D', by decide, fun r H4 r0 r1 b3 D4 => ⟨rfl, _, rfl, ite2 (fun cc => ?_) (fun cc => ?_)⟩⟩
      · have e4 := b3 _ _ n9 e'
        have W4 := W.keep (b3.tup D'.at_d)
        have c4 := (TT.cols.but D1 (b'.trans b3)).each c cm
        refine ⟨_, rfl, c.1, _, 0, _, rfl, rfl, SqT.of c4, rfl, _, rfl, z2, fun ut hut => ?_⟩
        have s5 := same_upd (o := .tup [.str "up", .str "down"]) hut
        refine ⟨d, s, ut, ns, [.ref g], _, [.str "up", .str "down"], rfl, D4.keep s5, (ne_of_none D4.at_d hut).symm, .inr (SqT.of upd_same), (by intro z; cases z), fun v H6 hv b6 D6 => ⟨z2, fun t ht => ?_⟩⟩
        obtain ⟨wy, hw, rfl⟩ := mem_strs (l := ["up", "down"]) hv
        have s7 := same_upd (o := .tup [.str c.2.1, .str wy]) ht
        have e7 := s7 _ _ (b6 _ _ n9 (s5 _ _ e4))
        have b37 : But d H3 (upd H6 t (.tup [.str c.2.1, .str wy])) := (((b'.trans b3).trans (same_but s5)).trans b6).trans (same_but s7)
        have W7 := ((W4.keep (same_t s5)).keep (b6.tup (D4.keep s5).at_d)).keep (same_t s7)
        have D7 := D6.keep s7
        refine ⟨_, e7, ?_, n' + 1 + 1, as ++ [(t, c.2.1, wy)], ?_, ?_, ?_, ?_, ?_⟩
        · rw [List.length_map]
          have := TT.few
          exact Nat.lt_of_le_of_lt (show as.length ≤ 24 by omega) (by decide)
        · exact ⟨by rw [upd_ne n9.symm]; exact D7.at_d, by rw [upd_ne (ne_of_none D1.at_s hD9)]; exact D7.at_s, D7.n0⟩
        · exact fun b o hb e => by
            rw [upd_ne (ne_of_none e hD9)]
            exact b37 _ _ hb e
        · have kt : KeepT (upd H6 t (.tup [.str c.2.1, .str wy])) (upd (upd H6 t (.tup [.str c.2.1, .str wy])) D9 (.lst ((as.map fun p => .ref p.1) ++ [.ref t]))) := fun a xs e => by
            rw [upd_ne (fun z => by rw [z, e7] at e; cases e)]
            exact e
          intro p hp
          rcases List.mem_append.mp hp with hp | hp
          · exact W7.keep kt p hp
          · rw [List.mem_singleton.mp hp]
            refine ⟨kt _ _ upd_same, ⟨c.2.2, List.mem_map.mpr ⟨c, cm, rfl⟩⟩, ?_, TT.cols.ok c cm⟩
            rcases List.mem_cons.mp hw with rfl | hw
            · exact .inl rfl
            · exact .inr (List.mem_singleton.mp hw)
        · rw [upd_same, List.map_append]
          rfl
        · rw [List.length_append]
          exact Nat.succ_le_succ le
      · exact ⟨_, as, D4, b'.trans b3, W.keep (b3.tup D'.at_d), b3 _ _ n9 e', Nat.le_succ_of_le le⟩
    rintro H5 ⟨n5, as0, D5, b5, W5, e5, _⟩
    refine ⟨_, rfl, D9, _, rfl, SqL.of e5, fun p hp => ?_⟩
    rw [cut_2, ← List.map_take]
    obtain ⟨as, eas⟩ : ∃ as, as = as0.take 2 := ⟨_, rfl⟩
    rw [← eas]
    have las : as.length ≤ 2 := by
      rw [eas, List.length_take]
      omega
    have W6 : WaysAt H5 c1 as := fun p hp => W5 p (by rw [eas] at hp; exact List.mem_of_mem_take hp)
    refine ⟨p, _, rfl, .inl ⟨SqL.of upd_same, fun wt hwt => ?_⟩⟩
    have s6 := (same_upd (o := .lst (as.map fun p => .ref p.1)) hp).trans (same_upd (o := .tup (as.map fun p => .ref p.1)) hwt)
    have ew : upd (upd H5 p (.lst (as.map fun p => .ref p.1))) wt (.tup (as.map fun p => .ref p.1)) wt = some (.tup (as.map fun p => .ref p.1)) := upd_same
    replace W6 := W6.keep (same_t s6)
    have D6 := D5.keep s6
    have b6 := (b0.trans b5).trans (same_but (d := d) s6)
    generalize upd (upd H5 p (.lst (as.map fun p => .ref p.1))) wt (.tup (as.map fun p => .ref p.1)) = H6 at ew W6 D6 b6 ⊢
    refine ⟨_, rfl, Nat.zero_le _, fun p0 hp0 => ?_⟩
    have s7 := same_upd (o := .tup []) hp0
    refine ⟨_, _, .tup (SqT.of (s7 _ _ ew)) (ways_dp (W6.keep (same_t s7))), .tup (SqT.of upd_same) .nil, ways_sh W6, by decide, _, rfl, ite2 (fun cn => ?_) (fun cn => ⟨_, _, _, _, _, _, _, rfl, b6.trans (same_but s7), D6.keep s7⟩)⟩
    have hne : as ≠ [] := fun z => by
      rw [z] at cn
      cases cn
    refine ⟨_, rfl, _, rfl, z1, fun inp hinp => ?_⟩
    have s8 := s7.trans (same_upd (o := .tup [.str one]) hinp)
    have ei : upd (upd H6 p0 (.tup [])) inp (.tup [.str one]) inp = some (.tup [.str one]) := upd_same
    refine ⟨_, rfl, _, rfl, d, s, ns, [.ref g], _, 5, rfl, D6.keep s8, by decide, fun m H8 m0 m1 b8 D8 => ⟨_, _, rfl, rfl, z2, fun t ht => ⟨z4, fun st hst => ⟨_, rfl, z2, fun r hr => ?_⟩⟩⟩⟩
    have s9 := same_upd (o := .tup [.ref wt, .int (1 + m)]) ht
    have kt := b8.tup (D6.keep s8).at_d
    have W9 := ((W6.keep (same_t s8)).keep kt).keep (same_t s9)
    refine ret _ inp a1 (.ref t) [one] (.sort (as.map (·.2)) (1 + m)) c1 _ (s9 _ _ (kt _ _ ei)) ⟨t, wt, as, rfl, upd_same, s9 _ _ (kt _ _ (s8 _ _ ew)), fun p hp => (W9 p hp).1, rfl⟩ ((T1 ((b6.trans (same_but s8)).trans b8)).keep s9) ?_ (one_sz (show ("sort" : Str) ≠ "join" by decide +kernel)) (((b6.trans (same_but s8)).trans b8).trans (same_but s9)) (D8.keep s9) st hst r hr
    exact .sort kn1 (fun z => hne (List.map_eq_nil_iff.mp z)) (fun x hx => by
      obtain ⟨p, hp, rfl⟩ := List.mem_map.mp hx
      exact ⟨(W9 p hp).2.1, (W9 p hp).2.2.1⟩) (by rw [List.length_map]; exact las) (by omega) (by omega)
  clear b0 D1 y6 y7 y8 y9 y10 y11 n3
  rintro σ H3 ⟨y6, y7, y8, y9, y10, y11, n3, rfl, b0, D1⟩
  -- unlike
  refine ⟨_, rfl, _, rfl, z1, fun inp hinp => ⟨Nat.zero_le _, fun et het => ⟨z4, fun st hst => ⟨_, rfl, z2, fun r hr => ?_⟩⟩⟩⟩
  have s1 := (same_upd (o := .tup [.str one]) hinp).trans (same_upd (o := .tup []) het)
  exact ret _ inp a1 (.ref et) [one] .unlike c1 _ (same_upd het _ _ upd_same) ⟨et, rfl, upd_same⟩ ((T1 b0).keep s1) (.unlike kn1) (one_sz (show ("unlike" : Str) ≠ "join" by decide +kernel)) (b0.trans (same_but s1)) (D1.keep s1) st hst r hr
end
end Kj

namespace Kj
open PySem PySem.Spec PyProof.Rows L2 Kx
section
variable {X : Cx}
/-- the pairs (a text, a value) that stand at these addresses -/
theorem prs_of {pins : List (Addr × Obj)} {σ : L2.St} {H : Hp} {s : Shared} (I : Inv X pins σ H s) : ∀ {ps : List Addr} {kvs : List (Str × V)}, Paired (fun p kv => SqT X.K H p [.str kv.1, kv.2]) ps kvs →
    ∃ prs : List (Value × Value), prs.length = ps.length ∧ kvs.length = ps.length ∧ (∀ (j : Nat) (u v : Value), prs[j]? = some (u, v) → ∃ b, ps[j]? = some b ∧ s.heap.IsTuple b #[u, v]) ∧ ∃ rs : List (L2.Key × Value), L2.KV (kvs.map fun kv => ((.inr kv.1 : L2.Key), kv.2)) rs ∧ rs.length = ps.length ∧ ∀ (j : Nat) (u v : Value), prs[j]? = some (u, v) → ∃ k, rs[j]? = some (k, v) ∧ (mixKind X.prog X.w).is k u = true
  | _, _, .nil => ⟨[], rfl, rfl, fun j u v e => by simp at e, [], .nil, rfl, fun j u v e => by simp at e⟩
  | _, _, .cons (a := p) (b := kv) h t => by
    obtain ⟨prs, l1, l2, hp, rs, hr, l3, hk⟩ := prs_of I t
    obtain ⟨its, rv, pt, _⟩ := I.tuple h
    cases rv with
    | cons r1 rv =>
      cases rv with
      | cons r2 rv =>
        cases rv
        rename_i u1 u2
        refine ⟨(u1, u2) :: prs, by rw [List.length_cons, List.length_cons, l1], by rw [List.length_cons, List.length_cons, l2], fun j u v e => ?_, (.inr kv.1, u2) :: rs, .cons ⟨rfl, r2⟩ hr, by rw [List.length_cons, List.length_cons, l3], fun j u v e => ?_⟩
        · cases j with
          | zero =>
            cases e
            exact ⟨p, rfl, pt⟩
          | succ j => exact hp j u v e
        · cases j with
          | zero =>
            cases e
            exact ⟨.inr kv.1, rfl, (Yk.rel_plain (k := .inr kv.1) r1).2 ▸ Yk.plain_is (Yk.rel_plain (k := .inr kv.1) r1).1⟩
          | succ j => exact hk j u v e
/-- dict(t) of such a tuple of pairs whose keys are texts -/
def rDictT (K : PySem.W.Frag) : List V → Hp → VK → Prop := fun vs H Q => ∃ (a : Addr) (ps : List Addr) (kvs : List (Str × V)), vs = [.ref a] ∧ TupF H a (ps.map V.ref) ∧ Paired (fun p kv => SqT K H p [.str kv.1, kv.2]) ps kvs ∧ ∀ p, H p = none → Q (.ref p) (upd H p (.dK (mergeK [] (kvs.map fun kv => ((.inr kv.1 : L2.Key), kv.2)))))
theorem cr_dictT (hc : X.calm = true) : CallR X (.type "dict") (rDictT X.K) := by
  intro pins s σ H vs us Q I r h
  obtain ⟨a, ps, kvs, rfl, hq, hp, q⟩ := h
  rw [Vals.ref1 r]
  obtain ⟨its, rv, pl, hz⟩ := I.tuple (hq.sq (K := X.K))
  have ei := refs_at rv
  subst ei
  rw [List.length_map] at hz
  obtain ⟨prs, l1, l2, hpr, rs, hr, l3, hk⟩ := prs_of I hp
  have pa : PlainSeq "tuple" s.heap a (ps.map Value.ref).toArray := by
    obtain ⟨o, hd, e⟩ := hq
    have ho := (I.hok a _ e).1
    obtain ⟨o', ho', hc', n, hdat⟩ := pl
    rw [ho] at ho'
    cases ho'
    exact ⟨o, n, ho, hc', hd, hdat⟩
  have items : PairItems s.heap (ps.map Value.ref).toArray (fun j => ps.getD j 0) prs := ⟨by simp [l1], fun j u v e => by
    obtain ⟨b, eb, ht⟩ := hpr j u v e
    have e0 : ps.getD j 0 = b := by simp [List.getD, eb]
    dsimp only
    rw [e0]
    exact ⟨by simp [eb], .inl ht⟩⟩
  refine PySem.call_dict_pairs (knd := mixKind X.prog X.w) (kvs := rs) (PairArg.tuple (prog := X.prog) (w := X.w) a (ps.map Value.ref).toArray (fun j => ps.getD j 0) prs) (I.ok.hd hc) ⟨pa, items⟩ ⟨by rw [l3, l1], fun j u v e => hk j u v e⟩ (by rw [l1]; exact hz) fun h' tk hd' k => ?_
  have hm : (s.heap.objs.size == sysModules) = false := beq_eq_false_iff_ne.mpr (Nat.ne_of_gt I.big)
  have hlen : (mergeK [] (kvs.map fun kv => ((.inr kv.1 : L2.Key), kv.2))).length ≤ sizeLine := by
    refine Nat.le_trans (length_mergeK _ []) ?_
    rw [List.length_nil, Nat.zero_add, List.length_map, l2]
    exact hz
  exact ⟨.ref s.heap.objs.size, upd H s.heap.objs.size (.dK (mergeK [] (kvs.map fun kv => ((.inr kv.1 : L2.Key), kv.2)))), I.laid (t' := tk) (fun b o e => k b o (by simp) e) (Nat.le_refl _) (show ObjOk X.prog X.w _ _ _ (.dK (mergeK [] (kvs.map fun kv => ((.inr kv.1 : L2.Key), kv.2)))) from ⟨hlen, hm, merged [] rs, KV.merge hr .nil, hd'⟩), rfl, q _ (I.hok.fresh (Nat.le_refl _))⟩
/-- a tuple display, the tuple known to have no dict of its own -/
def tTupF (t : TA) : TE := fun σ H Q => t σ H fun xs H1 => xs.length ≤ sizeLine ∧ ∀ (p : Addr) (o : Obj), H1 p = none → o.dict = none → Q (.ref p) (upd H1 p (.frz o (.tup xs)))
theorem pe_tupF {es : List Expr} {t : TA} {k : Nat} {pos : Pos} (h : PA X es t) : PE X (.Tuple es k pos) (tTupF t) := by
  constructor
  intro pins s σ H Q I hq
  refine wpAny_Tuple_spliced (thn (h.run pos pins s σ H _ I hq) ?_)
  rintro us s1 ⟨xs, H1, I1, r, z, q⟩
  have fr := I1.hok.fresh (Nat.le_refl s1.heap.objs.size)
  refine ⟨r.length ▸ z, ?_⟩
  have ob : ObjOk X.prog X.w (upd H1 s1.heap.objs.size (.frz { cls := .type "tuple", data := .seq us.toArray } (.tup xs))) (s1.heap.push { cls := .type "tuple", data := .seq us.toArray }) s1.heap.objs.size (.frz { cls := .type "tuple", data := .seq us.toArray } (.tup xs)) :=
    ⟨Heap.get?_push_size _ rfl, z, us, r, _, Heap.get?_push_size _ rfl, rfl, _, rfl⟩
  exact ⟨.ref s1.heap.objs.size, _, I1.laid (t' := s1.toks) (fun b u e => Heap.get?_push_of_some _ e) (Nat.le_refl _) ob, rfl, q _ { cls := .type "tuple", data := .seq us.toArray } fr rfl⟩
/-- tuple(xs): of a list a new tuple that has no dict of its own, of a tuple itself -/
def rTupleF (K : PySem.W.Frag) : List V → Hp → VK → Prop := fun xs H Q => ∃ p ys, xs = [.ref p] ∧ ((SqL K H p ys ∧ ∀ (l : Addr) (o : Obj), H l = none → o.dict = none → Q (.ref l) (upd H l (.frz o (.tup ys)))) ∨ (SqT K H p ys ∧ Q (.ref p) H))
theorem cr_tupleF : CallR X (.type "tuple") (rTupleF X.K) := by
  intro pins s σ H xs us Q I r h
  obtain ⟨p, ys, rfl, h⟩ := h
  rw [Vals.ref1 r]
  rcases h with ⟨hl, q⟩ | ⟨ht, q⟩
  · obtain ⟨its, rv, pl, hz⟩ := I.list hl
    have hlen := rv.length
    refine call_tuple_list pl.isList (fun h' kp => ?_) (by rw [List.size_toArray]; omega)
    have I1 : Inv X pins σ H { s with heap := h' } := I.kept (t' := s.toks) kp
    have fr := I1.hok.fresh (Nat.le_refl h'.objs.size)
    have ob : ObjOk X.prog X.w (upd H h'.objs.size (.frz { cls := .type "tuple", data := .seq its.toArray } (.tup ys))) (h'.push { cls := .type "tuple", data := .seq its.toArray }) h'.objs.size (.frz { cls := .type "tuple", data := .seq its.toArray } (.tup ys)) :=
      ⟨Heap.get?_push_size _ rfl, hz, its, rv, IsTup.new _ _⟩
    exact ⟨.ref h'.objs.size, _, I1.laid (t' := s.toks) (fun b o e => Heap.get?_push_of_some _ e) (Nat.le_refl _) ob, rfl, q _ { cls := .type "tuple", data := .seq its.toArray } fr rfl⟩
  · obtain ⟨its, rv, pl, _⟩ := I.tuple ht
    exact call_tuple_same pl ⟨.ref p, H, I, rfl, q⟩
end
end Kj

set_option maxHeartbeats 8000000
namespace Kj
open PySem PySem.Spec PyProof.Rows L2 Kx
abbrev s_law_job : Stmt := topS 69
def stepNms : List Str := ["a", "b", "s0", "s1", "s2", "s3", "s4", "s5", "s6", "s7"]
theorem s_name {i : Nat} (h : i < 8) : stepNms.take (i + 2) ++ [("s" : Str) ++ Str.ofString (toString ((0 : Int) + (i : Nat)))] = stepNms.take (i + 3) ∧ ("s" : Str) ++ Str.ofString (toString ((0 : Int) + (i : Nat))) ∉ stepNms.take (i + 2) ∧
    ("s" : Str).length + (Str.ofString (toString ((0 : Int) + (i : Nat)))).length ≤ sizeLine ∧ PyData.canLay0 (.str (("s" : Str) ++ Str.ofString (toString ((0 : Int) + (i : Nat))))) = true := by
  match i, h with
  | 0, _ => decide +kernel
  | 1, _ => decide +kernel
  | 2, _ => decide +kernel
  | 3, _ => decide +kernel
  | 4, _ => decide +kernel
  | 5, _ => decide +kernel
  | 6, _ => decide +kernel
  | 7, _ => decide +kernel
theorem log_num8 {i : Nat} (h : i < 8) : ((0 : Int) + (i : Nat)).natAbs.log2 < 1920 := by
  match i, h with
  | 0, _ => decide +kernel
  | 1, _ => decide +kernel
  | 2, _ => decide +kernel
  | 3, _ => decide +kernel
  | 4, _ => decide +kernel
  | 5, _ => decide +kernel
  | 6, _ => decide +kernel
  | 7, _ => decide +kernel
def colsA : List NC := [("k", true), ("t", false), ("n", true)]
def colsB : List NC := [("k", true), ("m", true)]
/-- a drawn job: its steps, and the columns of each -/
inductive JobOk : List Stp → List (Str × List NC) → Prop where
  | base : JobOk [⟨"a", [], .read colsA⟩, ⟨"b", [], .read colsB⟩] [("a", colsA), ("b", colsB)]
  | step {ss : List Stp} {kn : List (Str × List NC)} {nm : Str} {ins : List Str} {det : Det} {cs : List NC} (h : JobOk ss kn) (n : nm ∉ kn.map (·.1)) (k : StepOk kn ins det cs) (nd : (cs.map (·.1)).Nodup) (inn : ∀ c ∈ cs, c.1 ∈ allNames) (ne : cs ≠ []) : JobOk (ss ++ [⟨nm, ins, det⟩]) (kn ++ [(nm, cs)])
theorem StepOk.len {kn : List (Str × List NC)} {ins : List Str} {det : Det} {cs : List NC} (O : StepOk kn ins det cs) : ins.length ≤ 2 := by
  cases O <;> first | exact Nat.le_refl 2 | exact (by decide : 1 ≤ 2)
theorem StepOk.sort_pos {kn : List (Str × List NC)} {ins : List Str} {ws : List (Str × Str)} {m : Int} {cs : List NC} (O : StepOk kn ins (.sort ws m) cs) : 1 ≤ m := by
  cases O
  assumption
theorem val_none {kn : Knw} {x : Str} (h : x ∉ kn.map (·.1)) : valV (kn.map fun e => ((.inr e.1 : L2.Key), V.ref e.2.1)) (.inr x) = none := by
  unfold valV
  rw [List.find?_eq_none.mpr]
  · rfl
  · intro p hp
    obtain ⟨e, he, rfl⟩ := List.mem_map.mp hp
    intro z
    have z' := of_decide_eq_true z
    exact h (List.mem_map.mpr ⟨e, he, Sum.inr.inj z'⟩)
theorem none_same {H H' : Hp} {a : Addr} (h : Same H H') (e : H' a = none) : H a = none := by
  cases q : H a with
  | none => rfl
  | some o =>
    rw [h _ _ q] at e
    cases e
structure JobSt (H0 H : Hp) (d s kd g sl : Addr) (ns : List Int) (as : List (Addr × Stp)) (kn : Knw) (last : Str) (i : Nat) : Prop where
  dr : ∃ n, DrawAt H d s ns [.ref g] n
  b : But d H0 H
  fs' : ∃ o, H0 s = some o
  f1 : H0 kd = none
  f2 : H0 g = none
  f3 : H0 sl = none
  k : KnowsAt H kd g kn
  kg : kd ≠ g
  n3 : sl ≠ d
  e3 : H sl = some (.lst (as.map fun p => .ref p.1))
  off : ∀ e ∈ kn, e.2.1 ≠ sl
  stp : ∀ p ∈ as, StpAt H p.1 p.2
  len : as.length = i + 2
  ok : JobOk (as.map (·.2)) (abs kn)
  nms : kn.map (·.1) = stepNms.take (i + 2)
  lst : last ∈ kn.map (·.1)
  szl : ∀ kvs, H g = some (.dK kvs) → kvs.length ≤ i + 2
theorem JobSt.step {H0 H H' : Hp} {d s kd g sl : Addr} {ns : List Int} {as : List (Addr × Stp)} {kn : Knw} {last : Str} {i : Nat} {n : Int} (S : JobSt H0 H d s kd g sl ns as kn last i) (b : But d H H') (D : DrawAt H' d s ns [.ref g] n) : JobSt H0 H' d s kd g sl ns as kn last i := by
  obtain ⟨n0, D0⟩ := S.dr
  exact ⟨⟨n, D⟩, S.b.trans b, S.fs', S.f1, S.f2, S.f3, S.k.but D0 b, S.kg, S.n3, b _ _ S.n3 S.e3, S.off, fun p hp => (S.stp p hp).keep (b.tup D0.at_d) (b.tupF D0.at_d), S.len, S.ok, S.nms, S.lst, fun kvs e => by
    obtain ⟨kv, h1, _⟩ := S.k.sizes
    have h2 := b _ _ (fun z => by rw [z, D0.at_d] at h1; cases h1) h1
    rw [h2] at e
    cases e
    exact S.szl _ h1⟩
theorem JobSt.new {H0 H : Hp} {d s kd g sl p : Addr} {ns : List Int} {as : List (Addr × Stp)} {kn : Knw} {last : Str} {i : Nat} {o : HO} (S : JobSt H0 H d s kd g sl ns as kn last i) (h : H p = none) : JobSt H0 (upd H p o) d s kd g sl ns as kn last i := by
  obtain ⟨n0, D0⟩ := S.dr
  exact S.step (same_but (same_upd h)) (D0.keep (same_upd h))
theorem JobSt.kn_len {H0 H : Hp} {d s kd g sl : Addr} {ns : List Int} {as : List (Addr × Stp)} {kn : Knw} {last : Str} {i : Nat} (S : JobSt H0 H d s kd g sl ns as kn last i) : kn.length ≤ 10 := by
  have h := congrArg List.length S.nms
  rw [List.length_map, List.length_take] at h
  have : stepNms.length = 10 := rfl
  omega
theorem JobSt.add {H0 H H' : Hp} {d s kd g sl st f : Addr} {ns : List Int} {as : List (Addr × Stp)} {kn : Knw} {last nm : Str} {ins : List Str} {det : Det} {cl : List Col} {i : Nat} {j : Int} {kvs : List (L2.Key × V)} (S : JobSt H0 H d s kd g sl ns as kn last i)
    (X : StpAt H st ⟨nm, ins, det⟩) (T : Tab H f cl) (O : StepOk (abs kn) ins det (cl.map (·.2))) (hn : nm ∉ kn.map (·.1)) (hn2 : stepNms.take (i + 2) ++ [nm] = stepNms.take (i + 3)) (okn : PyData.canLay0 (.str nm) = true) (j0 : 0 ≤ j) (j1 : j ≤ 400) (fs : f ≠ sl)
    (eg : H g = some (.dK kvs)) (lkv : kvs.length + 1 ≤ 40) (hsz : ∀ e ∈ kn, ∃ j : Int, valV kvs (.inr e.1) = some (.int j) ∧ 0 ≤ j ∧ j ≤ 400)
    (off : ∀ b o, b ≠ sl → b ≠ kd → b ≠ g → H b = some o → H' b = some o) (e1 : H' sl = some (.lst ((as.map fun p => .ref p.1) ++ [.ref st]))) (e2 : H' kd = some (.dK (putK (kn.map fun e => ((.inr e.1 : L2.Key), V.ref e.2.1)) (.inr nm) (.ref f)))) (e3 : H' g = some (.dK (putK kvs (.inr nm) (.int j)))) :
    JobSt H0 H' d s kd g sl ns (as ++ [(st, ⟨nm, ins, det⟩)]) (kn ++ [(nm, f, cl)]) nm (i + 1) := by
  obtain ⟨n0, D0⟩ := S.dr
  have ek := S.k.at_k
  have kt : KeepT H H' := fun a xs e => off a _ (fun z => by rw [z, S.e3] at e; cases e) (fun z => by rw [z, ek] at e; cases e) (fun z => by rw [z, eg] at e; cases e) e
  have kf : KeepF H H' := fun a xs ⟨o, dn, e⟩ => ⟨o, dn, off a _ (fun z => by rw [z, S.e3] at e; cases e) (fun z => by rw [z, ek] at e; cases e) (fun z => by rw [z, eg] at e; cases e) e⟩
  have kl : ∀ (a : Addr) (xs : List V), a ≠ sl → H a = some (.lst xs) → H' a = some (.lst xs) := fun a xs h e => off a _ h (fun z => by rw [z, ek] at e; cases e) (fun z => by rw [z, eg] at e; cases e) e
  have ktab : ∀ {a : Addr} {c : List Col}, a ≠ sl → Tab H a c → Tab H' a c := fun h t => ⟨⟨kl _ _ h t.cols.all, fun c hc => kt _ _ (t.cols.each c hc), t.cols.few, t.cols.ok⟩, t.nod, t.inn, t.ne⟩
  obtain ⟨os, es⟩ := S.fs'
  refine ⟨⟨n0, kl _ _ S.n3.symm D0.at_d, kl _ _ (ne_of_none es S.f3) D0.at_s, D0.n0⟩, fun b o hb e => off b o (ne_of_none e S.f3) (ne_of_none e S.f1) (ne_of_none e S.f2) (S.b b o hb e), S.fs', S.f1, S.f2, S.f3, ⟨?_, fun e he => ?_, ?_, ?_, ⟨_, e3, ?_, fun e he => ?_⟩, fun e he => ?_⟩, S.kg, S.n3, ?_, fun e he => ?_, fun p hp => ?_, ?_, ?_, ?_, ?_, fun kv e => ?_⟩
  · rw [e2, putK_new _ (val_none hn), List.map_append]
    rfl
  · rcases List.mem_append.mp he with he | he
    · exact ktab (S.off e he) (S.k.tabs e he)
    · rw [List.mem_singleton.mp he]
      exact ktab fs T
  · rw [List.map_append]
    exact List.nodup_append.mpr ⟨S.k.nod, by simp, fun a ha b hb e => hn (by
      have : b = nm := List.mem_singleton.mp hb
      rw [← this, ← e]
      exact ha)⟩
  · rw [List.length_append]
    have := S.kn_len
    show kn.length + 1 ≤ 40
    omega
  · have := length_putK kvs (.inr nm) (.int j)
    omega
  · rw [valV_put]
    rcases List.mem_append.mp he with he | he
    · obtain ⟨j', h1, h2, h3⟩ := hsz e he
      refine ⟨j', ?_, h2, h3⟩
      rw [if_neg (fun z => hn (by rw [← Sum.inr.inj z]; exact List.mem_map.mpr ⟨e, he, rfl⟩))]
      exact h1
    · rw [List.mem_singleton.mp he, if_pos rfl]
      exact ⟨j, rfl, j0, j1⟩
  · rcases List.mem_append.mp he with he | he
    · exact S.k.nms e he
    · rw [List.mem_singleton.mp he]
      exact okn
  · rw [e1, List.map_append]
    rfl
  · rcases List.mem_append.mp he with he | he
    · exact S.off e he
    · rw [List.mem_singleton.mp he]
      exact fs
  · rcases List.mem_append.mp hp with hp | hp
    · exact (S.stp p hp).keep kt kf
    · rw [List.mem_singleton.mp hp]
      exact X.keep kt kf
  · rw [List.length_append, S.len]
    rfl
  · rw [List.map_append]
    unfold abs
    rw [List.map_append]
    refine .step S.ok (by rw [List.map_map]; exact hn) O ?_ (fun c hc => ?_) (fun z => T.ne (List.map_eq_nil_iff.mp z))
    · rw [List.map_map]
      exact T.nod
    · obtain ⟨c', hc', rfl⟩ := List.mem_map.mp hc
      exact T.inn c' hc'
  · rw [List.map_append, S.nms]
    exact hn2
  · rw [List.map_append]
    exact List.mem_append_right _ List.mem_cons_self
  · rw [e3] at e
    cases e
    have h1 := length_putK kvs (.inr nm) (.int j)
    have h2 := S.szl _ eg
    omega
section
variable {P : Program} {w : World} {K : PySem.W.Frag} {mg : Str → Option Value} {base : Heap}
/-! ### _law_job -/
abbrev N_law_job : List Str := ["draw", "many", "known", "steps", "last", "at", "name", "one", "step", "columns"]
def spJob : Sp := fun vs H Q _ => ∃ (d s : Addr) (ns : List Int) (tl : List V) (n many : Int), vs = [.ref d, .int many] ∧ DrawAt H d s ns tl n ∧ (tl = [] ∨ ∃ x, tl = [x]) ∧ 1 ≤ many ∧ many ≤ 8 ∧
  ∀ (r st g : Addr) (as : List (Addr × Stp)) (kn : List (Str × List NC)) (last : Str) (n' : Int) (H' : Hp), H' r = some (.tup [.ref st, .str last]) → H' st = some (.tup (as.map fun p => .ref p.1)) → (∀ p ∈ as, StpAt H' p.1 p.2) → JobOk (as.map (·.2)) kn → last ∈ kn.map (·.1) → kn.length ≤ 10 → (∀ e ∈ kn, e.1 ∈ stepNms) → But d H H' → DrawAt H' d s ns [.ref g] n' → Q (.ref r) H'
theorem sc_job : FnScope N_law_job ["draw", "many"] (defScope s_law_job) := ⟨rfl, rfl, rfl, by decide +kernel, rfl, by decide +kernel, by decide +kernel⟩
theorem ok_job {f : Addr} {fd : FuncData} (F : Fun K "_law_job" "_law_job" s_law_job f fd) (m_tuple : mg "tuple" = none) (m_sorted : mg "sorted" = none) (m_len : mg "len" = none) (m_str : mg "str" = none) (m_range : mg "range" = none) (G_law_next : Ready P w K mg base 3 "_law_next" ["draw", "bound"] spNext) (G_law_pick : Ready P w K mg base 4 "_law_pick" ["draw", "things"] (spPick K))
    (G_law_step : Ready P w K mg base 9 "_law_step" ["draw", "known", "name", "one"] spStep) (G_law_most : Ready P w K mg base 1 "_law_most" ["draw", "step"] spMost) :
    FnOk P w K mg base CX0 10 f fd ["draw", "many"] spJob := by
  refine F.ok sc_job (fun vs H Q E h => ?_) (fun cdv A outer s0 H vs Q E hr h => ?_)
  · obtain ⟨d, s, ns, tl, n, many, rfl, _⟩ := h
    rfl
  obtain ⟨d, s, ns, tl, n, many, rfl, D, htl, hm1, hm8, q⟩ := h
  have nd := sc_job.nd
  have hr9 : Room 9 _ := hr
  have hr4 : Room 4 _ := hr.mono (by omega)
  have hr3 : Room 3 _ := hr.mono (by omega)
  have hr1 : Room 1 _ := hr.mono (by omega)
  have hu64 : _ + 64 < cLine := hr.units
  have hu1 : _ + 1 < cLine := Nat.lt_of_le_of_lt (Nat.add_le_add_left (by decide : 1 ≤ 64) _) hu64
  refine ⟨_, pss_cons (ps_set (i := 2) nd rfl (.inl rfl) (pe_disp (pps_cons pe_str (pe_lst (pa_cons (pe_tup (pa_cons pe_str (pa_cons pe_str pa_nil))) (pa_cons (pe_tup (pa_cons pe_str (pa_cons pe_str pa_nil))) (pa_cons (pe_tup (pa_cons pe_str (pa_cons pe_str pa_nil))) pa_nil)))) (pps_cons pe_str (pe_lst (pa_cons (pe_tup (pa_cons pe_str (pa_cons pe_str pa_nil))) (pa_cons (pe_tup (pa_cons pe_str (pa_cons pe_str pa_nil))) pa_nil))) pps_nil)) rfl rfl (by intro z; cases z) (by decide)))
      (pss_cons (ps_set (i := 3) nd rfl (.inl rfl) (pe_lst (pa_cons (pe_tup (pa_cons pe_str (pa_cons pe_str (pa_cons (pe_tup pa_nil) (pa_cons (pe_callTy cr_tupleF (by rfl) m_tuple PyProof.Rows.boot_tuple (pa_cons (pe_dget hu1 (pv 2) pe_str (fun _ _ => rfl)) pa_nil)) pa_nil))))) (pa_cons (pe_tup (pa_cons pe_str (pa_cons pe_str (pa_cons (pe_tup pa_nil) (pa_cons (pe_callTy cr_tupleF (by rfl) m_tuple PyProof.Rows.boot_tuple (pa_cons (pe_dget hu1 (pv 2) pe_str (fun _ _ => rfl)) pa_nil)) pa_nil))))) pa_nil))))
      (pss_cons (ps_set (i := 4) nd rfl (.inl rfl) pe_str)
      (C8.pss_cut (ps_if (pt_cmpR op_lt (pe_callB call_len_seq (by rfl) m_len PySem.boot_len (pa_cons (pv 0) pa_nil)) pe_int (nomark _)) (pss_one (ps_expr (pe_bm PySem.F.plainAttrs_list PySem.F.slot_list_append PySem.F.type_list_append mt_append (pv 0) (pa_cons pe_dnewK pa_nil)))) (pss_nil))
      (pss_cons (ps_asg (pe_disp (pps_cons pe_str pe_int (pps_cons pe_str pe_int pps_nil)) rfl rfl (by intro z; cases z) (by decide)) (pg_sub (pv 0) pe_int set_list))
      (pss_cons (ps_for PassesOwn.never rfl (pi_range1 rfl m_range (pa_cons (pe_op op_add pe_int (pe_fn (G_law_next) hr3 (pa_cons (pv 0) (pa_cons (pv 1) pa_nil)))) pa_nil)) (pg_name (i := 5) nd rfl (.inl rfl)) (pss_cons (ps_set (i := 6) nd rfl (.inl rfl) (pe_op op_add_str pe_str (pe_callTy call_str_int (by rfl) m_str PyProof.Rows.boot_str (pa_cons (pv 5) pa_nil))))
      (C8.pss_cut (ps_set (i := 7) nd rfl (.inl rfl) (pe_ifExp (pt_cmpR op_gt (pe_fn (G_law_next) hr3 (pa_cons (pv 0) (pa_cons pe_int pa_nil))) pe_int (nomark _)) (pv 4) (pe_fn (G_law_pick) hr4 (pa_cons (pv 0) (pa_cons (pe_callB (call_sortedD rfl) (by rfl) m_sorted (by decide +kernel) (pa_cons (pv 2) pa_nil)) pa_nil)))))
      (pss_cons (ps_asg (pe_fn (G_law_step) hr9 (pa_cons (pv 0) (pa_cons (pv 2) (pa_cons (pv 6) (pa_cons (pv 7) pa_nil))))) (pg_tup rfl (pgs_cons (pg_name (i := 8) nd rfl (.inl rfl)) (pgs_cons (pg_name (i := 9) nd rfl (.inl rfl)) pgs_nil))))
      (pss_cons (ps_expr (pe_bm PySem.F.plainAttrs_list PySem.F.slot_list_append PySem.F.type_list_append mt_append (pv 3) (pa_cons (pv 8) pa_nil)))
      (pss_cons (ps_asg (pe_tup (pa_cons (pv 9) (pa_cons (pv 6) pa_nil))) (pg_tup rfl (pgs_cons (pg_sub (pv 2) (pv 6) (set_dict hu1)) (pgs_cons (pg_name (i := 4) nd rfl (.inl rfl)) pgs_nil))))
      (pss_one (ps_dput hu1 (pe_ix (show IxR _ (rIxL K) from ix_list) (pv 0) pe_int (fun _ _ => rfl)) (pv 6) (pe_fn (G_law_most) hr1 (pa_cons (pv 0) (pa_cons (pv 8) pa_nil))) rfl))))))))
      (pss_one (ps_ret (pe_tup (pa_cons (pe_callTy call_tuple_of (by rfl) m_tuple PyProof.Rows.boot_tuple (pa_cons (pv 3) pa_nil)) (pa_cons (pv 4) pa_nil)))))))))), ?_⟩
  have z2 : 2 ≤ sizeLine := by decide
  have z3 : 3 ≤ sizeLine := by decide
  have z4 : 4 ≤ sizeLine := by decide
  -- known
  refine fun kd h_kd => ?_
  have tq := same_upd (o := .dK []) h_kd
  have sH := tq
  have e_kd : upd H kd (.dK []) kd = some (.dK []) := upd_same
  generalize upd H kd (.dK []) = Hq1 at e_kd sH ⊢
  clear tq
  refine ⟨z2, fun p1 h_p1 => ?_⟩
  have tq := same_upd (o := .tup [.str "k", .str "int"]) h_p1
  replace e_kd := tq _ _ e_kd
  replace sH := sH.trans tq
  have e_p1 : upd Hq1 p1 (.tup [.str "k", .str "int"]) p1 = some (.tup [.str "k", .str "int"]) := upd_same
  generalize upd Hq1 p1 (.tup [.str "k", .str "int"]) = Hq2 at e_kd e_p1 sH ⊢
  clear tq
  refine ⟨z2, fun p2 h_p2 => ?_⟩
  have tq := same_upd (o := .tup [.str "t", .str "text"]) h_p2
  replace e_kd := tq _ _ e_kd
  replace e_p1 := tq _ _ e_p1
  replace sH := sH.trans tq
  have e_p2 : upd Hq2 p2 (.tup [.str "t", .str "text"]) p2 = some (.tup [.str "t", .str "text"]) := upd_same
  generalize upd Hq2 p2 (.tup [.str "t", .str "text"]) = Hq3 at e_kd e_p1 e_p2 sH ⊢
  clear tq
  refine ⟨z2, fun p3 h_p3 => ?_⟩
  have tq := same_upd (o := .tup [.str "n", .str "int"]) h_p3
  replace e_kd := tq _ _ e_kd
  replace e_p1 := tq _ _ e_p1
  replace e_p2 := tq _ _ e_p2
  replace sH := sH.trans tq
  have e_p3 : upd Hq3 p3 (.tup [.str "n", .str "int"]) p3 = some (.tup [.str "n", .str "int"]) := upd_same
  generalize upd Hq3 p3 (.tup [.str "n", .str "int"]) = Hq4 at e_kd e_p1 e_p2 e_p3 sH ⊢
  clear tq
  refine ⟨z3, fun la h_la => ?_⟩
  have f_la : H la = none := none_same sH h_la
  have tq := same_upd (o := .lst [.ref p1, .ref p2, .ref p3]) h_la
  replace e_kd := tq _ _ e_kd
  replace e_p1 := tq _ _ e_p1
  replace e_p2 := tq _ _ e_p2
  replace e_p3 := tq _ _ e_p3
  replace sH := sH.trans tq
  have e_la : upd Hq4 la (.lst [.ref p1, .ref p2, .ref p3]) la = some (.lst [.ref p1, .ref p2, .ref p3]) := upd_same
  generalize upd Hq4 la (.lst [.ref p1, .ref p2, .ref p3]) = Hq5 at e_kd e_p1 e_p2 e_p3 e_la sH ⊢
  clear tq
  refine ⟨z2, fun p4 h_p4 => ?_⟩
  have tq := same_upd (o := .tup [.str "k", .str "int"]) h_p4
  replace e_kd := tq _ _ e_kd
  replace e_p1 := tq _ _ e_p1
  replace e_p2 := tq _ _ e_p2
  replace e_p3 := tq _ _ e_p3
  replace e_la := tq _ _ e_la
  replace sH := sH.trans tq
  have e_p4 : upd Hq5 p4 (.tup [.str "k", .str "int"]) p4 = some (.tup [.str "k", .str "int"]) := upd_same
  generalize upd Hq5 p4 (.tup [.str "k", .str "int"]) = Hq6 at e_kd e_p1 e_p2 e_p3 e_la e_p4 sH ⊢
  clear tq
  refine ⟨z2, fun p5 h_p5 => ?_⟩
  have tq := same_upd (o := .tup [.str "m", .str "int"]) h_p5
  replace e_kd := tq _ _ e_kd
  replace e_p1 := tq _ _ e_p1
  replace e_p2 := tq _ _ e_p2
  replace e_p3 := tq _ _ e_p3
  replace e_la := tq _ _ e_la
  replace e_p4 := tq _ _ e_p4
  replace sH := sH.trans tq
  have e_p5 : upd Hq6 p5 (.tup [.str "m", .str "int"]) p5 = some (.tup [.str "m", .str "int"]) := upd_same
  generalize upd Hq6 p5 (.tup [.str "m", .str "int"]) = Hq7 at e_kd e_p1 e_p2 e_p3 e_la e_p4 e_p5 sH ⊢
  clear tq
  refine ⟨z2, fun lb h_lb => ?_⟩
  have f_lb : H lb = none := none_same sH h_lb
  have tq := same_upd (o := .lst [.ref p4, .ref p5]) h_lb
  replace e_kd := tq _ _ e_kd
  replace e_p1 := tq _ _ e_p1
  replace e_p2 := tq _ _ e_p2
  replace e_p3 := tq _ _ e_p3
  replace e_la := tq _ _ e_la
  replace e_p4 := tq _ _ e_p4
  replace e_p5 := tq _ _ e_p5
  replace sH := sH.trans tq
  have e_lb : upd Hq7 lb (.lst [.ref p4, .ref p5]) lb = some (.lst [.ref p4, .ref p5]) := upd_same
  generalize upd Hq7 lb (.lst [.ref p4, .ref p5]) = Hq8 at e_kd e_p1 e_p2 e_p3 e_la e_p4 e_p5 e_lb sH ⊢
  clear tq
  refine ⟨e_kd, [(.inr "a", .ref la), (.inr "b", .ref lb)], rfl, (show 2 ≤ 15 by decide), ?_⟩
  have emk : mergeK [] [((.inr "a" : L2.Key), V.ref la), (.inr "b", .ref lb)] = [(.inr "a", .ref la), (.inr "b", .ref lb)] := rfl
  rw [emk]
  -- the dict is filled: all but it is kept
  have offk : ∀ b o, b ≠ kd → Hq8 b = some o → upd Hq8 kd (.dK [(.inr "a", .ref la), (.inr "b", .ref lb)]) b = some o := fun b o h e => by
    rw [upd_ne h]
    exact e
  have ne_kd : ∀ {a : Addr} {o : HO}, Hq8 a = some o → o ≠ .dK [] → a ≠ kd := fun e h z => by
    rw [z, e_kd] at e
    exact h (Option.some.inj e).symm
  replace e_p1 := offk _ _ (ne_kd e_p1 (by intro z; cases z)) e_p1
  replace e_p2 := offk _ _ (ne_kd e_p2 (by intro z; cases z)) e_p2
  replace e_p3 := offk _ _ (ne_kd e_p3 (by intro z; cases z)) e_p3
  replace e_la := offk _ _ (ne_kd e_la (by intro z; cases z)) e_la
  replace e_p4 := offk _ _ (ne_kd e_p4 (by intro z; cases z)) e_p4
  replace e_p5 := offk _ _ (ne_kd e_p5 (by intro z; cases z)) e_p5
  replace e_lb := offk _ _ (ne_kd e_lb (by intro z; cases z)) e_lb
  have s9 : Same H (upd Hq8 kd (.dK [(.inr "a", .ref la), (.inr "b", .ref lb)])) := fun b o e => offk b o (ne_of_none e h_kd) (sH _ _ e)
  replace e_kd : upd Hq8 kd (.dK [(.inr "a", .ref la), (.inr "b", .ref lb)]) kd = some (.dK [(.inr "a", .ref la), (.inr "b", .ref lb)]) := upd_same
  clear offk ne_kd sH
  replace sH := s9
  clear s9
  generalize upd Hq8 kd (.dK [(.inr "a", .ref la), (.inr "b", .ref lb)]) = Hq9 at e_kd e_p1 e_p2 e_p3 e_la e_p4 e_p5 e_lb sH ⊢
  -- steps
  refine ⟨Nat.zero_le _, fun ta0 h_ta0 => ?_⟩
  have tq := same_upd (o := .tup []) h_ta0
  replace e_kd := tq _ _ e_kd
  replace e_p1 := tq _ _ e_p1
  replace e_p2 := tq _ _ e_p2
  replace e_p3 := tq _ _ e_p3
  replace e_la := tq _ _ e_la
  replace e_p4 := tq _ _ e_p4
  replace e_p5 := tq _ _ e_p5
  replace e_lb := tq _ _ e_lb
  replace sH := sH.trans tq
  have e_ta0 : upd Hq9 ta0 (.tup []) ta0 = some (.tup []) := upd_same
  generalize upd Hq9 ta0 (.tup []) = Hq10 at e_kd e_p1 e_p2 e_p3 e_la e_p4 e_p5 e_lb e_ta0 sH ⊢
  clear tq
  refine ⟨_, rfl, kd, _, rfl, DGet.k (k := .inr "a") e_kd, la, _, rfl, .inl ⟨SqL.of e_la, fun ta o_ta h_ta d_ta => ?_⟩⟩
  have tq := same_upd (o := .frz o_ta (.tup [.ref p1, .ref p2, .ref p3])) h_ta
  replace e_kd := tq _ _ e_kd
  replace e_p1 := tq _ _ e_p1
  replace e_p2 := tq _ _ e_p2
  replace e_p3 := tq _ _ e_p3
  replace e_la := tq _ _ e_la
  replace e_p4 := tq _ _ e_p4
  replace e_p5 := tq _ _ e_p5
  replace e_lb := tq _ _ e_lb
  replace e_ta0 := tq _ _ e_ta0
  replace sH := sH.trans tq
  have e_ta : upd Hq10 ta (.frz o_ta (.tup [.ref p1, .ref p2, .ref p3])) ta = some (.frz o_ta (.tup [.ref p1, .ref p2, .ref p3])) := upd_same
  generalize upd Hq10 ta (.frz o_ta (.tup [.ref p1, .ref p2, .ref p3])) = Hq11 at e_kd e_p1 e_p2 e_p3 e_la e_p4 e_p5 e_lb e_ta0 e_ta sH ⊢
  clear tq
  refine ⟨z4, fun sa h_sa => ?_⟩
  have tq := same_upd (o := .tup [.str "a", .str "read", .ref ta0, .ref ta]) h_sa
  replace e_kd := tq _ _ e_kd
  replace e_p1 := tq _ _ e_p1
  replace e_p2 := tq _ _ e_p2
  replace e_p3 := tq _ _ e_p3
  replace e_la := tq _ _ e_la
  replace e_p4 := tq _ _ e_p4
  replace e_p5 := tq _ _ e_p5
  replace e_lb := tq _ _ e_lb
  replace e_ta0 := tq _ _ e_ta0
  replace e_ta := tq _ _ e_ta
  replace sH := sH.trans tq
  have e_sa : upd Hq11 sa (.tup [.str "a", .str "read", .ref ta0, .ref ta]) sa = some (.tup [.str "a", .str "read", .ref ta0, .ref ta]) := upd_same
  generalize upd Hq11 sa (.tup [.str "a", .str "read", .ref ta0, .ref ta]) = Hq12 at e_kd e_p1 e_p2 e_p3 e_la e_p4 e_p5 e_lb e_ta0 e_ta e_sa sH ⊢
  clear tq
  refine ⟨Nat.zero_le _, fun tb0 h_tb0 => ?_⟩
  have tq := same_upd (o := .tup []) h_tb0
  replace e_kd := tq _ _ e_kd
  replace e_p1 := tq _ _ e_p1
  replace e_p2 := tq _ _ e_p2
  replace e_p3 := tq _ _ e_p3
  replace e_la := tq _ _ e_la
  replace e_p4 := tq _ _ e_p4
  replace e_p5 := tq _ _ e_p5
  replace e_lb := tq _ _ e_lb
  replace e_ta0 := tq _ _ e_ta0
  replace e_ta := tq _ _ e_ta
  replace e_sa := tq _ _ e_sa
  replace sH := sH.trans tq
  have e_tb0 : upd Hq12 tb0 (.tup []) tb0 = some (.tup []) := upd_same
  generalize upd Hq12 tb0 (.tup []) = Hq13 at e_kd e_p1 e_p2 e_p3 e_la e_p4 e_p5 e_lb e_ta0 e_ta e_sa e_tb0 sH ⊢
  clear tq
  refine ⟨_, rfl, kd, _, rfl, DGet.k (k := .inr "b") e_kd, lb, _, rfl, .inl ⟨SqL.of e_lb, fun tb o_tb h_tb d_tb => ?_⟩⟩
  have tq := same_upd (o := .frz o_tb (.tup [.ref p4, .ref p5])) h_tb
  replace e_kd := tq _ _ e_kd
  replace e_p1 := tq _ _ e_p1
  replace e_p2 := tq _ _ e_p2
  replace e_p3 := tq _ _ e_p3
  replace e_la := tq _ _ e_la
  replace e_p4 := tq _ _ e_p4
  replace e_p5 := tq _ _ e_p5
  replace e_lb := tq _ _ e_lb
  replace e_ta0 := tq _ _ e_ta0
  replace e_ta := tq _ _ e_ta
  replace e_sa := tq _ _ e_sa
  replace e_tb0 := tq _ _ e_tb0
  replace sH := sH.trans tq
  have e_tb : upd Hq13 tb (.frz o_tb (.tup [.ref p4, .ref p5])) tb = some (.frz o_tb (.tup [.ref p4, .ref p5])) := upd_same
  generalize upd Hq13 tb (.frz o_tb (.tup [.ref p4, .ref p5])) = Hq14 at e_kd e_p1 e_p2 e_p3 e_la e_p4 e_p5 e_lb e_ta0 e_ta e_sa e_tb0 e_tb sH ⊢
  clear tq
  refine ⟨z4, fun sb h_sb => ?_⟩
  have tq := same_upd (o := .tup [.str "b", .str "read", .ref tb0, .ref tb]) h_sb
  replace e_kd := tq _ _ e_kd
  replace e_p1 := tq _ _ e_p1
  replace e_p2 := tq _ _ e_p2
  replace e_p3 := tq _ _ e_p3
  replace e_la := tq _ _ e_la
  replace e_p4 := tq _ _ e_p4
  replace e_p5 := tq _ _ e_p5
  replace e_lb := tq _ _ e_lb
  replace e_ta0 := tq _ _ e_ta0
  replace e_ta := tq _ _ e_ta
  replace e_sa := tq _ _ e_sa
  replace e_tb0 := tq _ _ e_tb0
  replace e_tb := tq _ _ e_tb
  replace sH := sH.trans tq
  have e_sb : upd Hq14 sb (.tup [.str "b", .str "read", .ref tb0, .ref tb]) sb = some (.tup [.str "b", .str "read", .ref tb0, .ref tb]) := upd_same
  generalize upd Hq14 sb (.tup [.str "b", .str "read", .ref tb0, .ref tb]) = Hq15 at e_kd e_p1 e_p2 e_p3 e_la e_p4 e_p5 e_lb e_ta0 e_ta e_sa e_tb0 e_tb e_sb sH ⊢
  clear tq
  refine ⟨z2, fun sl h_sl => ?_⟩
  have f_sl : H sl = none := none_same sH h_sl
  have tq := same_upd (o := .lst [.ref sa, .ref sb]) h_sl
  replace e_kd := tq _ _ e_kd
  replace e_p1 := tq _ _ e_p1
  replace e_p2 := tq _ _ e_p2
  replace e_p3 := tq _ _ e_p3
  replace e_la := tq _ _ e_la
  replace e_p4 := tq _ _ e_p4
  replace e_p5 := tq _ _ e_p5
  replace e_lb := tq _ _ e_lb
  replace e_ta0 := tq _ _ e_ta0
  replace e_ta := tq _ _ e_ta
  replace e_sa := tq _ _ e_sa
  replace e_tb0 := tq _ _ e_tb0
  replace e_tb := tq _ _ e_tb
  replace e_sb := tq _ _ e_sb
  replace sH := sH.trans tq
  have e_sl : upd Hq15 sl (.lst [.ref sa, .ref sb]) sl = some (.lst [.ref sa, .ref sb]) := upd_same
  generalize upd Hq15 sl (.lst [.ref sa, .ref sb]) = Hq16 at e_kd e_p1 e_p2 e_p3 e_la e_p4 e_p5 e_lb e_ta0 e_ta e_sa e_tb0 e_tb e_sb e_sl sH ⊢
  clear tq
  have D1 := D.keep sH
  have nkd : ∀ {a : Addr} {o : HO}, Hq16 a = some o → (∀ xs, o ≠ .lst xs) → a ≠ d := fun e h z => by
    rw [z, D1.at_d] at e
    exact h _ (Option.some.inj e).symm
  have nsl : sl ≠ d := (ne_of_none D.at_d f_sl).symm
  -- a fourth thing
  refine ⟨fun σ H' => σ = [some (.ref d), some (.int many), some (.ref kd), some (.ref sl), some (.str "a"), none, none, none, none, none] ∧ ∃ x, DrawAt H' d s ns [x] n ∧ But d Hq16 H', ?_, ?_⟩
  · rcases htl with rfl | ⟨x, rfl⟩
    · refine ⟨_, rfl, d, _, rfl, .inl (SqL.of D1.at_d), _, _, rfl, rfl, _, rfl, iteT ?_⟩
      refine ⟨_, rfl, .inl ⟨rfl, _, SqL.of D1.at_d⟩, fun p hp => ⟨d, _, _, rfl, rfl, same_upd hp _ _ D1.at_d, (show 3 < sizeLine by decide), rfl, .ref p, ⟨upd_same, ?_, D1.n0⟩, fun b o hb e => ?_⟩⟩
      · rw [upd_ne D1.ne]
        exact same_upd hp _ _ D1.at_s
      · rw [upd_ne hb]
        exact same_upd hp _ _ e
    · refine ⟨_, rfl, d, _, rfl, .inl (SqL.of D1.at_d), _, _, rfl, rfl, _, rfl, iteF ?_⟩
      exact ⟨rfl, x, D1, But.refl _ _⟩
  rintro σ H1 ⟨rfl, x, D2, b2⟩
  have bla : la ≠ d := (ne_of_none D.at_d f_la).symm
  have blb : lb ≠ d := (ne_of_none D.at_d f_lb).symm
  replace e_kd := b2 _ _ (nkd e_kd (by intro xs z; cases z)) e_kd
  replace e_p1 := b2 _ _ (nkd e_p1 (by intro xs z; cases z)) e_p1
  replace e_p2 := b2 _ _ (nkd e_p2 (by intro xs z; cases z)) e_p2
  replace e_p3 := b2 _ _ (nkd e_p3 (by intro xs z; cases z)) e_p3
  replace e_la := b2 _ _ bla e_la
  replace e_p4 := b2 _ _ (nkd e_p4 (by intro xs z; cases z)) e_p4
  replace e_p5 := b2 _ _ (nkd e_p5 (by intro xs z; cases z)) e_p5
  replace e_lb := b2 _ _ blb e_lb
  replace e_ta0 := b2 _ _ (nkd e_ta0 (by intro xs z; cases z)) e_ta0
  replace e_ta := b2 _ _ (nkd e_ta (by intro xs z; cases z)) e_ta
  replace e_sa := b2 _ _ (nkd e_sa (by intro xs z; cases z)) e_sa
  replace e_tb0 := b2 _ _ (nkd e_tb0 (by intro xs z; cases z)) e_tb0
  replace e_tb := b2 _ _ (nkd e_tb (by intro xs z; cases z)) e_tb
  replace e_sb := b2 _ _ (nkd e_sb (by intro xs z; cases z)) e_sb
  replace e_sl := b2 _ _ nsl e_sl
  have b02 : But d H H1 := (same_but sH).trans b2
  clear nkd D1 sH b2 htl
  -- the sizes
  have nkd : ∀ {a : Addr} {o : HO}, H1 a = some o → (∀ xs, o ≠ .lst xs) → a ≠ d := fun e h z => by
    rw [z, D2.at_d] at e
    exact h _ (Option.some.inj e).symm
  refine fun g hg => ⟨upd_same, [(.inr "a", .int 20), (.inr "b", .int 20)], rfl, (show 2 ≤ 15 by decide), _, rfl, d, [.ref s, .int 0, .int n, x], 3, 3, rfl, rfl, ?_, rfl, ?_⟩
  · rw [upd_upd]
    exact same_upd hg _ _ D2.at_d
  rw [upd_upd]
  have emg : mergeK [] [((.inr "a" : L2.Key), V.int 20), (.inr "b", .int 20)] = [(.inr "a", .int 20), (.inr "b", .int 20)] := rfl
  rw [emg]
  have fg : H g = none := by
    cases z : H g with
    | none => rfl
    | some o =>
      by_cases e : g = d
      · rw [e, D2.at_d] at hg
        cases hg
      · rw [b02 _ _ e z] at hg
        cases hg
  have sg := same_upd (o := .dK [(.inr "a", .int 20), (.inr "b", .int 20)]) hg
  have gd : g ≠ d := fun e => by
    rw [e, D2.at_d] at hg
    cases hg
  have kg : kd ≠ g := fun e => by
    rw [← e, e_kd] at hg
    cases hg
  have keep : ∀ b o, b ≠ d → H1 b = some o → upd (upd H1 g (.dK [(.inr "a", .int 20), (.inr "b", .int 20)])) d (.lst ([V.ref s, .int 0, .int n, x].set 3 (.ref g))) b = some o := fun b o h e => by
    rw [upd_ne h]
    exact sg _ _ e
  replace e_kd := keep _ _ (nkd e_kd (by intro xs z; cases z)) e_kd
  replace e_p1 := keep _ _ (nkd e_p1 (by intro xs z; cases z)) e_p1
  replace e_p2 := keep _ _ (nkd e_p2 (by intro xs z; cases z)) e_p2
  replace e_p3 := keep _ _ (nkd e_p3 (by intro xs z; cases z)) e_p3
  replace e_la := keep _ _ bla e_la
  replace e_p4 := keep _ _ (nkd e_p4 (by intro xs z; cases z)) e_p4
  replace e_p5 := keep _ _ (nkd e_p5 (by intro xs z; cases z)) e_p5
  replace e_lb := keep _ _ blb e_lb
  replace e_ta0 := keep _ _ (nkd e_ta0 (by intro xs z; cases z)) e_ta0
  replace e_ta := keep _ _ (nkd e_ta (by intro xs z; cases z)) e_ta
  replace e_sa := keep _ _ (nkd e_sa (by intro xs z; cases z)) e_sa
  replace e_tb0 := keep _ _ (nkd e_tb0 (by intro xs z; cases z)) e_tb0
  replace e_tb := keep _ _ (nkd e_tb (by intro xs z; cases z)) e_tb
  replace e_sb := keep _ _ (nkd e_sb (by intro xs z; cases z)) e_sb
  replace e_sl := keep _ _ nsl e_sl
  have D3 : DrawAt (upd (upd H1 g (.dK [(.inr "a", .int 20), (.inr "b", .int 20)])) d (.lst ([V.ref s, .int 0, .int n, x].set 3 (.ref g)))) d s ns [.ref g] n := ⟨upd_same, keep _ _ D2.ne D2.at_s, D2.n0⟩
  have e_g : upd (upd H1 g (.dK [(.inr "a", .int 20), (.inr "b", .int 20)])) d (.lst ([V.ref s, .int 0, .int n, x].set 3 (.ref g))) g = some (.dK [(.inr "a", .int 20), (.inr "b", .int 20)]) := by
    rw [upd_ne gd]
    exact upd_same
  have b3 : But d H (upd (upd H1 g (.dK [(.inr "a", .int 20), (.inr "b", .int 20)])) d (.lst ([V.ref s, .int 0, .int n, x].set 3 (.ref g)))) := fun b o h e => keep b o h (b02 _ _ h e)
  generalize upd (upd H1 g (.dK [(.inr "a", .int 20), (.inr "b", .int 20)])) d (.lst ([V.ref s, .int 0, .int n, x].set 3 (.ref g))) = H3 at D3 e_g b3 e_kd e_p1 e_p2 e_p3 e_la e_p4 e_p5 e_lb e_ta0 e_ta e_sa e_tb0 e_tb e_sb e_sl ⊢
  clear nkd keep sg hg b02 D2
  have S0 : JobSt H H3 d s kd g sl ns [(sa, ⟨"a", [], .read colsA⟩), (sb, ⟨"b", [], .read colsB⟩)] [("a", la, [(p1, "k", true), (p2, "t", false), (p3, "n", true)]), ("b", lb, [(p4, "k", true), (p5, "m", true)])] "a" 0 := by
    refine ⟨⟨n, D3⟩, b3, ⟨_, D.at_s⟩, h_kd, fg, f_sl, ⟨e_kd, ?_, by show (["a", "b"] : List Str).Nodup; decide +kernel, (show 2 ≤ 40 by decide), ⟨_, e_g, (show 2 ≤ 40 by decide), ?_⟩, ?_⟩, kg, nsl, e_sl, ?_, ?_, rfl, .base, rfl, List.mem_cons_self, fun kvs e => by
      rw [e_g] at e
      cases e
      exact Nat.le_refl 2⟩
    · intro e he
      rcases List.mem_cons.mp he with rfl | he
      · refine ⟨⟨e_la, fun c hc => ?_, (show 3 ≤ 1000 by decide), fun c hc => ?_⟩, by show (["k", "t", "n"] : List Str).Nodup; decide +kernel, fun c hc => ?_, by intro z; cases z⟩
        · rcases List.mem_cons.mp hc with rfl | hc
          · exact e_p1
          rcases List.mem_cons.mp hc with rfl | hc
          · exact e_p2
          · rw [List.mem_singleton.mp hc]
            exact e_p3
        · rcases List.mem_cons.mp hc with rfl | hc
          · exact (by decide +kernel : PyData.canLay0 (.str "k") = true)
          rcases List.mem_cons.mp hc with rfl | hc
          · exact (by decide +kernel : PyData.canLay0 (.str "t") = true)
          · rw [List.mem_singleton.mp hc]
            exact (by decide +kernel : PyData.canLay0 (.str "n") = true)
        · rcases List.mem_cons.mp hc with rfl | hc
          · exact (by decide +kernel : ("k" : Str) ∈ allNames)
          rcases List.mem_cons.mp hc with rfl | hc
          · exact (by decide +kernel : ("t" : Str) ∈ allNames)
          · rw [List.mem_singleton.mp hc]
            exact (by decide +kernel : ("n" : Str) ∈ allNames)
      · rw [List.mem_singleton.mp he]
        refine ⟨⟨e_lb, fun c hc => ?_, (show 2 ≤ 1000 by decide), fun c hc => ?_⟩, by show (["k", "m"] : List Str).Nodup; decide +kernel, fun c hc => ?_, by intro z; cases z⟩
        · rcases List.mem_cons.mp hc with rfl | hc
          · exact e_p4
          · rw [List.mem_singleton.mp hc]
            exact e_p5
        · rcases List.mem_cons.mp hc with rfl | hc
          · exact (by decide +kernel : PyData.canLay0 (.str "k") = true)
          · rw [List.mem_singleton.mp hc]
            exact (by decide +kernel : PyData.canLay0 (.str "m") = true)
        · rcases List.mem_cons.mp hc with rfl | hc
          · exact (by decide +kernel : ("k" : Str) ∈ allNames)
          · rw [List.mem_singleton.mp hc]
            exact (by decide +kernel : ("m" : Str) ∈ allNames)
    · intro e he
      rcases List.mem_cons.mp he with rfl | he
      · exact ⟨20, rfl, by decide, by decide⟩
      · rw [List.mem_singleton.mp he]
        exact ⟨20, rfl, by decide, by decide⟩
    · intro e he
      rcases List.mem_cons.mp he with rfl | he
      · exact (by decide +kernel : PyData.canLay0 (.str "a") = true)
      · rw [List.mem_singleton.mp he]
        exact (by decide +kernel : PyData.canLay0 (.str "b") = true)
    · intro e he
      rcases List.mem_cons.mp he with rfl | he
      · intro z
        have z' : la = sl := z
        rw [z', e_sl] at e_la
        cases e_la
      · rw [List.mem_singleton.mp he]
        intro z
        have z' : lb = sl := z
        rw [z', e_sl] at e_lb
        have z2 : sa = p4 := by
          have := Option.some.inj e_lb
          injection this with this
          injection this with this _
          injection this
        rw [← z2, e_sa] at e_p4
        cases e_p4
    · intro p hp
      rcases List.mem_cons.mp hp with rfl | hp
      · refine ⟨ta0, .ref ta, e_sa, e_ta0, ta, [(p1, "k", true), (p2, "t", false), (p3, "n", true)], rfl, ⟨o_ta, d_ta, e_ta⟩, fun c hc => ?_, rfl⟩
        rcases List.mem_cons.mp hc with rfl | hc
        · exact e_p1
        rcases List.mem_cons.mp hc with rfl | hc
        · exact e_p2
        · rw [List.mem_singleton.mp hc]
          exact e_p3
      · rw [List.mem_singleton.mp hp]
        refine ⟨tb0, .ref tb, e_sb, e_tb0, tb, [(p4, "k", true), (p5, "m", true)], rfl, ⟨o_tb, d_tb, e_tb⟩, fun c hc => ?_, rfl⟩
        rcases List.mem_cons.mp hc with rfl | hc
        · exact e_p4
        · rw [List.mem_singleton.mp hc]
          exact e_p5
  clear e_p1 e_p2 e_p3 e_p4 e_p5 e_ta0 e_tb0 e_ta e_tb e_sa e_sb e_la e_lb e_sl e_kd e_g D3 b3 h_kd fg f_sl kg nsl
  -- the steps
  obtain ⟨n0, D0⟩ := S0.dr
  refine ⟨_, rfl, _, rfl, d, s, ns, [.ref g], _, many, rfl, D0, by omega, fun r H4 r0 r1 b4 D4 => ⟨_, _, rfl, rfl, _, rfl, by omega, by omega, ?_⟩⟩
  have S1 := S0.step b4 D4
  clear S0 D0 b4 D4
  refine for_range (fun i σ H' => ∃ y5 y6 y7 y8 y9 as kn last, σ = [some (.ref d), some (.int many), some (.ref kd), some (.ref sl), some (.str last), y5, y6, y7, y8, y9] ∧ JobSt H H' d s kd g sl ns as kn last i) ⟨none, none, none, none, none, _, _, "a", rfl, S1⟩ ?_ ?_
  · rintro i σ H5 hi ⟨y5, y6, y7, y8, y9, as, kn, last, rfl, S5⟩
    have hi8 : i < 8 := by omega
    obtain ⟨sn1, sn2, sn3, sn4⟩ := s_name hi8
    refine ⟨_, rfl, _, rfl, log_num8 hi8, "s", _, rfl, rfl, sn3, ?_⟩
    generalize ("s" : Str) ++ Str.ofString (toString ((0 : Int) + (i : Nat))) = nm at sn1 sn2 sn4 ⊢
    obtain ⟨n5, D5⟩ := S5.dr
    refine ⟨fun σ H' => ∃ e, σ = [some (.ref d), some (.int many), some (.ref kd), some (.ref sl), some (.str last), some (.int ((0 : Int) + (i : Nat))), some (.str nm), some (.str e.1), y8, y9] ∧ e ∈ kn ∧ JobSt H H' d s kd g sl ns as kn last i, ?_, ?_⟩
    · refine ⟨_, rfl, d, s, ns, [.ref g], _, 3, rfl, D5, by decide, fun r3 H6 _ _ b6 D6 => ⟨_, _, rfl, rfl, _, rfl, ?_⟩⟩
      have S6 := S5.step b6 D6
      refine ite2 (fun c => ⟨_, rfl, ?_⟩) (fun c => ?_)
      · obtain ⟨e, he, el⟩ := List.mem_map.mp S6.lst
        exact ⟨e, by rw [el]; rfl, he, S6⟩
      · refine ⟨_, rfl, _, rfl, kd, _, kn.map (·.1), rfl, .inl S6.k.at_k, (by rw [List.map_map, List.map_map]; rfl), (by rw [List.length_map]; have := S6.kn_len; omega), fun ys p pm _ hp => ?_⟩
        have sp := same_upd (o := .lst (ys.map V.str)) hp
        refine ⟨d, s, p, ns, [.ref g], _, ys.map V.str, rfl, D6.keep sp, (ne_of_none D6.at_d hp).symm, .inl (SqL.of upd_same), ?_, fun v H7 hv b7 D7 => ?_⟩
        · intro z
          rw [List.map_eq_nil_iff.mp z] at pm
          have h2 := pm.nil_eq
          have h3 := S6.lst
          rw [← h2] at h3
          exact absurd h3 List.not_mem_nil
        obtain ⟨o, ho, rfl⟩ := mem_strs hv
        obtain ⟨e, he, rfl⟩ := List.mem_map.mp (pm.mem_iff.mp ho)
        exact ⟨e, rfl, he, (S6.new hp).step b7 D7⟩
    clear S5 D5 n5
    rintro σ H6 ⟨e1, rfl, he1, S6⟩
    obtain ⟨n6, D6⟩ := S6.dr
    refine ⟨_, rfl, _, rfl, _, rfl, _, rfl, d, s, kd, g, kn, nm, e1.1, e1.2.1, e1.2.2, ns, _, rfl, D6, S6.k, he1, fun r2 st f0 ins det cl n7 H7 er X T O Z b7 D7 => ?_⟩
    refine ⟨r2, _, rfl, SqT.of er, rfl, _, _, rfl, _, _, rfl, rfl, ?_⟩
    have S7 := S6.step b7 D7
    have nmk : nm ∉ kn.map (·.1) := by
      rw [S7.nms]
      exact sn2
    have gnd : g ≠ d := fun z => by
      obtain ⟨kv, h1, _⟩ := S6.k.sizes
      rw [z, D6.at_d] at h1
      cases h1
    obtain ⟨kvs, eg6, _, _⟩ := S6.k.sizes
    have eg7 := b7 _ _ gnd eg6
    obtain ⟨kvs', eg7', lkv, hsz⟩ := S7.k.sizes
    have : kvs' = kvs := by
      rw [eg7] at eg7'
      cases eg7'
      rfl
    subst this
    have fsl : f0 ≠ sl := fun z => by
      have h1 := T.cols.all
      rw [z, S7.e3] at h1
      have h2 : (as.map fun p => V.ref p.1) = cl.map fun c => V.ref c.1 := by
        injection h1 with h1
        injection h1
      cases hcl : cl with
      | nil => exact T.ne hcl
      | cons c cl' =>
        cases has : as with
        | nil =>
          rw [hcl, has] at h2
          cases h2
        | cons p as' =>
          rw [hcl, has] at h2
          have h3 : p.1 = c.1 := by
            injection h2 with h2 _
            injection h2
          have h4 := T.cols.each c (by rw [hcl]; exact List.mem_cons_self)
          obtain ⟨_, _, h5, _⟩ := S7.stp p (by rw [has]; exact List.mem_cons_self)
          rw [h3, h4] at h5
          have h6 := congrArg (fun o : Option HO => match o with | some (.tup xs) => xs.length | _ => 0) h5
          exact absurd h6 (by show ¬ 2 = 4; decide)
    -- steps.append(step)
    refine ⟨_, rfl, .inl ⟨rfl, _, SqL.of S7.e3⟩, _, rfl, sl, _, _, rfl, rfl, S7.e3, (by rw [List.length_map, S7.len]; exact Nat.lt_of_le_of_lt (show i + 2 ≤ 10 by omega) (by decide)), ?_⟩
    have off8 : ∀ b o, b ≠ sl → H7 b = some o → upd H7 sl (.lst ((as.map fun p => .ref p.1) ++ [.ref st])) b = some o := fun b o h e => by
      rw [upd_ne h]
      exact e
    have e8 : upd H7 sl (.lst ((as.map fun p => .ref p.1) ++ [.ref st])) sl = some (.lst ((as.map fun p => .ref p.1) ++ [.ref st])) := upd_same
    generalize upd H7 sl (.lst ((as.map fun p => .ref p.1) ++ [.ref st])) = H8 at off8 e8 ⊢
    have nlst : ∀ {a : Addr} {o : HO}, H7 a = some o → (∀ xs, o ≠ .lst xs) → a ≠ sl := fun e h z => by
      rw [z, S7.e3] at e
      exact h _ (Option.some.inj e).symm
    -- known[name], last = columns, name
    refine ⟨_, rfl, _, rfl, z2, fun t ht => ?_⟩
    have s9 := same_upd (o := .tup [.ref f0, .str nm]) ht
    have et : upd H8 t (.tup [.ref f0, .str nm]) t = some (.tup [.ref f0, .str nm]) := upd_same
    have off9 : ∀ b o, b ≠ sl → H7 b = some o → upd H8 t (.tup [.ref f0, .str nm]) b = some o := fun b o h e => s9 _ _ (off8 b o h e)
    have e9 := s9 _ _ e8
    generalize upd H8 t (.tup [.ref f0, .str nm]) = H9 at s9 et off9 e9 ⊢
    have ek9 := off9 _ _ (nlst S7.k.at_k (by intro xs z; cases z)) S7.k.at_k
    have eg9 := off9 _ _ (nlst eg7 (by intro xs z; cases z)) eg7
    refine ⟨t, _, rfl, SqT.of et, rfl, _, _, rfl, _, rfl, _, rfl, kd, _, rfl, DPut.k (k := .inr nm) ek9 (by rw [List.length_map]; exact Nat.lt_of_le_of_lt S7.kn_len (by decide)), _, _, rfl, rfl, ?_⟩
    have off10 : ∀ b o, b ≠ sl → b ≠ kd → H7 b = some o → upd H9 kd (.dK (putK (kn.map fun e => ((.inr e.1 : L2.Key), V.ref e.2.1)) (.inr nm) (.ref f0))) b = some o := fun b o h1 h2 e => by
      rw [upd_ne h2]
      exact off9 b o h1 e
    have ek10 : upd H9 kd (.dK (putK (kn.map fun e => ((.inr e.1 : L2.Key), V.ref e.2.1)) (.inr nm) (.ref f0))) kd = some (.dK (putK (kn.map fun e => ((.inr e.1 : L2.Key), V.ref e.2.1)) (.inr nm) (.ref f0))) := upd_same
    have e10 : upd H9 kd (.dK (putK (kn.map fun e => ((.inr e.1 : L2.Key), V.ref e.2.1)) (.inr nm) (.ref f0))) sl = some (.lst ((as.map fun p => .ref p.1) ++ [.ref st])) := by
      rw [upd_ne (nlst S7.k.at_k (by intro xs z; cases z)).symm]
      exact e9
    have eg10 : upd H9 kd (.dK (putK (kn.map fun e => ((.inr e.1 : L2.Key), V.ref e.2.1)) (.inr nm) (.ref f0))) g = some (.dK kvs') := by
      rw [upd_ne S7.kg.symm]
      exact eg9
    generalize upd H9 kd (.dK (putK (kn.map fun e => ((.inr e.1 : L2.Key), V.ref e.2.1)) (.inr nm) (.ref f0))) = H10 at off10 ek10 e10 eg10 ⊢
    clear off8 e8 off9 e9 s9 et ek9 eg9
    -- draw[3][name] = the most
    have ndk : ∀ {a : Addr} {xs : List V}, H7 a = some (.lst xs) → a ≠ kd := fun e z => by
      rw [z, S7.k.at_k] at e
      cases e
    have ndt : ∀ {a : Addr} {xs : List V}, H7 a = some (.tup xs) → a ≠ kd := fun e z => by
      rw [z, S7.k.at_k] at e
      cases e
    have kt10 : KeepT H7 H10 := fun a xs e => off10 a _ (nlst e (by intro xs z; cases z)) (ndt e) e
    obtain ⟨os, es⟩ := S7.fs'
    have D10 : DrawAt H10 d s ns [.ref g] n7 := ⟨off10 _ _ S7.n3.symm (ndk D7.at_d) D7.at_d, off10 _ _ (ne_of_none es S7.f3) (ndk D7.at_s) D7.at_s, D7.n0⟩
    have kf10 : KeepF H7 H10 := fun a xs ⟨o, dn, e⟩ => ⟨o, dn, off10 a _ (nlst e (by intro xs z; cases z)) (fun z => by rw [z, S7.k.at_k] at e; cases e) e⟩
    obtain ⟨inp, dv, x1, x2, x3⟩ := X.keep kt10 kf10
    obtain ⟨js, l1, l2, l3, l4⟩ := Z kvs' eg6
    refine ⟨_, rfl, _, rfl, d, s, g, st, inp, ns, [], n7, .str nm, dv, det.what, ins, js, kvs', rfl, D10, eg10, x1, x2, l1, ?_, l2, l3, l4, ?_, fun j H11 j0 j1 s11 => ?_⟩
    · have := O.len
      omega
    · intro hw
      cases det with
      | sort ws m =>
        obtain ⟨t', wt, _, h1, h2, _⟩ := x3
        refine ⟨t', _, m, h1, h2, ?_⟩
        have := O.sort_pos
        omega
      | read cs => exact absurd hw (by show ("read" : Str) ≠ "sort"; decide +kernel)
      | filter e => exact absurd hw (by show ("filter" : Str) ≠ "sort"; decide +kernel)
      | map ms => exact absurd hw (by show ("map" : Str) ≠ "sort"; decide +kernel)
      | fold ks fs => exact absurd hw (by show ("fold" : Str) ≠ "sort"; decide +kernel)
      | join ks => exact absurd hw (by show ("join" : Str) ≠ "sort"; decide +kernel)
      | union => exact absurd hw (by show ("union" : Str) ≠ "sort"; decide +kernel)
      | unlike => exact absurd hw (by show ("unlike" : Str) ≠ "sort"; decide +kernel)
    refine ⟨_, rfl, d, _, 3, _, rfl, rfl, SqL.of (s11 _ _ D10.at_d), at3, _, rfl, g, _, rfl, DPut.k (k := .inr nm) (s11 _ _ eg10) (Nat.lt_of_le_of_lt lkv (by decide)), ?_⟩
    have gsl : sl ≠ g := (nlst eg7 (by intro xs z; cases z)).symm
    refine ⟨_, _, _, _, _, as ++ [(st, ⟨nm, ins, det⟩)], kn ++ [(nm, f0, cl)], nm, rfl, S7.add X T O nmk sn1 sn4 j0 j1 fsl eg7 ?_ hsz (fun b o h1 h2 h3 e => ?_) ?_ ?_ upd_same⟩
    · have := S7.szl _ eg7
      omega
    · rw [upd_ne h3]
      exact s11 _ _ (off10 b o h1 h2 e)
    · rw [upd_ne gsl]
      exact s11 _ _ e10
    · rw [upd_ne S7.kg]
      exact s11 _ _ ek10
  · rintro σ H5 ⟨y5, y6, y7, y8, y9, as, kn, last, rfl, S5⟩
    refine ⟨_, rfl, sl, _, rfl, .inl ⟨SqL.of S5.e3, fun st hst => ⟨_, rfl, z2, fun rr hrr => ?_⟩⟩⟩
    have S6 := (S5.new (o := .tup (as.map fun p => .ref p.1)) hst).new (o := .tup [.ref st, .str last]) hrr
    obtain ⟨n6, D6⟩ := S6.dr
    exact q rr st g as (abs kn) last n6 _ upd_same (same_upd hrr _ _ upd_same) S6.stp S6.ok (by unfold abs; rw [List.map_map]; exact S6.lst) (by unfold abs; rw [List.length_map]; exact S6.kn_len) (fun e he => by
      obtain ⟨x, hx, rfl⟩ := List.mem_map.mp he
      have h : x.1 ∈ kn.map (·.1) := List.mem_map.mpr ⟨x, hx, rfl⟩
      rw [S6.nms] at h
      exact List.mem_of_mem_take h) S6.b D6
end
end Kj

namespace Kj
open PySem PySem.Spec PyProof.Rows L2 Kx TL
abbrev s_law_gap : Stmt := topS 71
abbrev s_law_told : Stmt := topS 72
abbrev s_law_level : Stmt := topS 73
abbrev s_law_plain : Stmt := topS 74
abbrev s_law_flat : Stmt := topS 75
theorem ifS_t {a : Str} {A B : Prop} (h : A) : if decide (V.str a = V.str a) = true then A else B := by
  rw [if_pos (decide_eq_true rfl)]
  exact h
theorem ifS_f {a b : Str} {A B : Prop} (hn : a ≠ b) (h : B) : if decide (V.str a = V.str b) = true then A else B := by
  rw [if_neg (fun z => hn (V.str.inj (of_decide_eq_true z)))]
  exact h
theorem c_len : ("length" : Str).length = 6 := by decide +kernel
theorem c_lp : ("(" : Str).length = 1 := by decide +kernel
theorem c_rp : (")" : Str).length = 1 := by decide +kernel
theorem c_rr : ("))" : Str).length = 2 := by decide +kernel
theorem tl_rr : TL.tl ("))" : Str) = TL.tl (")" : Str) ++ TL.tl (")" : Str) := by decide +kernel
theorem c_qu : ("\"" : Str).length = 1 := by decide +kernel
theorem c_not : ("not " : Str).length = 4 := by decide +kernel
theorem c_mn : ("-" : Str).length = 1 := by decide +kernel
theorem c_bl : (" " : Str).length = 1 := by decide +kernel
theorem c_lnp : ("length(" : Str).length = 7 := by decide +kernel
theorem wp_len {z : Str} {e : Ex} (h1 : z.length ≤ 14 * e.size) (hd : e.dep ≤ 5) : z.length ≤ 434 := by
  have h2 := size_dep e
  have h3 : 2 ^ e.dep ≤ 2 ^ 5 := Nat.pow_le_pow_right (by decide) hd
  omega
theorem num_len {k : Nat} (h : k < 6) : (numZ (k : Int)).length ≤ 14 := by
  match k, h with
  | 0, _ => decide +kernel
  | 1, _ => decide +kernel
  | 2, _ => decide +kernel
  | 3, _ => decide +kernel
  | 4, _ => decide +kernel
  | 5, _ => decide +kernel
theorem log6 {k : Nat} (h : k < 6) : ((k : Int)).natAbs.log2 < 1920 := by
  match k, h with
  | 0, _ => decide +kernel
  | 1, _ => decide +kernel
  | 2, _ => decide +kernel
  | 3, _ => decide +kernel
  | 4, _ => decide +kernel
  | 5, _ => decide +kernel
theorem tl_inj {a b : Str} (h : TL.tl a = TL.tl b) : a = b := by
  rw [← mk_tl a, ← mk_tl b, h]
theorem _root_.Kx.Wp.eq {z z' : Str} {e : Ex} {f L : Nat} (h : Wp z e f L) (e1 : z' = z) : Wp z' e f L := e1 ▸ h
theorem _root_.Kx.ifT' {c : Bool} {A B : Prop} (h : c = true) (a : A) : if c = true then A else B := by
  rw [if_pos h]
  exact a
theorem _root_.Kx.ifF' {c : Bool} {A B : Prop} (h : c = false) (b : B) : if c = true then A else B := by
  rw [h]
  exact b
section
variable {P : Program} {w : World} {K : PySem.W.Frag} {mg : Str → Option Value} {base : Heap}
def spGap : Sp := fun vs H Q _ => ∃ (d s : Addr) (ns : List Int) (xt : List V) (n : Int), vs = [.ref d] ∧ DrawAt H d s ns xt n ∧ ∀ (g : Nat) (H' : Hp), g ≤ 2 → But d H H' → DrawAt H' d s ns xt (n + 1) → Q (.str (bl g)) H'
theorem sc_gap : FnScope ["draw"] ["draw"] (defScope s_law_gap) := ⟨rfl, rfl, rfl, by decide +kernel, rfl, by decide +kernel, by decide +kernel⟩
theorem ok_gap {f : Addr} {fd : FuncData} (F : Fun K "_law_gap" "_law_gap" s_law_gap f fd) (G_law_pick : Ready P w K mg base 4 "_law_pick" ["draw", "things"] (spPick K)) : FnOk P w K mg base CX0 5 f fd ["draw"] spGap := by
  refine F.ok sc_gap (fun vs H Q E h => ?_) (fun cdv A outer s H vs Q E hr h => ?_)
  · obtain ⟨d, s, ns, xt, n, rfl, _⟩ := h
    rfl
  obtain ⟨d, s', ns, xt, n, rfl, D, q⟩ := h
  have nd := sc_gap.nd
  have hr4 : Room 4 _ := hr
  refine ⟨_, pss_one (ps_ret (pe_fn G_law_pick hr4 (pa_cons (pv 0) (pa_cons (pe_lst (pa_cons pe_str (pa_cons pe_str (pa_cons pe_str (pa_cons pe_str pa_nil))))) pa_nil)))), ?_⟩
  refine ⟨_, rfl, by show 4 ≤ sizeLine; decide, fun t ht => ?_⟩
  have D1 := D.keep (same_upd (o := .lst [.str "", .str " ", .str " ", .str "  "]) ht)
  have ntd : t ≠ d := fun z => by rw [z, D.at_d] at ht; cases ht
  refine ⟨d, s', t, ns, xt, n, [.str "", .str " ", .str " ", .str "  "], rfl, D1, ntd, .inl (SqL.of upd_same), by simp, fun v H' hv b D' => ?_⟩
  have b1 : But d H H' := fun a o ha e => b a o ha (same_upd ht a o e)
  have e0 : ("" : Str) = bl 0 := by decide +kernel
  have e1 : (" " : Str) = bl 1 := by decide +kernel
  have e2 : ("  " : Str) = bl 2 := by decide +kernel
  rcases List.mem_cons.mp hv with rfl | hv
  · rw [e0]; exact q 0 H' (by decide) b1 D'
  · rcases List.mem_cons.mp hv with rfl | hv
    · rw [e1]; exact q 1 H' (by decide) b1 D'
    · rcases List.mem_cons.mp hv with rfl | hv
      · rw [e1]; exact q 1 H' (by decide) b1 D'
      · rw [List.mem_singleton.mp hv, e2]; exact q 2 H' (by decide) b1 D'
def spTold (m : Nat) : Sp := fun vs H Q _ => ∃ (d s : Addr) (ns : List Int) (xt : List V) (n : Int) (v : V) (e : Ex), vs = [.ref d, v] ∧ DrawAt H d s ns xt n ∧ ExAt H v e ∧ ExW e ∧ e.dep ≤ m ∧ m ≤ 5 ∧ ∀ (z : Str) (n' : Int) (H' : Hp), Wp z e (3 * m) 100 → z.length ≤ 14 * e.size → But d H H' → DrawAt H' d s ns xt n' → Q (.str z) H'
abbrev N_told : List Str := ["draw", "told", "word", "sign", "inner"]
theorem sc_told : FnScope N_told ["draw", "told"] (defScope s_law_told) := ⟨rfl, rfl, rfl, by decide +kernel, rfl, by decide +kernel, by decide +kernel⟩
theorem ok_told {f : Addr} {fd : FuncData} {m : Nat} (F : Fun K "_law_told" "_law_told" s_law_told f fd) (m_str : mg "str" = none) (G_gap : Ready P w K mg base 5 "_law_gap" ["draw"] spGap) (G_told : Ready P w K mg base (m + 5) "_law_told" ["draw", "told"] (spTold m)) : FnOk P w K mg base CX0 (m + 6) f fd ["draw", "told"] (spTold (m + 1)) := by
  refine F.ok sc_told (fun vs H Q E h => ?_) (fun cdv A outer s H vs Q E hr h => ?_)
  · obtain ⟨d, s, ns, xt, n, v, e, rfl, _⟩ := h
    rfl
  obtain ⟨d, s', ns, xt, n, v, e, rfl, D, hx, hw, hdep, hm5, q⟩ := h
  have nd := sc_told.nd
  have hrm : Room (m + 5) _ := hr
  have hr5 : Room 5 _ := hrm.mono (by omega)
  refine ⟨_, pss_cons (ps_set (i := 2) nd rfl (.inl rfl) (pe_ix ix_tup (pv 1) pe_int (fun _ _ => rfl)))
      (pss_cons (ps_if (pt_cmpR op_eq (pv 2) pe_str (nomark _)) (pss_one (ps_ret (pe_callTy call_str_int (by rfl) m_str PyProof.Rows.boot_str (pa_cons (pe_ix ix_tup (pv 1) pe_int (fun _ _ => rfl)) pa_nil)))) (pss_nil))
      (pss_cons (ps_if (pt_cmpR op_eq (pv 2) pe_str (nomark _)) (pss_one (ps_ret (pe_op op_add_str (pe_op op_add_str pe_str (pe_ix ix_tup (pv 1) pe_int (fun _ _ => rfl))) pe_str))) (pss_nil))
      (pss_cons (ps_if (pt_cmpR op_eq (pv 2) pe_str (nomark _)) (pss_one (ps_ret (pe_ix ix_tup (pv 1) pe_int (fun _ _ => rfl)))) (pss_nil))
      (pss_cons (ps_if (pt_cmpR op_eq (pv 2) pe_str (nomark _)) (pss_one (ps_ret (pe_op op_add_str (pe_op op_add_str (pe_op op_add_str (pe_op op_add_str pe_str (pe_fn G_gap hr5 (pa_cons (pv 0) pa_nil))) pe_str) (pe_fn G_told hrm (pa_cons (pv 0) (pa_cons (pe_ix ix_tup (pv 1) pe_int (fun _ _ => rfl)) pa_nil)))) pe_str))) (pss_nil))
      (pss_cons (ps_if (pt_cmpR op_in_seq (pv 2) (pe_tup (pa_cons pe_str (pa_cons pe_str pa_nil))) (by with_unfolding_all rfl)) (pss_cons (ps_set (i := 3) nd rfl (.inl rfl) (pe_ifExp (pt_cmpR op_eq (pv 2) pe_str (nomark _)) pe_str (pe_op op_add_str pe_str (pe_fn G_gap hr5 (pa_cons (pv 0) pa_nil)))))
      (pss_one (ps_ret (pe_op op_add_str (pe_op op_add_str (pe_op op_add_str (pe_op op_add_str pe_str (pv 3)) pe_str) (pe_fn G_told hrm (pa_cons (pv 0) (pa_cons (pe_ix ix_tup (pv 1) pe_int (fun _ _ => rfl)) pa_nil)))) pe_str)))) (pss_nil))
      (pss_cons (ps_set (i := 4) nd rfl (.inl rfl) (pe_ifExp (pt_cmpR op_notIn_seq (pe_ix ix_tup (pv 1) pe_int (fun _ _ => rfl)) (pe_tup (pa_cons pe_str (pa_cons pe_str (pa_cons pe_str pa_nil)))) (by with_unfolding_all rfl)) (pe_fn G_gap hr5 (pa_cons (pv 0) pa_nil)) pe_str))
      (pss_one (ps_ret (pe_op op_add_str (pe_op op_add_str (pe_op op_add_str (pe_op op_add_str (pe_op op_add_str (pe_op op_add_str pe_str (pe_fn G_told hrm (pa_cons (pv 0) (pa_cons (pe_ix ix_tup (pv 1) pe_int (fun _ _ => rfl)) pa_nil)))) (pv 4)) (pe_ix ix_tup (pv 1) pe_int (fun _ _ => rfl))) (pv 4)) (pe_fn G_told hrm (pa_cons (pv 0) (pa_cons (pe_ix ix_tup (pv 1) pe_int (fun _ _ => rfl)) pa_nil)))) pe_str))))))))), ?_⟩
  have zb : 5000 ≤ sizeLine := by decide
  have nw : ∀ {a b : Str}, a ≠ b → True := fun _ => trivial
  cases e with
  | num i =>
    obtain ⟨a, rfl, h⟩ := hx
    obtain ⟨h0, h6⟩ := (hw : 0 ≤ i ∧ i < 6)
    obtain ⟨k, rfl⟩ := Int.eq_ofNat_of_zero_le h0
    have hk : k < 6 := by omega
    refine ⟨_, rfl, a, _, 0, _, rfl, rfl, SqT.of h, rfl, _, rfl, rfl, _, rfl, ifS_t ⟨_, rfl, a, _, 1, _, rfl, rfl, SqT.of h, rfl, ?_⟩⟩
    refine ⟨_, rfl, ?_, q (numZ (k : Int)) n H ((wp_num hk).up (by omega)) (num_len hk) (But.refl _ _) D⟩
    exact log6 hk
  | quo z =>
    obtain ⟨a, rfl, h⟩ := hx
    obtain ⟨w1, w2, w3⟩ := hw
    refine ⟨_, rfl, a, _, 0, _, rfl, rfl, SqT.of h, rfl, _, rfl, rfl, _, rfl, ifS_f (by decide +kernel) ⟨_, rfl, rfl, _, rfl, ifS_t ⟨_, rfl, a, _, 1, _, rfl, rfl, SqT.of h, rfl, _, _, rfl, rfl, ?_, _, _, rfl, rfl, ?_, q _ n H ((wp_quo w1 w2).up (by omega)) (by show _ ≤ 14 * 1; rw [len2, len2, c_qu]; omega) (But.refl _ _) D⟩⟩⟩
    · rw [c_qu]; omega
    · rw [len2, c_qu]; omega
  | col x =>
    obtain ⟨a, rfl, h⟩ := hx
    exact ⟨_, rfl, a, _, 0, _, rfl, rfl, SqT.of h, rfl, _, rfl, rfl, _, rfl, ifS_f (by decide +kernel) ⟨_, rfl, rfl, _, rfl, ifS_f (by decide +kernel) ⟨_, rfl, rfl, _, rfl, ifS_t ⟨_, rfl, a, _, 1, _, rfl, rfl, SqT.of h, rfl, q _ n H ((wp_col hw).up (by omega)) (by show _ ≤ 14 * 1; have := hw.2.2; omega) (But.refl _ _) D⟩⟩⟩⟩
  | two op x y =>
    obtain ⟨a, vx, vy, rfl, h, hxa, hya⟩ := hx
    obtain ⟨ho, wx, wy⟩ := hw
    have hdx : x.dep ≤ m ∧ y.dep ≤ m := by
      have : max x.dep y.dep + 1 ≤ m + 1 := hdep
      omega
    refine ⟨_, rfl, a, _, 0, _, rfl, rfl, SqT.of h, rfl, _, rfl, rfl, _, rfl, ifS_f (by decide +kernel) ⟨_, rfl, rfl, _, rfl, ifS_f (by decide +kernel) ⟨_, rfl, rfl, _, rfl, ifS_f (by decide +kernel) ⟨_, rfl, rfl, _, rfl, ifS_f (by decide +kernel) ?_⟩⟩⟩⟩
    refine ⟨_, rfl, by show 2 ≤ sizeLine; decide, fun t ht => ⟨t, [.str "not", .str "minus"], rfl, .inr (SqT.of upd_same), rfl, rfl, _, rfl, Kx.ifF' (by decide +kernel) ?_⟩⟩
    have s1 := same_upd (o := .tup [.str "not", .str "minus"]) ht
    have h1 := s1 _ _ h
    have hxa1 : ExAt (upd H t (.tup [.str "not", .str "minus"])) vx x := hxa.keep fun a xs e => s1 a _ e
    have hya1 : ExAt (upd H t (.tup [.str "not", .str "minus"])) vy y := hya.keep fun a xs e => s1 a _ e
    have D1 := D.keep s1
    generalize upd H t (.tup [.str "not", .str "minus"]) = H1 at s1 h1 hxa1 hya1 D1 ⊢
    refine ⟨_, rfl, a, _, 1, _, rfl, rfl, SqT.of h1, rfl, by show 3 ≤ sizeLine; decide, fun t2 ht2 => ⟨t2, (["and", "or", "mod"] : List Str).map V.str, rfl, .inr (SqT.of upd_same), rfl, rfl, _, rfl, ?_⟩⟩
    have s2 := same_upd (o := .tup ((["and", "or", "mod"] : List Str).map V.str)) ht2
    have h2 := s2 _ _ h1
    have hxa2 : ExAt (upd H1 t2 (.tup ((["and", "or", "mod"] : List Str).map V.str))) vx x := hxa1.keep fun a xs e => s2 a _ e
    have hya2 : ExAt (upd H1 t2 (.tup ((["and", "or", "mod"] : List Str).map V.str))) vy y := hya1.keep fun a xs e => s2 a _ e
    have D2 := D1.keep s2
    have sAll : Same H (upd H1 t2 (.tup ((["and", "or", "mod"] : List Str).map V.str))) := s1.trans s2
    rw [if_pos rfl, Kx.inV_str]
    have tail : ∀ (g : Nat) (H3 : Hp) (n3 : Int), g ≤ 2 → (op ∈ opsW → 0 < g) → But d H H3 → DrawAt H3 d s' ns xt n3 → H3 a = some (.tup [.str "two", .str op, vx, vy]) → ExAt H3 vx x → ExAt H3 vy y →
      tRet (tOp (fun x y H Q => ∃ i j, x = V.str i ∧ y = V.str j ∧ i.length + j.length ≤ sizeLine ∧ Q (V.str (i ++ j)) H) (tOp (fun x y H Q => ∃ i j, x = V.str i ∧ y = V.str j ∧ i.length + j.length ≤ sizeLine ∧ Q (V.str (i ++ j)) H) (tOp (fun x y H Q => ∃ i j, x = V.str i ∧ y = V.str j ∧ i.length + j.length ≤ sizeLine ∧ Q (V.str (i ++ j)) H) (tOp (fun x y H Q => ∃ i j, x = V.str i ∧ y = V.str j ∧ i.length + j.length ≤ sizeLine ∧ Q (V.str (i ++ j)) H) (tOp (fun x y H Q => ∃ i j, x = V.str i ∧ y = V.str j ∧ i.length + j.length ≤ sizeLine ∧ Q (V.str (i ++ j)) H) (tOp (fun x y H Q => ∃ i j, x = V.str i ∧ y = V.str j ∧ i.length + j.length ≤ sizeLine ∧ Q (V.str (i ++ j)) H) (tC (.str "(")) (tCall (spTold m) [] E0 (tCons (tVar 0) (tCons (tOp (rIxT K) (tVar 1) (tC (.int 2))) tNil)))) (tVar 4)) (tOp (rIxT K) (tVar 1) (tC (.int 1)))) (tVar 4)) (tCall (spTold m) [] E0 (tCons (tVar 0) (tCons (tOp (rIxT K) (tVar 1) (tC (.int 3))) tNil)))) (tC (.str ")"))) { nx := fun x H' => Q V.non H', rt := Q } [some (.ref d), some (.ref a), some (.str "two"), none, some (.str (bl g))] H3 := by
      intro g H3 n3 hg hgw b3 D3 h3 hx3 hy3
      refine ⟨_, rfl, _, rfl, a, _, 2, _, rfl, rfl, SqT.of h3, rfl, d, s', ns, xt, n3, vx, x, rfl, D3, hx3, wx, hdx.1, by omega, fun z1 n4 H4 hz1 m1 b4 D4 => ?_⟩
      have h4 := b4.tup D3.at_d _ _ h3
      have hy4 : ExAt H4 vy y := hy3.keep (b4.tup D3.at_d)
      have l1 := wp_len m1 (by omega)
      obtain ⟨o1, o2, _, _⟩ := op_facts op ho
      refine ⟨_, _, rfl, rfl, by rw [c_lp]; omega, _, rfl, _, _, rfl, rfl, by rw [len2, c_lp, bl_len]; omega, _, rfl, a, _, 1, _, rfl, rfl, SqT.of h4, rfl, _, _, rfl, rfl, by rw [len2, len2, c_lp, bl_len]; omega, _, rfl, _, _, rfl, rfl, by rw [len2, len2, len2, c_lp, bl_len]; omega, ?_⟩
      refine ⟨_, rfl, _, rfl, a, _, 3, _, rfl, rfl, SqT.of h4, rfl, d, s', ns, xt, n4, vy, y, rfl, D4, hy4, wy, hdx.2, by omega, fun z2 n5 H5 hz2 m2 b5 D5 => ?_⟩
      have l2 := wp_len m2 (by omega)
      refine ⟨_, _, rfl, rfl, by rw [len2, len2, len2, len2, c_lp, bl_len]; omega, _, _, rfl, rfl, by rw [len2, len2, len2, len2, len2, c_lp, c_rp, bl_len]; omega, ?_⟩
      obtain ⟨k, hk⟩ : ∃ k, levW op = k := ⟨_, rfl⟩
      have hkk := lev_ops op ho
      have p := wp_two (hz1.low (by unfold firstL; split <;> omega)) (hz2.low (by omega)) ho hk hgw
      have p2 := wp_par p (not_large (by show max x.dep y.dep + 1 ≤ 5; omega))
      refine q _ n5 H5 ((p2.eq ?_).up (by omega)) ?_ ((b3.trans b4).trans b5) D5
      rotate_left
      · have hs : (Ex.two op x y).size = x.size + y.size + 1 := rfl
        rw [len2, len2, len2, len2, len2, len2, c_lp, c_rp, bl_len, hs]
        omega
      apply tl_inj
      simp only [tlc, List.append_assoc]
    by_cases hop : op ∈ (["and", "or", "mod"] : List Str)
    · rw [decide_eq_true hop]
      refine Kx.ifF' rfl ?_
      exact tail 1 _ n (by decide) (fun _ => by decide) (same_but sAll) D2 h2 hxa2 hya2
    · rw [decide_eq_false hop]
      refine Kx.ifT' rfl ⟨_, rfl, d, s', ns, xt, n, rfl, D2, fun g H3 hg b3 D3 => ?_⟩
      refine tail g H3 _ hg (fun hw => ?_) ((same_but sAll).trans b3) D3 (b3.tup D2.at_d _ _ h2) (hxa2.keep (b3.tup D2.at_d)) (hya2.keep (b3.tup D2.at_d))
      exfalso
      apply hop
      have : ∀ op ∈ opsW, op ∈ (["and", "or", "mod"] : List Str) := by decide +kernel
      exact this op hw
  | nt x =>
    obtain ⟨a, vx, rfl, h, hxa⟩ := hx
    have wx : ExW x := hw
    have hdx : x.dep ≤ m := by
      have : x.dep + 1 ≤ m + 1 := hdep
      omega
    refine ⟨_, rfl, a, _, 0, _, rfl, rfl, SqT.of h, rfl, _, rfl, rfl, _, rfl, ifS_f (by decide +kernel) ⟨_, rfl, rfl, _, rfl, ifS_f (by decide +kernel) ⟨_, rfl, rfl, _, rfl, ifS_f (by decide +kernel) ⟨_, rfl, rfl, _, rfl, ifS_f (by decide +kernel) ?_⟩⟩⟩⟩
    refine ⟨_, rfl, by show 2 ≤ sizeLine; decide, fun t ht => ⟨t, [.str "not", .str "minus"], rfl, .inr (SqT.of upd_same), rfl, rfl, _, rfl, Kx.ifT' (by decide +kernel) ?_⟩⟩
    have s1 := same_upd (o := .tup [.str "not", .str "minus"]) ht
    have h1 := s1 _ _ h
    have hxa1 : ExAt (upd H t (.tup [.str "not", .str "minus"])) vx x := hxa.keep fun a xs e => s1 a _ e
    have D1 := D.keep s1
    refine ⟨_, rfl, rfl, _, rfl, ifS_t ⟨_, rfl, _, _, rfl, rfl, by rw [c_lp, c_not]; omega, _, _, rfl, rfl, by rw [len2, c_lp, c_not]; omega, _, rfl, _, rfl, a, _, 1, _, rfl, rfl, SqT.of h1, rfl, d, s', ns, xt, n, vx, x, rfl, D1, hxa1, wx, hdx, by omega, fun z n4 H4 hz m1 b4 D4 => ?_⟩⟩
    have l1 := wp_len m1 (by omega)
    refine ⟨_, _, rfl, rfl, by rw [len2, len2, c_lp, c_not]; omega, _, _, rfl, rfl, by rw [len2, len2, len2, c_lp, c_not, c_rr]; omega, ?_⟩
    have p1 := wp_nt ((wp_par hz (not_large (by omega))).low (by decide))
    have p2 := wp_par p1 (not_large (by show x.dep + 1 ≤ 5; omega))
    refine q _ n4 H4 ((p2.eq ?_).up (by omega)) ?_ ((same_but s1).trans b4) D4
    · apply tl_inj
      simp only [tlc, List.append_assoc, tl_rr]
    · have hs : (Ex.nt x).size = x.size + 1 := rfl
      rw [len2, len2, len2, len2, c_lp, c_not, c_rr, hs]
      omega
  | mn x =>
    obtain ⟨a, vx, rfl, h, hxa⟩ := hx
    have wx : ExW x := hw
    have hdx : x.dep ≤ m := by
      have : x.dep + 1 ≤ m + 1 := hdep
      omega
    refine ⟨_, rfl, a, _, 0, _, rfl, rfl, SqT.of h, rfl, _, rfl, rfl, _, rfl, ifS_f (by decide +kernel) ⟨_, rfl, rfl, _, rfl, ifS_f (by decide +kernel) ⟨_, rfl, rfl, _, rfl, ifS_f (by decide +kernel) ⟨_, rfl, rfl, _, rfl, ifS_f (by decide +kernel) ?_⟩⟩⟩⟩
    refine ⟨_, rfl, by show 2 ≤ sizeLine; decide, fun t ht => ⟨t, [.str "not", .str "minus"], rfl, .inr (SqT.of upd_same), rfl, rfl, _, rfl, Kx.ifT' (by decide +kernel) ?_⟩⟩
    have s1 := same_upd (o := .tup [.str "not", .str "minus"]) ht
    have h1 := s1 _ _ h
    have hxa1 : ExAt (upd H t (.tup [.str "not", .str "minus"])) vx x := hxa.keep fun a xs e => s1 a _ e
    have D1 := D.keep s1
    refine ⟨_, rfl, rfl, _, rfl, ifS_f (by decide +kernel) ⟨_, rfl, d, s', ns, xt, n, rfl, D1, fun g H3 hg b3 D3 => ?_⟩⟩
    have h3 := b3.tup D1.at_d _ _ h1
    have hxa3 : ExAt H3 vx x := hxa1.keep (b3.tup D1.at_d)
    refine ⟨_, _, rfl, rfl, by rw [c_mn, bl_len]; omega, _, rfl, _, _, rfl, rfl, by rw [len2, c_lp, c_mn, bl_len]; omega, _, _, rfl, rfl, by rw [len2, len2, c_lp, c_mn, bl_len]; omega, _, rfl, _, rfl, a, _, 1, _, rfl, rfl, SqT.of h3, rfl, d, s', ns, xt, _, vx, x, rfl, D3, hxa3, wx, hdx, by omega, fun z n4 H4 hz m1 b4 D4 => ?_⟩
    have l1 := wp_len m1 (by omega)
    refine ⟨_, _, rfl, rfl, by rw [len2, len2, len2, c_lp, c_mn, bl_len]; omega, _, _, rfl, rfl, by rw [len2, len2, len2, len2, c_lp, c_mn, c_rr, bl_len]; omega, ?_⟩
    have p1 := wp_mn (g := g) ((wp_par hz (not_large (by omega))).low (by decide))
    have p2 := wp_par p1 (not_large (by show x.dep + 1 ≤ 5; omega))
    refine q _ n4 H4 ((p2.eq ?_).up (by omega)) ?_ (((same_but s1).trans b3).trans b4) D4
    · apply tl_inj
      simp only [tlc, List.append_assoc, tl_rr]
    · have hs : (Ex.mn x).size = x.size + 1 := rfl
      rw [len2, len2, len2, len2, len2, c_lp, c_mn, c_rr, bl_len, hs]
      omega
  | ln x =>
    obtain ⟨a, vx, rfl, h, hxa⟩ := hx
    have wx : ExW x := hw
    have hdx : x.dep ≤ m := by
      have : x.dep + 1 ≤ m + 1 := hdep
      omega
    refine ⟨_, rfl, a, _, 0, _, rfl, rfl, SqT.of h, rfl, _, rfl, rfl, _, rfl, ifS_f (by decide +kernel) ⟨_, rfl, rfl, _, rfl, ifS_f (by decide +kernel) ⟨_, rfl, rfl, _, rfl, ifS_f (by decide +kernel) ⟨_, rfl, rfl, _, rfl, ifS_t ?_⟩⟩⟩⟩
    refine ⟨_, rfl, d, s', ns, xt, n, rfl, D, fun g H3 hg b3 D3 => ?_⟩
    have h3 := b3.tup D.at_d _ _ h
    have hxa3 : ExAt H3 vx x := hxa.keep (b3.tup D.at_d)
    refine ⟨_, _, rfl, rfl, by rw [c_len, bl_len]; omega, _, _, rfl, rfl, by rw [len2, c_len, c_lp, bl_len]; omega, _, rfl, _, rfl, a, _, 1, _, rfl, rfl, SqT.of h3, rfl, d, s', ns, xt, _, vx, x, rfl, D3, hxa3, wx, hdx, by omega, fun z n4 H4 hz m1 b4 D4 => ?_⟩
    have l1 := wp_len m1 (by omega)
    refine ⟨_, _, rfl, rfl, by rw [len2, len2, c_len, c_lp, bl_len]; omega, _, _, rfl, rfl, by rw [len2, len2, len2, c_len, c_lp, c_rp, bl_len]; omega, ?_⟩
    have p1 := wp_ln (g := g) hz (not_large (by omega))
    refine q _ n4 H4 (p1.up (by omega)) ?_ (b3.trans b4) D4
    have hs : (Ex.ln x).size = x.size + 1 := rfl
    rw [len2, len2, len2, len2, c_len, c_lp, c_rp, bl_len, hs]
    omega
end
end Kj

namespace Kj
open PySem PySem.Spec PyProof.Rows L2 Kx TL
theorem ifI_t {i : Int} {A B : Prop} (h : A) : if decide (V.int i = V.int i) = true then A else B := by
  rw [if_pos (decide_eq_true rfl)]
  exact h
theorem ifI_f {i j : Int} {A B : Prop} (hn : i ≠ j) (h : B) : if decide (V.int i = V.int j) = true then A else B := by
  rw [if_neg (fun z => hn (V.int.inj (of_decide_eq_true z)))]
  exact h
def lvE : Ex → Nat
  | .nt _ => 3
  | .mn _ => 7
  | .two op _ _ => levW op
  | _ => 8
def lkv : List (L2.Key × V) := [(.inr "or", .int 1), (.inr "and", .int 2), (.inr "+", .int 5), (.inr "-", .int 5), (.inr "*", .int 6), (.inr "/", .int 6), (.inr "mod", .int 6)]
theorem lev_get : ∀ op ∈ Kx.ops13, (valV (mergeK [] lkv) (.inr op)).getD (.int 4) = .int ((levW op : Nat) : Int) := by
  have h : Kx.ops13.all (fun op => decide ((valV (mergeK [] lkv) (.inr op)).getD (.int 4) = .int ((levW op : Nat) : Int))) = true := by decide +kernel
  exact fun op ho => of_decide_eq_true (List.all_eq_true.mp h op ho)
def lw (e : Ex) : Nat := if lvE e = 8 then 100 else lvE e
section
variable {P : Program} {w : World} {K : PySem.W.Frag} {mg : Str → Option Value} {base : Heap}
def spLevel : Sp := fun vs H Q _ => ∃ (v : V) (e : Ex), vs = [v] ∧ ExAt H v e ∧ ExW e ∧ ∀ H', Same H H' → Q (.int ((lvE e : Nat) : Int)) H'
theorem sc_level : FnScope ["told", "levels"] ["told"] (defScope s_law_level) := ⟨rfl, rfl, rfl, by decide +kernel, rfl, by decide +kernel, by decide +kernel⟩
theorem ok_level {f : Addr} {fd : FuncData} (F : Fun K "_law_level" "_law_level" s_law_level f fd) : FnOk P w K mg base CX0 1 f fd ["told"] spLevel := by
  refine F.ok sc_level (fun vs H Q E h => ?_) (fun cdv A outer s H vs Q E hr h => ?_)
  · obtain ⟨v, e, rfl, _⟩ := h
    rfl
  obtain ⟨v, e, rfl, hx, hw, q⟩ := h
  have nd := sc_level.nd
  have hu64 : _ + 64 < cLine := hr.units
  have hu1 : _ + 1 < cLine := Nat.lt_of_le_of_lt (Nat.add_le_add_left (by decide : 1 ≤ 64) _) hu64
  refine ⟨_, pss_cons (ps_if (pt_cmpR op_eq (pe_ix ix_tup (pv 0) pe_int (fun _ _ => rfl)) pe_str (nomark _)) (pss_one (ps_ret pe_int)) (pss_nil))
      (pss_cons (ps_if (pt_cmpR op_eq (pe_ix ix_tup (pv 0) pe_int (fun _ _ => rfl)) pe_str (nomark _)) (pss_one (ps_ret pe_int)) (pss_nil))
      (pss_cons (ps_if (pt_cmpR op_ne (pe_ix ix_tup (pv 0) pe_int (fun _ _ => rfl)) pe_str (nomark _)) (pss_one (ps_ret pe_int)) (pss_nil))
      (pss_cons (ps_set (i := 1) nd rfl (.inl rfl) (pe_disp (pps_cons pe_str pe_int (pps_cons pe_str pe_int (pps_cons pe_str pe_int (pps_cons pe_str pe_int (pps_cons pe_str pe_int (pps_cons pe_str pe_int (pps_cons pe_str pe_int pps_nil))))))) rfl rfl (by intro z; cases z) (by decide)))
      (pss_one (ps_ret (pe_dget2 hu1 (pv 1) (pe_ix ix_tup (pv 0) pe_int (fun _ _ => rfl)) pe_int ⟨rfl, rfl, rfl, rfl⟩)))))), ?_⟩
  have leaf : ∀ (wd : Str) (a : Addr) (xs : List V), H a = some (.tup (.str wd :: xs)) → wd ≠ "not" → wd ≠ "minus" → True := fun _ _ _ _ _ _ => trivial
  cases e with
  | num i =>
    obtain ⟨a, rfl, h⟩ := hx
    exact ⟨_, rfl, a, _, 0, _, rfl, rfl, SqT.of h, rfl, rfl, _, rfl, ifS_f (by decide +kernel) ⟨_, rfl, a, _, 0, _, rfl, rfl, SqT.of h, rfl, rfl, _, rfl, ifS_f (by decide +kernel) ⟨_, rfl, a, _, 0, _, rfl, rfl, SqT.of h, rfl, rfl, _, rfl, Kx.ifT' (by decide +kernel) (q H (Same.refl _))⟩⟩⟩
  | quo z =>
    obtain ⟨a, rfl, h⟩ := hx
    exact ⟨_, rfl, a, _, 0, _, rfl, rfl, SqT.of h, rfl, rfl, _, rfl, ifS_f (by decide +kernel) ⟨_, rfl, a, _, 0, _, rfl, rfl, SqT.of h, rfl, rfl, _, rfl, ifS_f (by decide +kernel) ⟨_, rfl, a, _, 0, _, rfl, rfl, SqT.of h, rfl, rfl, _, rfl, Kx.ifT' (by decide +kernel) (q H (Same.refl _))⟩⟩⟩
  | col x =>
    obtain ⟨a, rfl, h⟩ := hx
    exact ⟨_, rfl, a, _, 0, _, rfl, rfl, SqT.of h, rfl, rfl, _, rfl, ifS_f (by decide +kernel) ⟨_, rfl, a, _, 0, _, rfl, rfl, SqT.of h, rfl, rfl, _, rfl, ifS_f (by decide +kernel) ⟨_, rfl, a, _, 0, _, rfl, rfl, SqT.of h, rfl, rfl, _, rfl, Kx.ifT' (by decide +kernel) (q H (Same.refl _))⟩⟩⟩
  | ln x =>
    obtain ⟨a, vx, rfl, h, _⟩ := hx
    exact ⟨_, rfl, a, _, 0, _, rfl, rfl, SqT.of h, rfl, rfl, _, rfl, ifS_f (by decide +kernel) ⟨_, rfl, a, _, 0, _, rfl, rfl, SqT.of h, rfl, rfl, _, rfl, ifS_f (by decide +kernel) ⟨_, rfl, a, _, 0, _, rfl, rfl, SqT.of h, rfl, rfl, _, rfl, Kx.ifT' (by decide +kernel) (q H (Same.refl _))⟩⟩⟩
  | nt x =>
    obtain ⟨a, vx, rfl, h, _⟩ := hx
    exact ⟨_, rfl, a, _, 0, _, rfl, rfl, SqT.of h, rfl, rfl, _, rfl, ifS_t (q H (Same.refl _))⟩
  | mn x =>
    obtain ⟨a, vx, rfl, h, _⟩ := hx
    exact ⟨_, rfl, a, _, 0, _, rfl, rfl, SqT.of h, rfl, rfl, _, rfl, ifS_f (by decide +kernel) ⟨_, rfl, a, _, 0, _, rfl, rfl, SqT.of h, rfl, rfl, _, rfl, ifS_t (q H (Same.refl _))⟩⟩
  | two op x y =>
    obtain ⟨a, vx, vy, rfl, h, _⟩ := hx
    refine ⟨_, rfl, a, _, 0, _, rfl, rfl, SqT.of h, rfl, rfl, _, rfl, ifS_f (by decide +kernel) ⟨_, rfl, a, _, 0, _, rfl, rfl, SqT.of h, rfl, rfl, _, rfl, ifS_f (by decide +kernel) ⟨_, rfl, a, _, 0, _, rfl, rfl, SqT.of h, rfl, rfl, _, rfl, Kx.ifF' (by decide +kernel) ?_⟩⟩⟩
    refine fun p hp => ⟨upd_same, lkv, rfl, by decide, ?_⟩
    have s1 : Same H (upd (upd H p (.dK [])) p (.dK (mergeK [] lkv))) := fun c o e => by
      rw [upd_ne (ne_of_none e hp), upd_ne (ne_of_none e hp)]
      exact e
    refine ⟨_, rfl, p, rfl, .inl ⟨_, .inl upd_same⟩, _, rfl, a, _, 1, _, rfl, rfl, SqT.of (s1 _ _ h), rfl, _, .inl ⟨_, .inr op, .inl upd_same, rfl, rfl⟩, ?_⟩
    rw [lev_get op hw.1]
    exact q _ s1
def spPlain (m : Nat) : Sp := fun vs H Q _ => ∃ (d s : Addr) (ns : List Int) (xt : List V) (n : Int) (v : V) (e : Ex) (L : Nat), vs = [.ref d, v, .int (L : Int)] ∧ L ≤ 7 ∧ DrawAt H d s ns xt n ∧ ExAt H v e ∧ ExW e ∧ e.dep ≤ m ∧ m ≤ 5 ∧ ∀ (z : Str) (n' : Int) (H' : Hp), Wp z e (3 * m + 1) L → z.length ≤ 14 * e.size + 2 → But d H H' → DrawAt H' d s ns xt n' → Q (.str z) H'
def spFlat (m : Nat) : Sp := fun vs H Q _ => ∃ (d s : Addr) (ns : List Int) (xt : List V) (n : Int) (v : V) (e : Ex), vs = [.ref d, v] ∧ DrawAt H d s ns xt n ∧ ExAt H v e ∧ ExW e ∧ e.dep ≤ m ∧ m ≤ 5 ∧ ∀ (z : Str) (n' : Int) (H' : Hp), Wp z e (3 * m) (lw e) → z.length ≤ 14 * e.size → But d H H' → DrawAt H' d s ns xt n' → Q (.str z) H'
theorem sc_plain : FnScope ["draw", "told", "least"] ["draw", "told", "least"] (defScope s_law_plain) := ⟨rfl, rfl, rfl, by decide +kernel, rfl, by decide +kernel, by decide +kernel⟩
theorem ok_plain {f : Addr} {fd : FuncData} {m k : Nat} (F : Fun K "_law_plain" "_law_plain" s_law_plain f fd) (hk : 3 ≤ k) (G_level : Ready P w K mg base 1 "_law_level" ["told"] spLevel) (G_law_next : Ready P w K mg base 3 "_law_next" ["draw", "bound"] spNext) (G_flat : Ready P w K mg base k "_law_flat" ["draw", "told"] (spFlat m)) : FnOk P w K mg base CX0 (k + 1) f fd ["draw", "told", "least"] (spPlain m) := by
  refine F.ok sc_plain (fun vs H Q E h => ?_) (fun cdv A outer s H vs Q E hr h => ?_)
  · obtain ⟨d, s, ns, xt, n, v, e, L, rfl, _⟩ := h
    rfl
  obtain ⟨d, s', ns, xt, n, v, e, L, rfl, hL, D, hx, hw, hdep, hm5, q⟩ := h
  have nd := sc_plain.nd
  have hrk : Room k _ := hr
  have hr3 : Room 3 _ := hrk.mono hk
  have hr1 : Room 1 _ := hrk.mono (by omega)
  refine ⟨_, pss_cons (ps_if (PW.pt (pw_or (pt_cmpR op_lt (pe_fn G_level hr1 (pa_cons (pv 1) pa_nil)) (pv 2) (nomark _)) (pw_or1 (pt_cmpR op_eq (pe_fn G_law_next hr3 (pa_cons (pv 0) (pa_cons pe_int pa_nil))) pe_int (nomark _))))) (pss_one (ps_ret (pe_op op_add_str (pe_op op_add_str pe_str (pe_fn G_flat hrk (pa_cons (pv 0) (pa_cons (pv 1) pa_nil)))) pe_str))) (pss_nil))
      (pss_one (ps_ret (pe_fn G_flat hrk (pa_cons (pv 0) (pa_cons (pv 1) pa_nil))))), ?_⟩
  refine ⟨_, rfl, v, e, rfl, hx, hw, fun H1 s1 => ?_⟩
  have zb : 5000 ≤ sizeLine := by decide
  have D1 := D.keep s1
  have hx1 : ExAt H1 v e := hx.keep fun a xs e => s1 a _ e
  refine ⟨_, rfl, _, _, rfl, rfl, _, rfl, ?_⟩
  by_cases hlt : lvE e < L
  · refine Kx.ifT' (decide_eq_true (by omega)) (Kx.ifT' rfl ⟨_, rfl, _, rfl, d, s', ns, xt, n, v, e, rfl, D1, hx1, hw, hdep, hm5, fun z n2 H2 hz hl b2 D2 => ?_⟩)
    have l1 := wp_len hl (by omega)
    refine ⟨_, _, rfl, rfl, by rw [c_lp]; omega, _, _, rfl, rfl, by rw [len2, c_lp, c_rp]; omega, q _ n2 H2 ((wp_par hz (not_large (by omega))).low (by omega)) (by rw [len2, len2, c_lp, c_rp]; omega) ((same_but s1).trans b2) D2⟩
  · refine Kx.ifF' (decide_eq_false (by omega)) ⟨_, rfl, d, s', ns, xt, n, 6, rfl, D1, by decide, fun r H2 r0 r1 b2 D2 => ⟨rfl, _, rfl, ?_⟩⟩
    have hx2 : ExAt H2 v e := hx1.keep (b2.tup D1.at_d)
    by_cases hr0 : r = 0
    · refine Kx.ifT' (decide_eq_true (by rw [hr0])) ⟨_, rfl, _, rfl, d, s', ns, xt, _, v, e, rfl, D2, hx2, hw, hdep, hm5, fun z n2 H3 hz hl b3 D3 => ?_⟩
      have l1 := wp_len hl (by omega)
      refine ⟨_, _, rfl, rfl, by rw [c_lp]; omega, _, _, rfl, rfl, by rw [len2, c_lp, c_rp]; omega, q _ n2 H3 ((wp_par hz (not_large (by omega))).low (by omega)) (by rw [len2, len2, c_lp, c_rp]; omega) (((same_but s1).trans b2).trans b3) D3⟩
    · refine Kx.ifF' (decide_eq_false fun z => hr0 (V.int.inj z)) ⟨_, rfl, _, rfl, d, s', ns, xt, _, v, e, rfl, D2, hx2, hw, hdep, hm5, fun z n2 H3 hz hl b3 D3 => ?_⟩
      refine q _ n2 H3 ((hz.low ?_).up (by omega)) (by omega) (((same_but s1).trans b2).trans b3) D3
      unfold lw
      split <;> omega
abbrev N_flat : List Str := ["draw", "told", "level", "first"]
theorem sc_flat : FnScope N_flat ["draw", "told"] (defScope s_law_flat) := ⟨rfl, rfl, rfl, by decide +kernel, rfl, by decide +kernel, by decide +kernel⟩
theorem ok_flat {f : Addr} {fd : FuncData} {m k : Nat} (F : Fun K "_law_flat" "_law_flat" s_law_flat f fd) (hk : 5 ≤ k) (G_level : Ready P w K mg base 1 "_law_level" ["told"] spLevel) (G_gap : Ready P w K mg base 5 "_law_gap" ["draw"] spGap) (G_told : Ready P w K mg base k "_law_told" ["draw", "told"] (spTold (m + 1))) (G_plain : Ready P w K mg base k "_law_plain" ["draw", "told", "least"] (spPlain m)) : FnOk P w K mg base CX0 (k + 1) f fd ["draw", "told"] (spFlat (m + 1)) := by
  refine F.ok sc_flat (fun vs H Q E h => ?_) (fun cdv A outer s H vs Q E hr h => ?_)
  · obtain ⟨d, s, ns, xt, n, v, e, rfl, _⟩ := h
    rfl
  obtain ⟨d, s', ns, xt, n, v, e, rfl, D, hx, hw, hdep, hm5, q⟩ := h
  have nd := sc_flat.nd
  have hrk : Room k _ := hr
  have hr5 : Room 5 _ := hrk.mono hk
  have hr1 : Room 1 _ := hrk.mono (by omega)
  refine ⟨_, pss_cons (ps_set (i := 2) nd rfl (.inl rfl) (pe_fn G_level hr1 (pa_cons (pv 1) pa_nil)))
      (pss_cons (ps_if (pt_cmpR op_eq (pv 2) pe_int (nomark _)) (pss_one (ps_ret (pe_ifExp (pt_cmpR op_ne (pe_ix ix_tup (pv 1) pe_int (fun _ _ => rfl)) pe_str (nomark _)) (pe_fn G_told hrk (pa_cons (pv 0) (pa_cons (pv 1) pa_nil))) (pe_op op_add_str (pe_op op_add_str pe_str (pe_fn G_plain hrk (pa_cons (pv 0) (pa_cons (pe_ix ix_tup (pv 1) pe_int (fun _ _ => rfl)) (pa_cons pe_int pa_nil))))) pe_str)))) (pss_nil))
      (pss_cons (ps_if (pt_cmpR op_eq (pv 2) pe_int (nomark _)) (pss_one (ps_ret (pe_op op_add_str pe_str (pe_fn G_plain hrk (pa_cons (pv 0) (pa_cons (pe_ix ix_tup (pv 1) pe_int (fun _ _ => rfl)) (pa_cons pe_int pa_nil))))))) (pss_nil))
      (pss_cons (ps_if (pt_cmpR op_eq (pv 2) pe_int (nomark _)) (pss_one (ps_ret (pe_op op_add_str (pe_op op_add_str pe_str (pe_fn G_gap hr5 (pa_cons (pv 0) pa_nil))) (pe_fn G_plain hrk (pa_cons (pv 0) (pa_cons (pe_ix ix_tup (pv 1) pe_int (fun _ _ => rfl)) (pa_cons pe_int pa_nil))))))) (pss_nil))
      (pss_cons (ps_set (i := 3) nd rfl (.inl rfl) (pe_ifExp (pt_cmpR op_eq (pv 2) pe_int (nomark _)) pe_int (pv 2)))
      (pss_one (ps_ret (pe_op op_add_str (pe_op op_add_str (pe_op op_add_str (pe_op op_add_str (pe_fn G_plain hrk (pa_cons (pv 0) (pa_cons (pe_ix ix_tup (pv 1) pe_int (fun _ _ => rfl)) (pa_cons (pv 3) pa_nil)))) pe_str) (pe_ix ix_tup (pv 1) pe_int (fun _ _ => rfl))) pe_str) (pe_fn G_plain hrk (pa_cons (pv 0) (pa_cons (pe_ix ix_tup (pv 1) pe_int (fun _ _ => rfl)) (pa_cons (pe_op op_add (pv 2) pe_int) pa_nil))))))))))), ?_⟩
  have zb : 5000 ≤ sizeLine := by decide
  refine ⟨_, rfl, v, e, rfl, hx, hw, fun H1 s1 => ⟨_, rfl, rfl, _, rfl, ?_⟩⟩
  have D1 := D.keep s1
  have hx1 : ExAt H1 v e := hx.keep fun a xs e => s1 a _ e
  have gone : ∀ {z : Str} {n' : Int} {H' : Hp}, Wp z e (3 * (m + 1)) (lw e) → z.length ≤ 14 * e.size → But d H1 H' → DrawAt H' d s' ns xt n' → Q (.str z) H' := fun a b c d => q _ _ _ a b ((same_but s1).trans c) d
  clear hx D q
  cases e with
  | num i =>
    obtain ⟨a, rfl, h⟩ := id hx1
    exact ifI_t (i := 8) ⟨_, rfl, a, _, 0, _, rfl, rfl, SqT.of h, rfl, rfl, _, rfl, Kx.ifT' (by decide +kernel) ⟨_, rfl, _, rfl, d, s', ns, xt, n, _, _, rfl, D1, hx1, hw, hdep, hm5, fun z n2 H2 hz hl b2 D2 => gone hz hl b2 D2⟩⟩
  | quo z =>
    obtain ⟨a, rfl, h⟩ := id hx1
    exact ifI_t (i := 8) ⟨_, rfl, a, _, 0, _, rfl, rfl, SqT.of h, rfl, rfl, _, rfl, Kx.ifT' (by decide +kernel) ⟨_, rfl, _, rfl, d, s', ns, xt, n, _, _, rfl, D1, hx1, hw, hdep, hm5, fun z n2 H2 hz hl b2 D2 => gone hz hl b2 D2⟩⟩
  | col x =>
    obtain ⟨a, rfl, h⟩ := id hx1
    exact ifI_t (i := 8) ⟨_, rfl, a, _, 0, _, rfl, rfl, SqT.of h, rfl, rfl, _, rfl, Kx.ifT' (by decide +kernel) ⟨_, rfl, _, rfl, d, s', ns, xt, n, _, _, rfl, D1, hx1, hw, hdep, hm5, fun z n2 H2 hz hl b2 D2 => gone hz hl b2 D2⟩⟩
  | ln x =>
    obtain ⟨a, vx, rfl, h, hxa⟩ := id hx1
    have hdx : x.dep ≤ m := by
      have : x.dep + 1 ≤ m + 1 := hdep
      omega
    refine ifI_t (i := 8) ⟨_, rfl, a, _, 0, _, rfl, rfl, SqT.of h, rfl, rfl, _, rfl, Kx.ifF' (by decide +kernel) ⟨_, rfl, _, rfl, a, _, 1, _, rfl, rfl, SqT.of h, rfl, d, s', ns, xt, n, vx, x, 0, rfl, by decide, D1, hxa, hw, hdx, by omega, fun z n2 H2 hz hl b2 D2 => ?_⟩⟩
    have h2 := size_dep x
    have h3 : 2 ^ x.dep ≤ 2 ^ 5 := Nat.pow_le_pow_right (by decide) (by omega)
    refine ⟨_, _, rfl, rfl, by rw [c_lnp]; omega, _, _, rfl, rfl, by rw [len2, c_lnp, c_rp]; omega, gone ((((wp_ln (g := 0) hz (not_large (by omega))).eq ?_).low (show lw (Ex.ln x) ≤ 100 from Nat.le_refl 100)).up (by omega)) ?_ b2 D2⟩
    · apply tl_inj
      simp only [tlc, List.append_assoc]
      rw [show TL.tl ("length(" : Str) = TL.tl ("length" : Str) ++ (TL.tl (bl 0) ++ TL.tl ("(" : Str)) by decide +kernel]
      simp only [List.append_assoc]
    · have hs : (Ex.ln x).size = x.size + 1 := rfl
      rw [len2, len2, c_lnp, c_rp, hs]
      omega
  | nt x =>
    obtain ⟨a, vx, rfl, h, hxa⟩ := id hx1
    have hdx : x.dep ≤ m := by
      have : x.dep + 1 ≤ m + 1 := hdep
      omega
    refine ifI_f (i := 3) (j := 8) (by decide) ⟨_, rfl, rfl, _, rfl, ifI_t (i := 3) ⟨_, rfl, _, rfl, a, _, 1, _, rfl, rfl, SqT.of h, rfl, d, s', ns, xt, n, vx, x, 3, rfl, by decide, D1, hxa, hw, hdx, by omega, fun z n2 H2 hz hl b2 D2 => ?_⟩⟩
    have h2 := size_dep x
    have h3 : 2 ^ x.dep ≤ 2 ^ 5 := Nat.pow_le_pow_right (by decide) (by omega)
    refine ⟨_, _, rfl, rfl, by rw [c_not]; omega, gone ((wp_nt hz).up (by omega)) ?_ b2 D2⟩
    have hs : (Ex.nt x).size = x.size + 1 := rfl
    rw [len2, c_not, hs]
    omega
  | mn x =>
    obtain ⟨a, vx, rfl, h, hxa⟩ := id hx1
    have hdx : x.dep ≤ m := by
      have : x.dep + 1 ≤ m + 1 := hdep
      omega
    refine ifI_f (i := 7) (j := 8) (by decide) ⟨_, rfl, rfl, _, rfl, ifI_f (i := 7) (j := 3) (by decide) ⟨_, rfl, rfl, _, rfl, ifI_t (i := 7) ⟨_, rfl, d, s', ns, xt, n, rfl, D1, fun g H2 hg b2 D2 => ?_⟩⟩⟩
    have h2 := b2.tup D1.at_d _ _ h
    have hx2 : ExAt H2 vx x := hxa.keep (b2.tup D1.at_d)
    refine ⟨_, _, rfl, rfl, by rw [c_mn, bl_len]; omega, _, rfl, _, rfl, a, _, 1, _, rfl, rfl, SqT.of h2, rfl, d, s', ns, xt, _, vx, x, 7, rfl, by decide, D2, hx2, hw, hdx, by omega, fun z n3 H3 hz hl b3 D3 => ?_⟩
    have h4 := size_dep x
    have h3 : 2 ^ x.dep ≤ 2 ^ 5 := Nat.pow_le_pow_right (by decide) (by omega)
    refine ⟨_, _, rfl, rfl, by rw [len2, c_mn, bl_len]; omega, gone ((wp_mn (g := g) hz).up (by omega)) ?_ (b2.trans b3) D3⟩
    have hs : (Ex.mn x).size = x.size + 1 := rfl
    rw [len2, len2, c_mn, bl_len, hs]
    omega
  | two op x y =>
    obtain ⟨a, vx, vy, rfl, h, hxa, hya⟩ := id hx1
    obtain ⟨ho, wx, wy⟩ := hw
    have hdx : x.dep ≤ m ∧ y.dep ≤ m := by
      have : max x.dep y.dep + 1 ≤ m + 1 := hdep
      omega
    obtain ⟨k', hk'⟩ : ∃ k', levW op = k' := ⟨_, rfl⟩
    have hkk := lev_ops op ho
    have hlv : lvE (.two op x y) = k' := hk'
    have hlw : lw (.two op x y) = k' := by
      unfold lw
      rw [hlv, if_neg (by omega)]
    rw [hlw] at gone
    rw [hlv]
    have ne : ∀ {j : Nat}, k' ≠ j → decide (V.int (k' : Int) = V.int (j : Int)) = false := fun hj => decide_eq_false fun z => hj (by have := V.int.inj z; omega)
    refine Kx.ifF' (ne (j := 8) (by omega)) ⟨_, rfl, rfl, _, rfl, Kx.ifF' (ne (j := 3) (by omega)) ⟨_, rfl, rfl, _, rfl, Kx.ifF' (ne (j := 7) (by omega)) ?_⟩⟩
    refine ⟨_, rfl, rfl, _, rfl, ?_⟩
    obtain ⟨o1, o2, _, _⟩ := op_facts op ho
    rw [hk'] at hkk
    by_cases h4 : k' = 4
    · subst h4
      refine ifI_t (i := 4) ?_
      refine ⟨_, rfl, _, rfl, a, _, 2, _, rfl, rfl, SqT.of h, rfl, _, rfl, d, s', ns, xt, n, vx, x, 5, rfl, by omega, D1, hxa, wx, hdx.1, by omega, fun z1 n2 H2 hz1 m1 b2 D2 => ?_⟩
      have h2 := b2.tup D1.at_d _ _ h
      have hy2 : ExAt H2 vy y := hya.keep (b2.tup D1.at_d)
      have q1 := size_dep x
      have q2 : 2 ^ x.dep ≤ 2 ^ 5 := Nat.pow_le_pow_right (by decide) (by omega)
      have q3 := size_dep y
      have q4 : 2 ^ y.dep ≤ 2 ^ 5 := Nat.pow_le_pow_right (by decide) (by omega)
      refine ⟨_, _, rfl, rfl, by rw [c_bl]; omega, _, rfl, a, _, 1, _, rfl, rfl, SqT.of h2, rfl, _, _, rfl, rfl, by rw [len2, c_bl]; omega, _, _, rfl, rfl, by rw [len2, len2, c_bl]; omega, ?_⟩
      refine ⟨_, rfl, _, rfl, a, _, 3, _, rfl, rfl, SqT.of h2, rfl, _, rfl, _, _, rfl, rfl, d, s', ns, xt, _, vy, y, 4 + 1, rfl, by omega, D2, hy2, wy, hdx.2, by omega, fun z2 n3 H3 hz2 m2 b3 D3 => ?_⟩
      refine ⟨_, _, rfl, rfl, by rw [len2, len2, len2, c_bl]; omega, ?_⟩
      have p := wp_two (g := 1) (hz1) hz2 ho hk' (fun _ => by decide)
      refine gone ((p.eq ?_).up (by omega)) ?_ (b2.trans b3) D3
      · apply tl_inj
        simp only [tlc, List.append_assoc]
        rw [show TL.tl (" " : Str) = TL.tl (bl 1) by decide +kernel]
      · have hs : (Ex.two op x y).size = x.size + y.size + 1 := rfl
        rw [len2, len2, len2, len2, c_bl, hs]
        omega
    · refine Kx.ifF' (ne (j := 4) h4) ⟨_, rfl, ?_⟩
      have hfk : firstL k' = k' := if_neg h4
      refine ⟨_, rfl, _, rfl, a, _, 2, _, rfl, rfl, SqT.of h, rfl, _, rfl, d, s', ns, xt, n, vx, x, k', rfl, by omega, D1, hxa, wx, hdx.1, by omega, fun z1 n2 H2 hz1 m1 b2 D2 => ?_⟩
      have h2 := b2.tup D1.at_d _ _ h
      have hy2 : ExAt H2 vy y := hya.keep (b2.tup D1.at_d)
      have q1 := size_dep x
      have q2 : 2 ^ x.dep ≤ 2 ^ 5 := Nat.pow_le_pow_right (by decide) (by omega)
      have q3 := size_dep y
      have q4 : 2 ^ y.dep ≤ 2 ^ 5 := Nat.pow_le_pow_right (by decide) (by omega)
      refine ⟨_, _, rfl, rfl, by rw [c_bl]; omega, _, rfl, a, _, 1, _, rfl, rfl, SqT.of h2, rfl, _, _, rfl, rfl, by rw [len2, c_bl]; omega, _, _, rfl, rfl, by rw [len2, len2, c_bl]; omega, ?_⟩
      refine ⟨_, rfl, _, rfl, a, _, 3, _, rfl, rfl, SqT.of h2, rfl, _, rfl, _, _, rfl, rfl, d, s', ns, xt, _, vy, y, k' + 1, rfl, by omega, D2, hy2, wy, hdx.2, by omega, fun z2 n3 H3 hz2 m2 b3 D3 => ?_⟩
      refine ⟨_, _, rfl, rfl, by rw [len2, len2, len2, c_bl]; omega, ?_⟩
      have p := wp_two (g := 1) (by rw [hfk]; exact hz1) hz2 ho hk' (fun _ => by decide)
      refine gone ((p.eq ?_).up (by omega)) ?_ (b2.trans b3) D3
      · apply tl_inj
        simp only [tlc, List.append_assoc]
        rw [show TL.tl (" " : Str) = TL.tl (bl 1) by decide +kernel]
      · have hs : (Ex.two op x y).size = x.size + y.size + 1 := rfl
        rw [len2, len2, len2, len2, c_bl, hs]
        omega
end
end Kj

namespace Kj
open PySem PySem.Spec PyProof.Rows L2 Kx TL
abbrev s_law_details : Stmt := topS 76
abbrev s_law_lines : Stmt := topS 77
/-! ### what a drawn step is, for its text -/
theorem goodN : ∀ x ∈ allNames ++ stepNms, good x := by
  have h : (allNames ++ stepNms).all (fun x => wordB x && decide (x ∉ owns) && decide (x.length ≤ 10)) = true := by decide +kernel
  intro x hx
  have := List.all_eq_true.mp h x hx
  simp only [Bool.and_eq_true] at this
  exact ⟨this.1.1, of_decide_eq_true this.1.2, of_decide_eq_true this.2⟩
def DetW' : Det → List Str → Prop
  | .read cs, ins => ins = [] ∧ cs ≠ [] ∧ cs.length ≤ 5 ∧ ∀ c ∈ cs, good c.1
  | .filter e, ins => ∃ x, ins = [x] ∧ good x ∧ ExW e ∧ e.dep ≤ 4
  | .map ms, ins => ∃ x, ins = [x] ∧ good x ∧ ms ≠ [] ∧ ms.length ≤ 3 ∧ ∀ m ∈ ms, ExW m.1 ∧ m.1.dep ≤ 4 ∧ good m.2.2
  | .fold ks fs, ins => ∃ x, ins = [x] ∧ good x ∧ (∀ k ∈ ks, good k.1) ∧ ks.length ≤ 50 ∧ fs ≠ [] ∧ fs.length ≤ 3 ∧ ∀ f ∈ fs, f.1 ∈ six ∧ good f.2.2.2 ∧ (match f.2.1 with
    | none => f.1 = "count"
    | some e => f.1 ≠ "count" ∧ ExW e ∧ e.dep ≤ 4)
  | .join ks, ins => ∃ x y, ins = [x, y] ∧ good x ∧ good y ∧ ks ≠ [] ∧ ks.length ≤ 50 ∧ ∀ k ∈ ks, good k.1
  | .union, ins => ∃ x y, ins = [x, y] ∧ good x ∧ good y
  | .unlike, ins => ∃ x, ins = [x] ∧ good x
  | .sort ws m, ins => ∃ x, ins = [x] ∧ good x ∧ ws ≠ [] ∧ ws.length ≤ 2 ∧ (∀ p ∈ ws, good p.1 ∧ p.2 ∈ (["up", "down"] : List Str)) ∧ 1 ≤ m ∧ m ≤ 5
theorem kind_w {cs : List NC} (hc : ∀ c ∈ cs, c.1 ∈ allNames) {e : Ex} {b : Bool} (h : Kind (kfN cs) e b) : ExW e := by
  induction h with
  | num h => exact h
  | quo h => exact (show ∀ z ∈ (["a", "b", "bb", ""] : List Str), 34 ∉ TL.tl z ∧ 10 ∉ TL.tl z ∧ z.length ≤ 10 by decide +kernel) _ h
  | col h =>
    unfold kfN at h
    rename_i x b
    cases e : cs.find? (fun c => decide (c.1 = x)) with
    | none => rw [e] at h; cases h
    | some c =>
      have h1 := List.find?_some e
      have h2 := List.mem_of_find?_eq_some e
      have h3 : c.1 = x := of_decide_eq_true h1
      rw [← h3]
      exact goodN _ (List.mem_append_left _ (hc c h2))
  | arith h _ _ ha hb =>
    refine ⟨?_, ha, hb⟩
    have a : ∀ op ∈ sums, op ∈ Kx.ops13 := by decide +kernel
    have b : ∀ op ∈ cmps, op ∈ Kx.ops13 := by decide +kernel
    rcases h with h | h | h | h
    · exact a _ h
    · exact b _ h
    · rw [h]; decide +kernel
    · rw [h]; decide +kernel
  | text h _ _ ha hb => exact ⟨(show ∀ op ∈ cmpsT, op ∈ Kx.ops13 by decide +kernel) _ h, ha, hb⟩
  | nt _ ha => exact ha
  | mn _ ha => exact ha
  | ln _ ha => exact ha
theorem nodup_lenS : ∀ {l m : List Str}, l.Nodup → (∀ x ∈ l, x ∈ m) → l.length ≤ m.length
  | [], _, _, _ => Nat.zero_le _
  | x :: r, m, hn, h => by
    obtain ⟨h1, h2⟩ := List.nodup_cons.mp hn
    have hx := h x List.mem_cons_self
    have := nodup_lenS (m := m.erase x) h2 fun y hy => by
      have hne : y ≠ x := fun z => h1 (z ▸ hy)
      exact (List.mem_erase_of_ne hne).mpr (h y (List.mem_cons_of_mem _ hy))
    rw [List.length_erase_of_mem hx] at this
    have hp : 0 < m.length := List.length_pos_iff.mpr (List.ne_nil_of_mem hx)
    rw [List.length_cons]
    omega
theorem all_len : allNames.length ≤ 50 := by decide +kernel
theorem step_w {kn : List (Str × List NC)} (hn : ∀ e ∈ kn, e.1 ∈ stepNms) (hc : ∀ e ∈ kn, ∀ c ∈ e.2, c.1 ∈ allNames) {ins : List Str} {det : Det} {cs : List NC} (h : StepOk kn ins det cs) (inn : ∀ c ∈ cs, c.1 ∈ allNames) (nd : (cs.map (·.1)).Nodup) : DetW' det ins := by
  have gn : ∀ {x : Str} {c : List NC}, (x, c) ∈ kn → good x := fun hk => goodN _ (List.mem_append_right _ (hn _ hk))
  have ga : ∀ {x : Str}, x ∈ allNames → good x := fun h => goodN _ (List.mem_append_left _ h)
  cases h with
  | filter hk k d => exact ⟨_, rfl, gn hk, kind_w (hc _ hk) k, d⟩
  | map hk k ndm ne l =>
    refine ⟨_, rfl, gn hk, ne, l, fun m hm => ⟨kind_w (hc _ hk) (k m hm).1, (k m hm).2, ga ?_⟩⟩
    exact inn (m.2.2, m.2.1) (List.mem_map.mpr ⟨m, hm, rfl⟩)
  | fold hk hkk hf ndd ne l =>
    rename_i one cs' ks fs
    refine ⟨_, rfl, gn hk, fun k hk' => ga (hc _ hk k (hkk k hk')), ?_, ne, l, fun f hf' => ?_⟩
    · have h1 := (List.nodup_append.mp ndd).1
      have := nodup_lenS (m := allNames) h1 fun x hx => by
        obtain ⟨k, hk', rfl⟩ := List.mem_map.mp hx
        exact hc _ hk k (hkk k hk')
      rw [List.length_map] at this
      exact Nat.le_trans this all_len
    · obtain ⟨o1, o2⟩ := hf f hf'
      refine ⟨o1, ga (inn (f.2.2.2, lateK f.1 f.2.2.1) (List.mem_append_right _ (List.mem_map.mpr ⟨f, hf', rfl⟩))), ?_⟩
      cases e : f.2.1 with
      | none =>
        rw [e] at o2
        exact o2.1
      | some x =>
        rw [e] at o2
        exact ⟨o2.1, kind_w (hc _ hk) o2.2.1, by have := o2.2.2.1; omega⟩
  | join h1 h2 ne hk ndd =>
    rename_i one other f s ks
    refine ⟨_, _, rfl, gn h1, gn h2, ne, ?_, fun k hk' => ga (hc _ h1 k (hk k hk').1)⟩
    have h3 : (ks.map (·.1)).Nodup := by
      unfold joinC at ndd
      rw [List.map_append] at ndd
      exact (List.nodup_append.mp ndd).1
    have := nodup_lenS (m := allNames) h3 fun x hx => by
      obtain ⟨k, hk', rfl⟩ := List.mem_map.mp hx
      exact hc _ h1 k (hk k hk').1
    rw [List.length_map] at this
    exact Nat.le_trans this all_len
  | union h1 h2 => exact ⟨_, _, rfl, gn h1, gn h2⟩
  | unlike hk => exact ⟨_, rfl, gn hk⟩
  | sort hk ne hw l m1 m5 =>
    refine ⟨_, rfl, gn hk, ne, l, fun p hp => ⟨?_, ?_⟩, m1, m5⟩
    · obtain ⟨⟨k, hk'⟩, _⟩ := hw p hp
      exact ga (hc _ hk _ hk')
    · obtain ⟨_, hd⟩ := hw p hp
      rcases hd with hd | hd <;> rw [hd] <;> simp
def StpW (s : Stp) : Prop := good s.name ∧ DetW' s.det s.ins
theorem job_w {ss : List Stp} {kn : List (Str × List NC)} (h : JobOk ss kn) : (∀ e ∈ kn, e.1 ∈ stepNms) → (∀ e ∈ kn, ∀ c ∈ e.2, c.1 ∈ allNames) ∧ ∀ s ∈ ss, StpW s := by
  induction h with
  | base =>
    intro hn
    refine ⟨fun e he => ?_, fun s hs => ?_⟩
    · rcases List.mem_cons.mp he with rfl | he
      · exact (show ∀ c ∈ colsA, c.1 ∈ allNames by decide +kernel)
      · rw [List.mem_singleton.mp he]
        exact (show ∀ c ∈ colsB, c.1 ∈ allNames by decide +kernel)
    · have gA : ∀ c ∈ colsA, good c.1 := fun c hc => goodN _ (List.mem_append_left _ ((show ∀ c ∈ colsA, c.1 ∈ allNames by decide +kernel) c hc))
      have gB : ∀ c ∈ colsB, good c.1 := fun c hc => goodN _ (List.mem_append_left _ ((show ∀ c ∈ colsB, c.1 ∈ allNames by decide +kernel) c hc))
      rcases List.mem_cons.mp hs with rfl | hs
      · exact ⟨goodN _ (by decide +kernel), rfl, List.cons_ne_nil _ _, by decide, gA⟩
      · rw [List.mem_singleton.mp hs]
        exact ⟨goodN _ (by decide +kernel), rfl, List.cons_ne_nil _ _, by decide, gB⟩
  | step h n k nd inn ne ih =>
    rename_i ss kn nm ins det cs
    intro hn
    obtain ⟨i1, i2⟩ := ih fun e he => hn e (List.mem_append_left _ he)
    refine ⟨fun e he => ?_, fun s hs => ?_⟩
    · rcases List.mem_append.mp he with he | he
      · exact i1 e he
      · rw [List.mem_singleton.mp he]
        exact inn
    · rcases List.mem_append.mp hs with hs | hs
      · exact i2 s hs
      · rw [List.mem_singleton.mp hs]
        refine ⟨goodN _ (List.mem_append_right _ (hn (nm, cs) (List.mem_append_right _ (List.mem_singleton.mpr rfl)))), ?_⟩
        exact step_w (fun e he => hn e (List.mem_append_left _ he)) i1 k inn nd
/-! ### the step as it is read -/
def cvD : Det → Dt
  | .read _ => .union
  | .filter e => .filter e
  | .map ms => .map (ms.map fun m => (m.1, m.2.2))
  | .fold ks fs => .fold (ks.map (·.1)) (fs.map fun f => (f.1, f.2.1, f.2.2.2))
  | .join ks => .join (ks.map (·.1))
  | .union => .union
  | .unlike => .unlike
  | .sort ws m => .sort ws m.toNat
def cvS (s : Stp) : Stq := match s.det with
  | .read cs => .read s.name (cs.map fun c => (c.1, kW c.2))
  | d => .step s.name d.what (s.ins, cvD d)
end Kj

namespace Kj
open PySem PySem.Spec PyProof.Rows L2 Kx TL
theorem wp_len2 {z : Str} {e : Ex} (h1 : z.length ≤ 14 * e.size + 2) (hd : e.dep ≤ 5) : z.length ≤ 436 := by
  have h2 := size_dep e
  have h3 : 2 ^ e.dep ≤ 2 ^ 5 := Nat.pow_le_pow_right (by decide) hd
  omega
theorem join_len2 (zs : List Str) : (Txt.join ", " zs).length ≤ (zs.map (·.length)).sum + 2 * zs.length := by
  induction zs with
  | nil => decide +kernel
  | cons z r ih =>
    cases r with
    | nil =>
      rw [Kx.join_one]
      show z.length ≤ z.length + 0 + _
      omega
    | cons y r =>
      rw [join_two]
      simp only [len2, bl_len, List.map_cons, List.sum_cons, List.length_cons] at ih ⊢
      rw [show (mkS [44]).length = 1 by decide +kernel]
      omega
theorem pair_list {A B : Type} {Q : Str → B → Prop} {c : Nat} {g : A → B} : ∀ {zs : List Str} {ms : List A}, Paired (fun z m => Q z (g m) ∧ z.length ≤ c) zs ms → ∃ ps : List (Str × B), ps.map (·.1) = zs ∧ ps.map (·.2) = ms.map g ∧ (∀ p ∈ ps, Q p.1 p.2) ∧ ∀ z ∈ zs, z.length ≤ c
  | _, _, .nil => ⟨[], rfl, rfl, (fun p h => by cases h), (fun z h => by cases h)⟩
  | z :: zs, m :: ms, .cons h r => by
    obtain ⟨ps, e1, e2, h1, h2⟩ := pair_list r
    refine ⟨(z, g m) :: ps, by rw [List.map_cons, e1], by rw [List.map_cons, List.map_cons, e2], fun p hp => ?_, fun y hy => ?_⟩
    · rcases List.mem_cons.mp hp with rfl | hp
      · exact h.1
      · exact h1 p hp
    · rcases List.mem_cons.mp hy with rfl | hy
      · exact h.2
      · exact h2 y hy
theorem good_ok {x : Str} (h : good x) : PyData.strOk x = true := by
  have h1 := h.1
  unfold wordB at h1
  rw [strOk_tl]
  cases e : TL.tl x with
  | nil => rw [e] at h1; cases h1
  | cons c q =>
    rw [e] at h1
    dsimp only at h1
    rw [Bool.and_eq_true, List.all_eq_true] at h1
    unfold okL
    rw [List.all_eq_true]
    intro y hy
    have h2 := h1.2 y hy
    unfold isRun isLet isFig at h2
    simp only [Bool.or_eq_true, Bool.and_eq_true, decide_eq_true_eq] at h2
    simp only [Bool.and_eq_true, Bool.or_eq_true, Bool.not_eq_true', decide_eq_true_eq, decide_eq_false_iff_not]
    omega
theorem shaped_names {ks : List Str} (h : ∀ z ∈ ks, PyData.strOk z = true) : SeqAt.shaped (.tuple (ks.map PyData.str)) = true := by
  unfold SeqAt.shaped
  rw [PyData.canLay0, lay_strs h, PyData.depth, depth_strs]
  rfl
theorem eqv_nil {ks : List Str} (h : ks ≠ []) : PyData.eqv (.tuple (ks.map PyData.str)) (.tuple []) = false := by
  cases ks with
  | nil => exact absurd rfl h
  | cons k r => rfl
theorem cf1 : ("filter " : Str).length = 7 ∧ (" where " : Str).length = 7 ∧ ("map " : Str).length = 4 ∧ (" to " : Str).length = 4 ∧ (" as " : Str).length = 4 ∧ ("fold " : Str).length = 5 ∧ (" by " : Str).length = 4 ∧ (": " : Str).length = 2 ∧ ("join " : Str).length = 5 ∧ (", " : Str).length = 2 ∧ ("union " : Str).length = 6 ∧ (" , " : Str).length = 3 ∧ ("unlike " : Str).length = 7 ∧ ("sort " : Str).length = 5 ∧ (" first " : Str).length = 7 ∧ (") as " : Str).length = 5 ∧ ("" : Str).length = 0 ∧ (" " : Str).length = 1 ∧ ("(" : Str).length = 1 := by decide +kernel
section
variable {P : Program} {w : World} {K : PySem.W.Frag} {mg : Str → Option Value} {base : Heap}
def spDetails : Sp := fun vs H Q _ => ∃ (d s : Addr) (ns : List Int) (xt : List V) (n : Int) (st : Addr) (sp : Stp), vs = [.ref d, .ref st] ∧ DrawAt H d s ns xt n ∧ StpAt H st sp ∧ StpW sp ∧ sp.det.what ≠ "read" ∧ ∀ (z : Str) (n' : Int) (H' : Hp), DetW z sp.det.what (sp.ins, cvD sp.det) → z.length ≤ 3000 → But d H H' → DrawAt H' d s ns xt n' → Q (.str z) H'
abbrev N_details : List Str := ["draw", "step", "name", "what", "inputs", "details", "parts", "told", "late", "keys", "folds", "kind", "ways", "column", "way"]
theorem sc_details : FnScope N_details ["draw", "step"] (defScope s_law_details) := ⟨rfl, rfl, rfl, by decide +kernel, rfl, by decide +kernel, by decide +kernel⟩
theorem ok_details {f : Addr} {fd : FuncData} {k : Nat} (F : Fun K "_law_details" "_law_details" s_law_details f fd) (hk : 5 ≤ k) (m_str : mg "str" = none) (G_told : Ready P w K mg base k "_law_told" ["draw", "told"] (spTold 4)) (G_plain : Ready P w K mg base k "_law_plain" ["draw", "told", "least"] (spPlain 4)) : FnOk P w K mg base CX0 (k + 1) f fd ["draw", "step"] spDetails := by
  refine F.ok sc_details (fun vs H Q E h => ?_) (fun cdv A outer s H vs Q E hr h => ?_)
  · obtain ⟨d, s, ns, xt, n, st, sp, rfl, _⟩ := h
    rfl
  obtain ⟨d, s', ns, xt, n, st, sp, rfl, D, hst, hw, hnr, q⟩ := h
  have nd := sc_details.nd
  have hrk : Room k _ := hr
  have hu64 : _ + 64 < cLine := hr.units
  refine ⟨_, pss_cons (ps_asg (pv 1) (pg_tup rfl (pgs_cons (pg_name (i := 2) nd rfl (.inl rfl)) (pgs_cons (pg_name (i := 3) nd rfl (.inl rfl)) (pgs_cons (pg_name (i := 4) nd rfl (.inl rfl)) (pgs_cons (pg_name (i := 5) nd rfl (.inl rfl)) pgs_nil))))))
      (pss_cons (ps_if (pt_cmpR op_eq (pv 3) pe_str (nomark _)) (pss_one (ps_ret (pe_op op_add_str (pe_op op_add_str (pe_op op_add_str pe_str (pe_ix ix_tup (pv 4) pe_int (fun _ _ => rfl))) pe_str) (pe_fn G_plain hrk (pa_cons (pv 0) (pa_cons (pv 5) (pa_cons pe_int pa_nil))))))) (pss_nil))
      (pss_cons (ps_if (pt_cmpR op_eq (pv 3) pe_str (nomark _)) (pss_cons (ps_setLc (i := 6) (own := [("told", 7), ("late", 8)]) (g := (gTup K 2 (gCons (gName 7) (gCons (gName 8) gNil)))) (tt := tYes) (te := tOp (fun x y H Q => ∃ i j, x = V.str i ∧ y = V.str j ∧ i.length + j.length ≤ sizeLine ∧ Q (V.str (i ++ j)) H) (tOp (fun x y H Q => ∃ i j, x = V.str i ∧ y = V.str j ∧ i.length + j.length ≤ sizeLine ∧ Q (V.str (i ++ j)) H) (tCall (spPlain 4) [] E0 (tCons (tVar 0) (tCons (tVar 7) (tCons (tC (.int 0)) tNil)))) (tC (.str " as "))) (tVar 8)) rfl nd rfl rfl (sw_true rfl rfl rfl (by decide +kernel)) (pi_tup (pv 5)) (blkOk_by (N := N_details) (sc := defScope s_law_details) (by decide +kernel)) (fun _ _ _ _ _ => pg_tup rfl (pgs_cons (pg_name (i := 7) nd rfl (.inl rfl)) (pgs_cons (pg_name (i := 8) nd rfl (.inl rfl)) pgs_nil))) (fun _ _ _ _ _ => pts_nil) (fun _ _ _ _ _ => (pe_op op_add_str (pe_op op_add_str (pe_fn G_plain hrk (pa_cons (pv 0) (pa_cons (pv 7) (pa_cons pe_int pa_nil)))) pe_str) (pv 8))))
      (pss_one (ps_ret (pe_op op_add_str (pe_op op_add_str (pe_op op_add_str pe_str (pe_ix ix_tup (pv 4) pe_int (fun _ _ => rfl))) pe_str) (pe_join pe_str (pv 6)))))) (pss_nil))
      (pss_cons (ps_if (pt_cmpR op_eq (pv 3) pe_str (nomark _)) (pss_cons (ps_set (i := 9) nd rfl (.inl rfl) (pe_ifExp (pt_cmpR (op_eqD hu64) (pe_ix ix_tup (pv 5) pe_int (fun _ _ => rfl)) (pe_tup pa_nil) (nomark _)) pe_str (pe_op op_add_str pe_str (pe_join pe_str (pe_ix ix_tup (pv 5) pe_int (fun _ _ => rfl))))))
      (pss_cons (ps_set (i := 10) nd rfl (.inl rfl) (pe_lst pa_nil))
      (pss_cons (ps_for PassesOwn.never rfl (pi_tup (pe_ix ix_tup (pv 5) pe_int (fun _ _ => rfl))) (pg_tup rfl (pgs_cons (pg_name (i := 11) nd rfl (.inl rfl)) (pgs_cons (pg_name (i := 7) nd rfl (.inl rfl)) (pgs_cons (pg_name (i := 8) nd rfl (.inl rfl)) pgs_nil)))) (pss_one (ps_expr (pe_bm PySem.F.plainAttrs_list PySem.F.slot_list_append PySem.F.type_list_append mt_append (pv 10) (pa_cons (pe_op op_add_str (pe_op op_add_str (pe_op op_add_str (pe_op op_add_str (pv 11) pe_str) (pe_ifExp (pt_cmpR op_isN (pv 7) pe_non (nomark _)) pe_str (pe_fn G_told hrk (pa_cons (pv 0) (pa_cons (pv 7) pa_nil))))) pe_str) (pv 8)) pa_nil)))))
      (pss_one (ps_ret (pe_op op_add_str (pe_op op_add_str (pe_op op_add_str (pe_op op_add_str pe_str (pe_ix ix_tup (pv 4) pe_int (fun _ _ => rfl))) (pv 9)) pe_str) (pe_join pe_str (pv 10)))))))) (pss_nil))
      (pss_cons (ps_if (pt_cmpR op_eq (pv 3) pe_str (nomark _)) (pss_one (ps_ret (pe_op op_add_str (pe_op op_add_str (pe_op op_add_str (pe_op op_add_str (pe_op op_add_str pe_str (pe_ix ix_tup (pv 4) pe_int (fun _ _ => rfl))) pe_str) (pe_ix ix_tup (pv 4) pe_int (fun _ _ => rfl))) pe_str) (pe_join pe_str (pv 5))))) (pss_nil))
      (pss_cons (ps_if (pt_cmpR op_eq (pv 3) pe_str (nomark _)) (pss_one (ps_ret (pe_op op_add_str (pe_op op_add_str (pe_op op_add_str pe_str (pe_ix ix_tup (pv 4) pe_int (fun _ _ => rfl))) pe_str) (pe_ix ix_tup (pv 4) pe_int (fun _ _ => rfl))))) (pss_nil))
      (pss_cons (ps_if (pt_cmpR op_eq (pv 3) pe_str (nomark _)) (pss_one (ps_ret (pe_op op_add_str pe_str (pe_ix ix_tup (pv 4) pe_int (fun _ _ => rfl))))) (pss_nil))
      (pss_cons (ps_setLc (i := 12) (own := [("column", 13), ("way", 14)]) (g := (gTup K 2 (gCons (gName 13) (gCons (gName 14) gNil)))) (tt := tYes) rfl nd rfl rfl (sw_true rfl rfl rfl (by decide +kernel)) (pi_tup (pe_ix ix_tup (pv 5) pe_int (fun _ _ => rfl))) (blkOk_by (N := N_details) (sc := defScope s_law_details) (by decide +kernel)) (fun _ _ _ _ _ => pg_tup rfl (pgs_cons (pg_name (i := 13) nd rfl (.inl rfl)) (pgs_cons (pg_name (i := 14) nd rfl (.inl rfl)) pgs_nil))) (fun _ _ _ _ _ => pts_nil) (fun _ _ _ _ _ => (pe_op op_add_str (pe_op op_add_str (pv 13) pe_str) (pv 14))))
      (pss_one (ps_ret (pe_op op_add_str (pe_op op_add_str (pe_op op_add_str (pe_op op_add_str (pe_op op_add_str pe_str (pe_ix ix_tup (pv 4) pe_int (fun _ _ => rfl))) pe_str) (pe_join pe_str (pv 12))) pe_str) (pe_callTy call_str_int (by rfl) m_str PyProof.Rows.boot_str (pa_cons (pe_ix ix_tup (pv 5) pe_int (fun _ _ => rfl)) pa_nil)))))))))))), ?_⟩
  have zb : 20000 ≤ sizeLine := by decide
  obtain ⟨nm, ins, det⟩ := sp
  obtain ⟨inp, dv, h1, h2, hd⟩ := hst
  dsimp only at h1 h2 hd hnr q
  obtain ⟨_, hw⟩ := hw
  dsimp only at hw
  refine ⟨_, rfl, st, _, rfl, SqT.of h1, rfl, _, _, rfl, _, _, rfl, _, _, rfl, _, _, rfl, rfl, ?_⟩
  cases det with
  | read cs => exact absurd rfl hnr
  | filter e =>
    obtain ⟨x, rfl, gx, we, de⟩ := hw
    have lx := gx.2.2
    have hd : ExAt H dv e := hd
    refine ⟨_, rfl, rfl, _, rfl, ifS_t ⟨_, rfl, inp, _, 0, _, rfl, rfl, SqT.of h2, rfl, _, _, rfl, rfl, by (try simp only [len2]); (try simp only [cf1]); omega, _, _, rfl, rfl, by (try simp only [len2]); (try simp only [cf1]); omega, _, rfl, _, rfl, d, s', ns, xt, n, dv, e, 0, rfl, by decide, D, hd, we, de, by decide, fun z n2 H2 hz hl b2 D2 => ?_⟩⟩
    have l1 := wp_len2 hl (by omega)
    exact ⟨_, _, rfl, rfl, by (try simp only [len2]); (try simp only [cf1]); omega, q _ n2 H2 (det_filter gx hz (by decide) (by omega)) (by (try simp only [len2]); (try simp only [cf1]); omega) b2 D2⟩
  | map ms =>
    obtain ⟨x, rfl, gx, ne, l3, hms⟩ := hw
    have lx := gx.2.2
    obtain ⟨t, as, rfl, ht, hm, rfl⟩ := hd
    refine ⟨_, rfl, rfl, _, rfl, ifS_f (a := "map") (by decide +kernel) ⟨_, rfl, rfl, _, rfl, ifS_t ?_⟩⟩
    refine ⟨_, rfl, t, rfl, ⟨_, SqT.of ht⟩, fun D1 hD1 => ?_⟩
    refine lc_it (walk_tup (xs := as.map fun p => .ref p.1)) (fun i H' => ∃ (n' : Int) (zs : List Str), But d H H' ∧ DrawAt H' d s' ns xt n' ∧ H' D1 = some (.lst (zs.map V.str)) ∧ Paired (fun z (m : MC) => MpW z (m.1, m.2.2) ∧ z.length ≤ 460) zs ((as.map (·.2)).take i)) ⟨n, [], fun b o hb e => (by rw [upd_ne (ne_of_none e hD1)]; exact e), D.keep (same_upd hD1), upd_same, .nil⟩ (fun i H' _ ⟨_, _, b, _⟩ => SqT.of (b.tup D.at_d _ _ ht)) ?_ ?_
    · rintro i v H' H'' hi ⟨n', zs, b, D', eD, hp⟩ ⟨rfl, hv⟩
      rw [List.getElem?_map] at hv
      obtain ⟨⟨pa, m⟩, hpm, rfl⟩ := Option.map_eq_some_iff.mp hv
      have hmem := List.mem_of_getElem? hpm
      obtain ⟨told, ht1, hx⟩ := hm _ hmem
      obtain ⟨we, de, gl⟩ := hms m (List.mem_map.mpr ⟨_, hmem, rfl⟩)
      have ll := gl.2.2
      have ht2 := b.tup D.at_d _ _ ht1
      have hx2 : ExAt H'' told m.1 := hx.keep (b.tup D.at_d)
      have him : (as.map (·.2))[i]? = some m := by rw [List.getElem?_map, hpm]; rfl
      refine ⟨pa, _, rfl, SqT.of ht2, rfl, _, _, rfl, _, _, rfl, rfl, rfl, _, rfl, _, rfl, d, s', ns, xt, n', told, m.1, 0, rfl, by decide, D', hx2, we, de, by decide, fun z n2 H2 hz hl b2 D2 => ?_⟩
      have l1 := wp_len2 hl (by omega)
      have nDd : D1 ≠ d := fun z => by rw [z, D.at_d] at hD1; cases hD1
      have lz : zs.length ≤ 3 := by
        have := Paired.length hp
        rw [this, List.length_take]
        omega
      refine ⟨_, _, rfl, rfl, by (try simp only [len2]); (try simp only [cf1]); omega, _, rfl, _, _, rfl, rfl, by (try simp only [len2]); (try simp only [cf1]); omega, zs.map V.str, b2 _ _ nDd eD, Nat.lt_of_le_of_lt (show _ ≤ 3 by rw [List.length_map]; exact lz) (by decide), n2, zs ++ [z ++ " as " ++ m.2.2], fun c o hc e => ?_, ⟨?_, ?_, D2.n0⟩, ?_, ?_⟩
      · rw [upd_ne (ne_of_none e hD1)]
        exact b2 c o hc (b c o hc e)
      · rw [upd_ne nDd.symm]
        exact D2.at_d
      · rw [upd_ne (fun z => by rw [← z, D.at_s] at hD1; cases hD1)]
        exact D2.at_s
      · rw [List.map_append]
        exact upd_same
      · rw [List.take_add_one, him]
        exact Paired.snoc hp ⟨mp_one gl hz (by decide) (by omega), by (try simp only [len2]); (try simp only [cf1]); omega⟩
    · rintro H' ⟨n', zs, b, D', eD, hp⟩
      rw [List.length_map, List.take_of_length_le (by rw [List.length_map]; exact Nat.le_refl _)] at hp
      have h2' := b.tup D.at_d _ _ h2
      have lz : zs.length ≤ 3 := by rw [Paired.length hp]; exact l3
      obtain ⟨ps, e1, e2, hps, hlen⟩ := pair_list (g := fun m : MC => (m.1, m.2.2)) hp
      have hsum := sum_le (g := fun z : Str => z.length) (c := 460) (l := zs) hlen
      have hsum2 : (zs.map (·.length)).sum ≤ 3 * 460 := Nat.le_trans hsum (Nat.mul_le_mul_right _ lz)
      have jl := join_len2 zs
      refine ⟨_, rfl, inp, _, 0, _, rfl, rfl, SqT.of h2', rfl, _, _, rfl, rfl, by (try simp only [len2]); (try simp only [cf1]); omega, _, _, rfl, rfl, by (try simp only [len2]); (try simp only [cf1]); omega, ⟨_, rfl⟩, _, rfl, _, D1, zs, rfl, rfl, .inl (SqL.of eD), by rw [show (", " : Str).length = 2 by decide +kernel]; omega, _, _, rfl, rfl, by (try simp only [len2]); (try simp only [cf1]); omega, q _ n' H' ?_ (by (try simp only [len2]); (try simp only [cf1]); omega) b D'⟩
      have := det_map (ps := ps) gx (fun z => ne (by rw [z] at e2; exact List.map_eq_nil_iff.mp e2.symm)) (by rw [← List.length_map (f := Prod.fst), e1]; exact lz) hps
      rw [e1, e2] at this
      exact this
  | fold ks fs =>
    obtain ⟨x, rfl, gx, hks, lks, ne, l3, hfs⟩ := hw
    have lx := gx.2.2
    obtain ⟨t, kt, ft, as, rfl, ht, hkt, hft, hf, rfl⟩ := hd
    have hkt2 : H kt = some (.tup ((ks.map (·.1)).map V.str)) := by rw [hkt, List.map_map]; rfl
    have lkl : ∀ z ∈ ks.map (·.1), z.length ≤ 10 := fun z hz => by
      obtain ⟨k, hk, rfl⟩ := List.mem_map.mp hz
      exact (hks k hk).2.2
    have ksum := sum_le (g := fun z : Str => z.length) (c := 10) (l := ks.map (·.1)) lkl
    have ksum2 : ((ks.map (·.1)).map (·.length)).sum ≤ 50 * 10 := Nat.le_trans ksum (Nat.mul_le_mul_right _ (by rw [List.length_map]; exact lks))
    have kjl := join_len2 (ks.map (·.1))
    have kll : (ks.map (·.1)).length ≤ 50 := by rw [List.length_map]; exact lks
    have kok : ∀ z ∈ ks.map (·.1), PyData.strOk z = true := fun z hz => by
      obtain ⟨k, hk, rfl⟩ := List.mem_map.mp hz
      exact good_ok (hks k hk)
    refine ⟨_, rfl, rfl, _, rfl, ifS_f (a := "fold") (by decide +kernel) ⟨_, rfl, rfl, _, rfl, ifS_f (a := "fold") (by decide +kernel) ⟨_, rfl, rfl, _, rfl, ifS_t ?_⟩⟩⟩
    let kz : Str := if ks.map (·.1) = [] then ("" : Str) else " by " ++ Txt.join ", " (ks.map (·.1))
    have lkz : kz.length ≤ 700 := by
      show (if ks.map (·.1) = [] then ("" : Str) else " by " ++ Txt.join ", " (ks.map (·.1))).length ≤ 700
      split
      · simp only [cf1]; omega
      · simp only [len2]; simp only [cf1]; omega
    have rest : ∀ (G : Hp), Same H G → tSeq (tAsg (tLst tNil) (gName 10)) (tSeq (tFor (iTup K (tOp (rIxT K) (tVar 5) (tC (.int 1)))) (gTup K 3 (gCons (gName 11) (gCons (gName 7) (gCons (gName 8) gNil)))) (tDrop (tBM K "list" rAppend (tVar 10) (tCons (tOp (fun x y H Q => ∃ i j, x = V.str i ∧ y = V.str j ∧ i.length + j.length ≤ sizeLine ∧ Q (V.str (i ++ j)) H) (tOp (fun x y H Q => ∃ i j, x = V.str i ∧ y = V.str j ∧ i.length + j.length ≤ sizeLine ∧ Q (V.str (i ++ j)) H) (tOp (fun x y H Q => ∃ i j, x = V.str i ∧ y = V.str j ∧ i.length + j.length ≤ sizeLine ∧ Q (V.str (i ++ j)) H) (tOp (fun x y H Q => ∃ i j, x = V.str i ∧ y = V.str j ∧ i.length + j.length ≤ sizeLine ∧ Q (V.str (i ++ j)) H) (tVar 11) (tC (.str "("))) (tIf (tTest (tOp (fun x y H Q => y = V.non ∧ Q (V.bl (decide (x = V.non))) H) (tVar 7) (tC .non))) (tC (.str "")) (tCall (spTold 4) [] E0 (tCons (tVar 0) (tCons (tVar 7) tNil))))) (tC (.str ") as "))) (tVar 8)) tNil))))
        (tRet (tOp (fun x y H Q => ∃ i j, x = V.str i ∧ y = V.str j ∧ i.length + j.length ≤ sizeLine ∧ Q (V.str (i ++ j)) H) (tOp (fun x y H Q => ∃ i j, x = V.str i ∧ y = V.str j ∧ i.length + j.length ≤ sizeLine ∧ Q (V.str (i ++ j)) H) (tOp (fun x y H Q => ∃ i j, x = V.str i ∧ y = V.str j ∧ i.length + j.length ≤ sizeLine ∧ Q (V.str (i ++ j)) H) (tOp (fun x y H Q => ∃ i j, x = V.str i ∧ y = V.str j ∧ i.length + j.length ≤ sizeLine ∧ Q (V.str (i ++ j)) H) (tC (.str "fold ")) (tOp (rIxT K) (tVar 4) (tC (.int 0)))) (tVar 9)) (tC (.str ": "))) (tM1 (fun x xs H Q => ∃ a p, ∃ ys : List Str, x = .str a ∧ xs = [.ref p] ∧ (SqL K H p (ys.map V.str) ∨ SqT K H p (ys.map V.str)) ∧ (ys.map (·.length)).sum + ys.length * a.length ≤ 16777216 ∧ Q (.str (Txt.join a ys)) H) (tC (.str ", ")) (tVar 10)))))
        { nx := fun x H' => Q V.non H', rt := Q } [some (.ref d), some (.ref st), some (.str nm), some (.str "fold"), some (.ref inp), some (.ref t), none, none, none, some (.str kz), none, none, none, none, none] G := by
      intro G sG
      have DG := D.keep sG
      have htG := sG _ _ ht
      refine ⟨by show 0 ≤ sizeLine; decide, fun F1 hF1 => ?_⟩
      have s2 := sG.trans (same_upd (o := .lst []) hF1)
      have hHF : H F1 = none := none_same sG hF1
      have nFd : F1 ≠ d := fun z => by rw [z, DG.at_d] at hF1; cases hF1
      have eF : upd G F1 (.lst []) F1 = some (.lst []) := upd_same
      have D2 := DG.keep (same_upd (o := .lst []) hF1)
      generalize upd G F1 (.lst []) = G2 at s2 eF D2 ⊢
      refine ⟨_, rfl, t, _, 1, _, rfl, rfl, SqT.of (s2 _ _ ht), rfl, ft, rfl, ⟨_, SqT.of (s2 _ _ hft)⟩, ?_⟩
      refine for_it (walk_tup (xs := as.map fun p => .ref p.1)) (fun i σ H' => ∃ (y7 y8 y11 : Option V) (n' : Int) (zs : List Str), σ = [some (.ref d), some (.ref st), some (.str nm), some (.str "fold"), some (.ref inp), some (.ref t), none, y7, y8, some (.str kz), some (.ref F1), y11, none, none, none] ∧ But d H H' ∧ DrawAt H' d s' ns xt n' ∧ H' F1 = some (.lst (zs.map V.str)) ∧ Paired (fun z (m : FC) => FdW z (m.1, m.2.1, m.2.2.2) ∧ z.length ≤ 470) zs ((as.map (·.2)).take i)) ⟨none, none, none, n, [], rfl, same_but s2, D2, eF, .nil⟩ (fun i σ H' _ ⟨_, _, _, _, _, _, b, _⟩ => SqT.of (b.tup D.at_d _ _ hft)) ?_ ?_
      · rintro i v σ H' H'' hi ⟨y7, y8, y11, n', zs, rfl, b, D', eD, hp⟩ ⟨rfl, hv⟩
        rw [List.getElem?_map] at hv
        obtain ⟨⟨pa, m⟩, hpm, rfl⟩ := Option.map_eq_some_iff.mp hv
        have hmem := List.mem_of_getElem? hpm
        obtain ⟨told, ht1, hx⟩ := hf _ hmem
        obtain ⟨k6, gl, hm⟩ := hfs m (List.mem_map.mpr ⟨_, hmem, rfl⟩)
        have ll := gl.2.2
        have lk6 : m.1.length ≤ 10 := (show ∀ z ∈ six, z.length ≤ 10 by decide +kernel) _ k6
        have ht2 := b.tup D.at_d _ _ ht1
        have him : (as.map (·.2))[i]? = some m := by rw [List.getElem?_map, hpm]; rfl
        have lz : zs.length ≤ 3 := by
          have := Paired.length hp
          rw [this, List.length_take]
          omega
        have close : ∀ (z : Str) (n2 : Int) (H2 : Hp) (y7' : Option V), FdW z (m.1, m.2.1, m.2.2.2) → z.length ≤ 470 → But d H'' H2 → DrawAt H2 d s' ns xt n2 → H2 F1 = some (.lst (zs.map V.str)) → ∃ (y7 y8 y11 : Option V) (n' : Int) (zs' : List Str), [some (.ref d), some (.ref st), some (.str nm), some (.str "fold"), some (.ref inp), some (.ref t), none, some told, some (.str m.2.2.2), some (.str kz), some (.ref F1), some (.str m.1), none, none, none] = [some (V.ref d), some (.ref st), some (.str nm), some (.str "fold"), some (.ref inp), some (.ref t), none, y7, y8, some (.str kz), some (.ref F1), y11, none, none, none] ∧ But d H (upd H2 F1 (.lst (zs.map V.str ++ [.str z]))) ∧ DrawAt (upd H2 F1 (.lst (zs.map V.str ++ [.str z]))) d s' ns xt n' ∧ (upd H2 F1 (.lst (zs.map V.str ++ [.str z]))) F1 = some (.lst (zs'.map V.str)) ∧ Paired (fun z (m : FC) => FdW z (m.1, m.2.1, m.2.2.2) ∧ z.length ≤ 470) zs' ((as.map (·.2)).take (i + 1)) := by
          intro z n2 H2 _ hz hl b2 D2' e2
          refine ⟨_, _, _, n2, zs ++ [z], rfl, fun c o hc e => ?_, ⟨?_, ?_, D2'.n0⟩, ?_, ?_⟩
          · rw [upd_ne (ne_of_none e hHF)]
            exact b2 c o hc (b c o hc e)
          · rw [upd_ne nFd.symm]
            exact D2'.at_d
          · rw [upd_ne (fun z => by rw [← z, D.at_s] at hHF; cases hHF)]
            exact D2'.at_s
          · rw [List.map_append]
            exact upd_same
          · rw [List.take_add_one, him]
            exact Paired.snoc hp ⟨hz, hl⟩
        have ltF : (zs.map V.str).length < sizeLine := Nat.lt_of_le_of_lt (show _ ≤ 3 by rw [List.length_map]; exact lz) (by decide)
        refine ⟨pa, _, rfl, SqT.of ht2, rfl, _, _, rfl, _, _, rfl, _, _, rfl, rfl, ?_⟩
        refine ⟨_, rfl, .inl ⟨rfl, _, SqL.of eD⟩, _, rfl, _, _, rfl, rfl, by (try simp only [len2]); (try simp only [cf1]); omega, _, rfl, rfl, _, rfl, ?_⟩
        cases ho : m.2.1 with
        | none =>
          rw [ho] at hm hx
          have ht0 : told = .non := hx
          subst ht0
          refine Kx.ifT' (decide_eq_true rfl) ⟨_, _, rfl, rfl, by (try simp only [len2]); (try simp only [cf1]); omega, _, _, rfl, rfl, by (try simp only [len2]); (try simp only [cf1]); omega, _, rfl, _, _, rfl, rfl, by (try simp only [len2]); (try simp only [cf1]); omega, F1, _, _, rfl, rfl, eD, ltF, close _ n' H'' none ?_ (by (try simp only [len2]); (try simp only [cf1]); omega) (But.refl _ _) D' eD⟩
          rw [ho, show m.1 = "count" from hm]
          exact fd_count gl
        | some e =>
          rw [ho] at hm hx
          obtain ⟨hm1, we, de⟩ := hm
          have hx' : ExAt H told e := hx
          obtain ⟨ta, txs, et, _⟩ := word_at hx'
          have hx2 : ExAt H'' told e := hx'.keep (b.tup D.at_d)
          refine Kx.ifF' (decide_eq_false (fun z => by rw [et] at z; cases z)) ⟨_, rfl, _, rfl, d, s', ns, xt, n', told, e, rfl, D', hx2, we, de, by decide, fun z n2 H2 hz hl b2 D2 => ?_⟩
          have l1 := wp_len hl (by omega)
          refine ⟨_, _, rfl, rfl, by (try simp only [len2]); (try simp only [cf1]); omega, _, _, rfl, rfl, by (try simp only [len2]); (try simp only [cf1]); omega, _, rfl, _, _, rfl, rfl, by (try simp only [len2]); (try simp only [cf1]); omega, F1, _, _, rfl, rfl, b2 _ _ nFd eD, ltF, close _ n2 H2 none ?_ (by (try simp only [len2]); (try simp only [cf1]); omega) b2 D2 (b2 _ _ nFd eD)⟩
          rw [ho]
          exact fd_told k6 hm1 gl hz (by decide) (by omega)
      · rintro σ H' ⟨y7, y8, y11, n', zs, rfl, b, D', eD, hp⟩
        rw [List.length_map, List.take_of_length_le (by rw [List.length_map]; exact Nat.le_refl _)] at hp
        have h2' := b.tup D.at_d _ _ h2
        have lz : zs.length ≤ 3 := by rw [Paired.length hp]; exact l3
        obtain ⟨ps, e1, e2, hps, hlen⟩ := pair_list (g := fun m : FC => (m.1, m.2.1, m.2.2.2)) hp
        have hsum := sum_le (g := fun z : Str => z.length) (c := 470) (l := zs) hlen
        have hsum2 : (zs.map (·.length)).sum ≤ 3 * 470 := Nat.le_trans hsum (Nat.mul_le_mul_right _ lz)
        have jl := join_len2 zs
        refine ⟨_, rfl, inp, _, 0, _, rfl, rfl, SqT.of h2', rfl, _, _, rfl, rfl, by (try simp only [len2]); (try simp only [cf1]); omega, _, rfl, _, _, rfl, rfl, by (try simp only [len2]); (try simp only [cf1]); omega, _, _, rfl, rfl, by (try simp only [len2]); (try simp only [cf1]); omega, ⟨_, rfl⟩, _, rfl, _, F1, zs, rfl, rfl, .inl (SqL.of eD), by rw [show (", " : Str).length = 2 by decide +kernel]; omega, _, _, rfl, rfl, by (try simp only [len2]); (try simp only [cf1]); omega, q _ n' H' ?_ (by (try simp only [len2]); (try simp only [cf1]); omega) b D'⟩
        have := det_fold (ps := ps) (ks := ks.map (·.1)) gx (fun k hk => by
          obtain ⟨k', hk', rfl⟩ := List.mem_map.mp hk
          exact hks k' hk') kll (fun z => ne (by rw [z] at e2; exact List.map_eq_nil_iff.mp e2.symm)) (by rw [← List.length_map (f := Prod.fst), e1]; exact lz) hps
        rw [e1, e2] at this
        exact this
    refine ⟨_, rfl, t, _, 0, _, rfl, rfl, SqT.of ht, rfl, by show 0 ≤ sizeLine; decide, fun e0 he0 => ?_⟩
    have s1 := same_upd (o := .tup []) he0
    have ht1 := s1 _ _ ht
    have hk1 := s1 _ _ hkt2
    have ee0 : upd H e0 (.tup []) e0 = some (.tup []) := upd_same
    generalize upd H e0 (.tup []) = G at s1 ht1 hk1 ee0 ⊢
    refine ⟨_, _, .tup (SqT.of hk1) (dp_strs _), .tup (SqT.of ee0) .nil, shaped_names kok, by decide, _, rfl, ?_⟩
    by_cases hz : ks.map (·.1) = []
    · refine Kx.ifT' (by rw [hz]; rfl) ?_
      have e : kz = "" := if_pos hz
      have := rest G s1
      rw [e] at this
      exact this
    · refine Kx.ifF' (eqv_nil hz) ⟨⟨_, rfl⟩, _, rfl, t, _, 0, _, rfl, rfl, SqT.of ht1, rfl, _, kt, ks.map (·.1), rfl, rfl, .inr (SqT.of hk1), by rw [show (", " : Str).length = 2 by decide +kernel]; omega, _, _, rfl, rfl, by (try simp only [len2]); (try simp only [cf1]); omega, ?_⟩
      have e : kz = " by " ++ Txt.join ", " (ks.map (·.1)) := if_neg hz
      have := rest G s1
      rw [e] at this
      exact this
  | join ks =>
    obtain ⟨x, y, rfl, gx, gy, ne, lks, hks⟩ := hw
    have lx := gx.2.2
    have ly := gy.2.2
    obtain ⟨t, rfl, ht⟩ := hd
    have ht2 : H t = some (.tup ((ks.map (·.1)).map V.str)) := by rw [ht, List.map_map]; rfl
    have lkl : ∀ z ∈ ks.map (·.1), z.length ≤ 10 := fun z hz => by
      obtain ⟨k, hk, rfl⟩ := List.mem_map.mp hz
      exact (hks k hk).2.2
    have hsum := sum_le (g := fun z : Str => z.length) (c := 10) (l := ks.map (·.1)) lkl
    have hsum2 : ((ks.map (·.1)).map (·.length)).sum ≤ 50 * 10 := Nat.le_trans hsum (Nat.mul_le_mul_right _ (by rw [List.length_map]; exact lks))
    have jl := join_len2 (ks.map (·.1))
    have ll : (ks.map (·.1)).length ≤ 50 := by rw [List.length_map]; exact lks
    refine ⟨_, rfl, rfl, _, rfl, ifS_f (a := "join") (by decide +kernel) ⟨_, rfl, rfl, _, rfl, ifS_f (a := "join") (by decide +kernel) ⟨_, rfl, rfl, _, rfl, ifS_f (a := "join") (by decide +kernel) ⟨_, rfl, rfl, _, rfl, ifS_t ⟨_, rfl, inp, _, 0, _, rfl, rfl, SqT.of h2, rfl, _, _, rfl, rfl, by (try simp only [len2]); (try simp only [cf1]); omega, _, _, rfl, rfl, by (try simp only [len2]); (try simp only [cf1]); omega, _, rfl, inp, _, 1, _, rfl, rfl, SqT.of h2, rfl, _, _, rfl, rfl, by (try simp only [len2]); (try simp only [cf1]); omega, _, _, rfl, rfl, by (try simp only [len2]); (try simp only [cf1]); omega, ⟨_, rfl⟩, _, rfl, _, t, ks.map (·.1), rfl, rfl, .inr (SqT.of ht2), by rw [show (", " : Str).length = 2 by decide +kernel]; omega, _, _, rfl, rfl, by (try simp only [len2]); (try simp only [cf1]); omega, q _ n H (det_join gx gy (fun k hk => ?_) (fun z => ne (List.map_eq_nil_iff.mp z)) ll) (by (try simp only [len2]); (try simp only [cf1]); omega) (But.refl _ _) D⟩⟩⟩⟩⟩
    obtain ⟨k', hk', rfl⟩ := List.mem_map.mp hk
    exact hks k' hk'
  | union =>
    obtain ⟨x, y, rfl, gx, gy⟩ := hw
    have lx := gx.2.2
    have ly := gy.2.2
    obtain ⟨t, rfl, ht⟩ := hd
    exact ⟨_, rfl, rfl, _, rfl, ifS_f (a := "union") (by decide +kernel) ⟨_, rfl, rfl, _, rfl, ifS_f (a := "union") (by decide +kernel) ⟨_, rfl, rfl, _, rfl, ifS_f (a := "union") (by decide +kernel) ⟨_, rfl, rfl, _, rfl, ifS_f (a := "union") (by decide +kernel) ⟨_, rfl, rfl, _, rfl, ifS_t ⟨_, rfl, inp, _, 0, _, rfl, rfl, SqT.of h2, rfl, _, _, rfl, rfl, by (try simp only [len2]); (try simp only [cf1]); omega, _, _, rfl, rfl, by (try simp only [len2]); (try simp only [cf1]); omega, _, rfl, inp, _, 1, _, rfl, rfl, SqT.of h2, rfl, _, _, rfl, rfl, by (try simp only [len2]); (try simp only [cf1]); omega, q _ n H (det_union gx gy) (by (try simp only [len2]); (try simp only [cf1]); omega) (But.refl _ _) D⟩⟩⟩⟩⟩⟩
  | unlike =>
    obtain ⟨x, rfl, gx⟩ := hw
    have lx := gx.2.2
    obtain ⟨t, rfl, ht⟩ := hd
    exact ⟨_, rfl, rfl, _, rfl, ifS_f (a := "unlike") (by decide +kernel) ⟨_, rfl, rfl, _, rfl, ifS_f (a := "unlike") (by decide +kernel) ⟨_, rfl, rfl, _, rfl, ifS_f (a := "unlike") (by decide +kernel) ⟨_, rfl, rfl, _, rfl, ifS_f (a := "unlike") (by decide +kernel) ⟨_, rfl, rfl, _, rfl, ifS_f (a := "unlike") (by decide +kernel) ⟨_, rfl, rfl, _, rfl, ifS_t ⟨_, rfl, inp, _, 0, _, rfl, rfl, SqT.of h2, rfl, _, _, rfl, rfl, by (try simp only [len2]); (try simp only [cf1]); omega, q _ n H (det_unlike gx) (by (try simp only [len2]); (try simp only [cf1]); omega) (But.refl _ _) D⟩⟩⟩⟩⟩⟩⟩
  | sort ws m =>
    obtain ⟨x, rfl, gx, ne, l2, hws, m1, m5⟩ := hw
    have lx := gx.2.2
    obtain ⟨t, wt, as, rfl, ht, hwt, hp0, rfl⟩ := hd
    obtain ⟨k', rfl⟩ := Int.eq_ofNat_of_zero_le (show 0 ≤ m by omega)
    have hk6 : k' < 6 := by omega
    refine ⟨_, rfl, rfl, _, rfl, ifS_f (a := "sort") (by decide +kernel) ⟨_, rfl, rfl, _, rfl, ifS_f (a := "sort") (by decide +kernel) ⟨_, rfl, rfl, _, rfl, ifS_f (a := "sort") (by decide +kernel) ⟨_, rfl, rfl, _, rfl, ifS_f (a := "sort") (by decide +kernel) ⟨_, rfl, rfl, _, rfl, ifS_f (a := "sort") (by decide +kernel) ⟨_, rfl, rfl, _, rfl, ifS_f (a := "sort") (by decide +kernel) (?_)⟩⟩⟩⟩⟩⟩
    refine ⟨_, rfl, t, _, 0, _, rfl, rfl, SqT.of ht, rfl, wt, rfl, ⟨_, SqT.of hwt⟩, fun D1 hD1 => ?_⟩
    refine lc_it (walk_tup (xs := as.map fun p => .ref p.1)) (fun i H' => Same H H' ∧ H' D1 = some (.lst ((((as.map (·.2)).take i).map fun p => (p.1 ++ " " ++ p.2 : Str)).map V.str))) ⟨same_upd hD1, upd_same⟩ (fun i H' _ ⟨b, _⟩ => SqT.of (b _ _ hwt)) ?_ ?_
    · rintro i v H' H'' hi ⟨b, eD⟩ ⟨rfl, hv⟩
      rw [List.getElem?_map] at hv
      obtain ⟨⟨pa, p⟩, hpm, rfl⟩ := Option.map_eq_some_iff.mp hv
      have hmem := List.mem_of_getElem? hpm
      have ht2 := b _ _ (hp0 _ hmem)
      obtain ⟨gp, gw⟩ := hws p (List.mem_map.mpr ⟨_, hmem, rfl⟩)
      have lp := gp.2.2
      have lw : p.2.length ≤ 4 := (show ∀ z ∈ (["up", "down"] : List Str), z.length ≤ 4 by decide +kernel) _ gw
      have him : (as.map (·.2))[i]? = some p := by rw [List.getElem?_map, hpm]; rfl
      refine ⟨pa, _, rfl, SqT.of ht2, rfl, _, _, rfl, _, _, rfl, rfl, rfl, _, rfl, _, _, rfl, rfl, by (try simp only [len2]); (try simp only [cf1]); omega, _, rfl, _, _, rfl, rfl, by (try simp only [len2]); (try simp only [cf1]); omega, _, eD, ?_, fun c o e => ?_, ?_⟩
      · refine Nat.lt_of_le_of_lt (show _ ≤ 2 from ?_) (by decide)
        rw [List.length_map, List.length_map, List.length_take]
        omega
      · rw [upd_ne (ne_of_none e hD1)]
        exact b c o e
      · rw [List.take_add_one, him]
        show upd _ _ _ D1 = some (.lst (((List.take i (as.map (·.2)) ++ [p]).map _).map V.str))
        rw [List.map_append, List.map_append]
        exact upd_same
    · rintro H' ⟨b, eD⟩
      rw [List.length_map, List.take_of_length_le (by rw [List.length_map]; exact Nat.le_refl _)] at eD
      have hlen : ∀ z ∈ (as.map (·.2)).map (fun p => (p.1 ++ " " ++ p.2 : Str)), z.length ≤ 20 := fun z hz => by
        obtain ⟨p, hp, rfl⟩ := List.mem_map.mp hz
        obtain ⟨gp, gw⟩ := hws p hp
        have lp := gp.2.2
        have lw : p.2.length ≤ 4 := (show ∀ z ∈ (["up", "down"] : List Str), z.length ≤ 4 by decide +kernel) _ gw
        (try simp only [len2]); (try simp only [cf1]); omega
      have ll : ((as.map (·.2)).map (fun p => (p.1 ++ " " ++ p.2 : Str))).length ≤ 2 := by rw [List.length_map]; exact l2
      have hsum := sum_le (g := fun z : Str => z.length) (c := 20) (l := (as.map (·.2)).map (fun p => (p.1 ++ " " ++ p.2 : Str))) hlen
      have hsum2 := Nat.le_trans hsum (Nat.mul_le_mul_right _ ll)
      have jl := join_len2 ((as.map (·.2)).map (fun p => (p.1 ++ " " ++ p.2 : Str)))
      have nl := num_len hk6
      have h2 := b _ _ h2
      have ht := b _ _ ht
      refine ⟨_, rfl, inp, _, 0, _, rfl, rfl, SqT.of h2, rfl, _, _, rfl, rfl, by (try simp only [len2]); (try simp only [cf1]); omega, _, _, rfl, rfl, by (try simp only [len2]); (try simp only [cf1]); omega, ⟨_, rfl⟩, _, rfl, _, D1, _, rfl, rfl, .inl (SqL.of eD), by rw [show (", " : Str).length = 2 by decide +kernel]; omega, _, _, rfl, rfl, by (try simp only [len2]); (try simp only [cf1]); omega, _, _, rfl, rfl, by (try simp only [len2]); (try simp only [cf1]); omega, _, rfl, t, _, 1, _, rfl, rfl, SqT.of ht, rfl, _, rfl, log6 hk6, _, _, rfl, rfl, ?_, q _ n H' (det_sort gx ne (by omega) hws hk6) ?_ (same_but b) (D.keep b)⟩
      · show _ + (numZ (k' : Int)).length ≤ sizeLine
        (try simp only [len2]); (try simp only [cf1]); omega
      · show (_ ++ numZ (k' : Int)).length ≤ 3000
        (try simp only [len2]); (try simp only [cf1]); omega
end
end Kj

namespace Kx
open PySem PySem.Spec PyProof.Rows L2 TL
/-! ### lines, in front and behind which blanks may stand -/
def tails : List Str := ["", "  ", " # a, \"b", "#"]
theorem tails_ok {z : Str} (h : z ∈ tails) : TailOk (TL.tl z) ∧ 10 ∉ TL.tl z ∧ z.length ≤ 8 := by
  unfold tails at h
  rcases List.mem_cons.mp h with rfl | h
  · rw [show TL.tl ("" : Str) = [] by decide +kernel]
    exact ⟨.nil, by simp, by decide +kernel⟩
  rcases List.mem_cons.mp h with rfl | h
  · rw [show TL.tl ("  " : Str) = [32, 32] by decide +kernel]
    exact ⟨.blank (.blank .nil), by decide, by decide +kernel⟩
  rcases List.mem_cons.mp h with rfl | h
  · rw [show TL.tl (" # a, \"b" : Str) = [32, 35, 32, 97, 44, 32, 34, 98] by decide +kernel]
    exact ⟨.blank (.hash _), by decide, by decide +kernel⟩
  · rw [List.mem_singleton.mp h, show TL.tl ("#" : Str) = [35] by decide +kernel]
    exact ⟨.hash _, by decide, by decide +kernel⟩
/-- a line that takes st to st' -/
structure LineW (st : JSt) (z : Str) (st' : JSt) : Prop where
  no10 : 10 ∉ TL.tl z
  len : z.length ≤ 3100
  row : ∀ (g : Nat) (t : Str), t ∈ tails → rdRow st (bl g ++ z ++ t) = .ok st'
theorem lay_line {z t : Str} {T : Nat → List Tok} {n g : Nat} (h : Seg z T n) (ht : t ∈ tails) : TL.tl (bl g ++ z ++ t) = layT (T g) (TL.tl t) ∧ LaysOk (T g) (TL.tl t) := by
  obtain ⟨t1, t2, t3⟩ := tails_ok ht
  refine ⟨?_, laysOk t1 (h.lay g _ (noRun_tail t1))⟩
  rw [layT_tail, h.tl, tlc, tlc, tl_bl]
def StepW (z : Str) (s : Stq) : Prop := ∃ (T : Nat → List Tok) (n : Nat), Seg z T n ∧ n ≤ 300 ∧ ∀ k, ∃ t L, T k = t :: L ∧ t.own ≠ "answer" ∧ RdSays rdStep s (T k) fun r => r = []
theorem StepW.line {z : Str} {s : Stq} {sts : List Stq} (h : StepW z s) (hl : z.length ≤ 3100) : LineW (none, sts) z (none, sts ++ [s]) := by
  obtain ⟨T, n, a, b, c⟩ := h
  refine ⟨a.no10, hl, fun g t ht => ?_⟩
  obtain ⟨e1, e2⟩ := lay_line (g := g) a ht
  obtain ⟨t0, L, e3, e4, e5⟩ := c g
  refine row_step e1 e2 (Nat.le_trans (a.nb g) b) (by rw [e3]; exact List.cons_ne_nil _ _) ?_ e5
  rw [e3]
  exact e4
theorem ans_line {nm : Str} {sts : List Stq} (h : good nm) : LineW (none, sts) ("answer " ++ nm) (some nm, sts) := by
  have h1 := seg_cat (seg_own (z := "answer") (by decide +kernel)) 1 (seg_name h) (.inl (by decide))
  have e : ("answer " ++ nm : Str) = "answer" ++ bl 1 ++ nm := by
    apply tl_inj
    simp only [tlc, List.append_assoc]
    rw [show TL.tl ("answer " : Str) = TL.tl ("answer" : Str) ++ TL.tl (bl 1) by decide +kernel]
    simp only [List.append_assoc]
  have h2 := Seg.eq h1 e
  refine ⟨h2.no10, ?_, fun g t ht => ?_⟩
  · have := h.2.2
    rw [len2, show ("answer " : Str).length = 7 by decide +kernel]
    omega
  · obtain ⟨e1, e2⟩ := lay_line (g := g) h2 ht
    exact row_answer (t1 := tokW g "answer") (t2 := tokW 1 nm) e1 e2 (own_word (by decide +kernel)) (nmT_word h.2.1).k (nmT_word h.2.1).v
theorem step_line {nm z wh : Str} {r : Rst} (hn : good nm) (hw : wh ∈ seven) (h : DetW z wh r) (g1 g2 : Nat) : StepW (nm ++ bl g1 ++ "=" ++ bl g2 ++ z) (.step nm wh r) := by
  obtain ⟨T, n, a, b, c⟩ := h
  have e61 : ("=" : Str) = mkS [61] := by decide +kernel
  have hd : wordB nm = true := hn.1
  refine ⟨fun s => tokW s nm :: tokS g1 61 :: T g2, n + 2, ⟨fun s => ?_, fun s tail ht => ?_, fun s => ?_, ?_⟩, by omega, fun k => ⟨_, _, rfl, ?_, ?_⟩⟩
  · show List.replicate s 32 ++ (TL.tl nm ++ (List.replicate g1 32 ++ ([61] ++ layT (T g2) []))) = _
    rw [a.tl, e61]
    simp only [tlc, tl_bl, tl_mkS, List.append_assoc]
  · exact ⟨fits_word hd (noRun_sign (by decide)), fits_sign (by decide) (fun z => by rcases z with z | z <;> cases z), a.lay g2 tail ht⟩
  · refine Nat.le_trans (nbr_cons _ _) ?_
    have h1 := nbr_cons (tokS g1 61) (T g2)
    have h2 := a.nb g2
    omega
  · rw [e61]
    simp only [tlc, tl_bl, tl_mkS, List.mem_append, not_or]
    exact ⟨⟨⟨⟨(seg_name hn).no10, fun z => by cases List.eq_of_mem_replicate z⟩, by decide⟩, fun z => by cases List.eq_of_mem_replicate z⟩, a.no10⟩
  · rw [(nmT_word hn.2.1).own]
    decide +kernel
  · obtain ⟨t, L, e1, e2, e3⟩ := c g2
    show RdSays rdStep _ (tokW k nm :: tokS g1 61 :: T g2) _
    rw [e1]
    exact step_says (nmT_word hn.2.1) (by show (tokS g1 61).own = "="; rw [show (tokS g1 61).own = mkS [61] from rfl]; decide +kernel) e2 hw e3
/-! ### the lines that read -/
theorem col_one {c w : Str} (hc : good c) (hw : w ∈ (["int", "text"] : List Str)) : ∃ T m, Seg (c ++ " " ++ w) T m ∧ m ≤ 2 ∧ ∀ s, RdSays (rdTwo ["int", "text"]) (c, w) (T s) fun _ => True := by
  have ho : w ∈ owns := (show ∀ w ∈ (["int", "text"] : List Str), w ∈ owns by decide +kernel) w hw
  have h1 := seg_cat (seg_name hc) 1 (seg_own ho) (.inl (by decide))
  refine ⟨_, _, Seg.eq h1 ?_, by decide, fun s => ?_⟩
  · apply tl_inj
    simp only [tlc, List.append_assoc]
    rw [show TL.tl (" " : Str) = TL.tl (bl 1) by decide +kernel]
  · have b : RdSays (rdWord ["int", "text"]) (tokW 1 w).own [tokW 1 w] fun _ => True := word_says (by rw [own_word ho]; exact hw)
    rw [own_word ho] at b
    exact thenA_says (k := fun z ps j => thenA (rdWord ["int", "text"] ps j) fun w k => .ok ((z, w), k)) (nmT_word hc.2.1).says (mapR_says (g := fun w => (c, w)) b) fun _ _ => trivial
theorem read_says' {t0 t1 t2 t3 : Tok} {nm : Str} {cs : List (Str × Str)} {ts : List Tok} (h0 : t0.own = "read") (h1 : NmT t1 nm) (h2 : t2.own = "(") (h3 : t3.own = ")") (hl : RdSays (rdList (rdTwo ["int", "text"])) cs ts fun r => ownH r ≠ ",") : RdSays rdStep (.read nm cs) (t0 :: t1 :: t2 :: (ts ++ [t3])) fun _ => True := fun ps i all at_ rest hr _ => by
  have ho : ownW ps i = "read" := (own_rst hr).trans h0
  have ht : RdSays (rdThen rdName "(" (rdList (rdTwo ["int", "text"]))) (nm, cs) (t1 :: t2 :: ts) fun r => ownH r ≠ "," := rdThen_says h1.says h2 hl fun _ => trivial
  have a : RdSays (rdWord [")"]) t3.own [t3] fun _ => True := word_says (by rw [h3]; exact List.mem_cons_self)
  have hh : RdSays rdHead (nm, cs) ((t1 :: t2 :: ts) ++ [t3]) fun _ => True := thenA_says (k := fun x ps j => thenA (rdWord [")"] ps j) fun _ k => .ok (x, k)) ht (mapR_says (g := fun (_ : Str) => ((nm, cs) : Str × List (Str × Str))) a) fun rest _ => by
    show t3.own ≠ ","
    rw [h3]
    decide +kernel
  have e1 := hh ps (i + 1) all _ rest (Rst'.next hr) trivial
  unfold rdStep
  rw [if_pos ho, e1]
  show Except.ok (Stq.read nm cs, i + 1 + _) = _
  rw [List.length_cons, show ∀ n : Nat, i + 1 + n = i + (n + 1) from fun n => by omega]
  rfl
theorem read_line {nm : Str} {cs : List (Str × Str)} (hn : good nm) (hne : cs ≠ []) (hl : cs.length ≤ 5) (h : ∀ p ∈ cs, good p.1 ∧ p.2 ∈ (["int", "text"] : List Str)) : StepW ("read " ++ nm ++ "(" ++ Txt.join ", " (cs.map fun p => (p.1 ++ " " ++ p.2 : Str)) ++ ")") (.read nm cs) := by
  obtain ⟨T, h0, h0s⟩ := rows_its (rd := rdTwo ["int", "text"]) (n := 2) (ps := cs.map fun p => (p.1 ++ " " ++ p.2, p)) (by simpa using hne) (fun p hp => by
    obtain ⟨q, hq, rfl⟩ := List.mem_map.mp hp
    exact col_one (h q hq).1 (h q hq).2)
  rw [List.map_map, List.length_map] at h0
  simp only [List.map_map] at h0s
  have e0 : cs.map ((·.2) ∘ fun p : Str × Str => (p.1 ++ " " ++ p.2, p)) = cs := by
    show cs.map (fun p => p) = cs
    exact List.map_id' cs
  have e1 : cs.map ((·.1) ∘ fun p : Str × Str => (p.1 ++ " " ++ p.2, p)) = cs.map fun p => (p.1 ++ " " ++ p.2 : Str) := rfl
  rw [e1] at h0
  rw [e0] at h0s
  generalize Txt.join ", " (cs.map fun p => (p.1 ++ " " ++ p.2 : Str)) = J at h0 ⊢
  have eR : ("read " : Str) = "read" ++ bl 1 := by decide +kernel
  have e40 : ("(" : Str) = mkS [40] := by decide +kernel
  have e41 : (")" : Str) = mkS [41] := by decide +kernel
  have sR := seg_own (z := "read") (by decide +kernel)
  refine ⟨fun s => tokW s "read" :: tokW 1 nm :: tokS 0 40 :: (T 0 ++ [tokS 0 41]), 3 * cs.length + 4, ⟨fun s => ?_, fun s tail ht => ?_, fun s => ?_, ?_⟩, by omega, fun k => ⟨_, _, rfl, ?_, ?_⟩⟩
  · show List.replicate s 32 ++ (TL.tl ("read" : Str) ++ (List.replicate 1 32 ++ (TL.tl nm ++ (List.replicate 0 32 ++ ([40] ++ layT (T 0 ++ [tokS 0 41]) []))))) = _
    rw [layT_append, layT_tail, h0.tl, eR, e40, e41]
    simp only [tlc, tl_bl, tl_mkS, List.append_assoc]
    rfl
  · exact ⟨fits_word (by decide +kernel) (noRun_sp (show 0 < 1 from Nat.one_pos)), fits_word hn.1 (noRun_sign (by decide)), fits_sign (by decide) (fun z => by rcases z with z | z <;> cases z), laysOn_append (h0.lay 0 _ (noRun_sign (by decide))) ⟨fits_sign (by decide) (fun z => by rcases z with z | z <;> cases z), trivial⟩⟩
  · have h1 := nbr_cons (tokW s "read") (tokW 1 nm :: tokS 0 40 :: (T 0 ++ [tokS 0 41]))
    have h2 := nbr_cons (tokW 1 nm) (tokS 0 40 :: (T 0 ++ [tokS 0 41]))
    have h3 := nbr_cons (tokS 0 40) (T 0 ++ [tokS 0 41])
    have h4 := nbr_append (T 0) [tokS 0 41]
    have h5 := nbr1 (tokS 0 41)
    have h6 := h0.nb 0
    omega
  · rw [eR, e40, e41]
    simp only [tlc, tl_bl, tl_mkS, List.mem_append, not_or]
    exact ⟨⟨⟨⟨⟨sR.no10, fun z => by cases List.eq_of_mem_replicate z⟩, (seg_name hn).no10⟩, by decide⟩, h0.no10⟩, by decide⟩
  · rw [own_word (by decide +kernel)]
    decide +kernel
  · exact (read_says' (own_word (by decide +kernel)) (nmT_word hn.2.1) (by decide +kernel) (by decide +kernel) (h0s 0)).mono fun _ _ => trivial
/-! ### rows one behind the other -/
theorem rows_snoc {st' st'' : JSt} {y : Str} : ∀ {l : List Str} {st : JSt} {n : Nat}, rdRows l st n = .ok st' → rdRow st' y = .ok st'' → rdRows (l ++ [y]) st n = .ok st''
  | [], st, n, h, hy => by
    rw [rdRows] at h
    cases h
    show rdRows (y :: []) _ n = _
    rw [rows_cons hy, rdRows]
  | x :: l, st, n, h, hy => by
    cases e : rdRow st x with
    | error c => rw [rows_wrong e] at h; cases h
    | ok s =>
      rw [rows_cons e] at h
      show rdRows (x :: (l ++ [y])) st n = _
      rw [rows_cons e]
      exact rows_snoc h hy
theorem joinL_snoc (s : List Nat) : ∀ {l : List (List Nat)} (y : List Nat), l ≠ [] → joinL s (l ++ [y]) = joinL s l ++ (s ++ y)
  | [], _, h => absurd rfl h
  | [x], y, _ => rfl
  | x :: x2 :: r, y, _ => by
    show x ++ (s ++ joinL s ((x2 :: r) ++ [y])) = x ++ (s ++ joinL s (x2 :: r)) ++ (s ++ y)
    rw [joinL_snoc s y (List.cons_ne_nil _ _)]
    simp only [List.append_assoc]
theorem join_snoc {l : List Str} (h : l ≠ []) (y : Str) : Txt.join "\n" (l ++ [y]) = Txt.join "\n" l ++ "\n" ++ y := by
  apply tl_inj
  rw [tlc, tlc, join_eq, tl_join, join_eq, tl_join, List.map_append]
  show joinL _ (l.map TL.tl ++ [TL.tl y]) = _
  rw [joinL_snoc _ _ (fun e => h (List.map_eq_nil_iff.mp e)), List.append_assoc]
def ends : List Str := ["", "\n", "\n  \n# end"]
def fills : List Str := ["", "   ", "# x = (", "  # read"]
theorem fill_ok {z : Str} (h : z ∈ fills) : TailOk (TL.tl z) ∧ 10 ∉ TL.tl z ∧ z.length ≤ 8 := by
  unfold fills at h
  rcases List.mem_cons.mp h with rfl | h
  · rw [show TL.tl ("" : Str) = [] by decide +kernel]
    exact ⟨.nil, by simp, by decide +kernel⟩
  rcases List.mem_cons.mp h with rfl | h
  · rw [show TL.tl ("   " : Str) = [32, 32, 32] by decide +kernel]
    exact ⟨.blank (.blank (.blank .nil)), by decide, by decide +kernel⟩
  rcases List.mem_cons.mp h with rfl | h
  · rw [show TL.tl ("# x = (" : Str) = [35, 32, 120, 32, 61, 32, 40] by decide +kernel]
    exact ⟨.hash _, by decide, by decide +kernel⟩
  · rw [List.mem_singleton.mp h, show TL.tl ("  # read" : Str) = [32, 32, 35, 32, 114, 101, 97, 100] by decide +kernel]
    exact ⟨.blank (.blank (.hash _)), by decide, by decide +kernel⟩
theorem fill_row {z : Str} (h : z ∈ fills) (st : JSt) : rdRow st z = .ok st := row_blank rfl (fill_ok h).1
/-- rows that have been written, and what they say -/
structure RowsW (l : List Str) (st : JSt) (n : Nat) : Prop where
  says : rdRows l (none, []) 1 = .ok st
  ok : ∀ y ∈ l, 10 ∉ TL.tl y ∧ y.length ≤ 3200
  len : l.length ≤ n
theorem RowsW.nil : RowsW [] (none, []) 0 := ⟨by rw [rdRows], (fun y h => by cases h), Nat.le_refl _⟩
theorem RowsW.fill {l : List Str} {st : JSt} {n : Nat} (h : RowsW l st n) {z : Str} (hz : z ∈ fills) : RowsW (l ++ [z]) st (n + 1) := by
  refine ⟨rows_snoc h.says (fill_row hz st), fun y hy => ?_, ?_⟩
  · rcases List.mem_append.mp hy with hy | hy
    · exact h.ok y hy
    · rw [List.mem_singleton.mp hy]
      obtain ⟨_, a, b⟩ := fill_ok hz
      exact ⟨a, by omega⟩
  · rw [List.length_append, List.length_singleton]
    exact Nat.add_le_add_right h.len 1
theorem RowsW.line {l : List Str} {st st' : JSt} {n : Nat} (h : RowsW l st n) {z t : Str} {g : Nat} (hw : LineW st z st') (hg : g ≤ 2) (ht : t ∈ tails) : RowsW (l ++ [bl g ++ z ++ t]) st' (n + 1) := by
  refine ⟨rows_snoc h.says (hw.row g t ht), fun y hy => ?_, ?_⟩
  · rcases List.mem_append.mp hy with hy | hy
    · exact h.ok y hy
    · rw [List.mem_singleton.mp hy]
      obtain ⟨_, a, b⟩ := tails_ok ht
      refine ⟨?_, ?_⟩
      · rw [tlc, tlc, tl_bl]
        simp only [List.mem_append, not_or]
        exact ⟨⟨(fun z => by cases List.eq_of_mem_replicate z), hw.no10⟩, a⟩
      · have := hw.len
        rw [len2, len2, bl_len]
        omega
  · rw [List.length_append, List.length_singleton]
    exact Nat.add_le_add_right h.len 1
theorem RowsW.mono {l : List Str} {st : JSt} {n m : Nat} (h : RowsW l st n) (hm : n ≤ m) : RowsW l st m := ⟨h.says, h.ok, Nat.le_trans h.len hm⟩
theorem RowsW.end_ {l : List Str} {st : JSt} {n : Nat} (h : RowsW l st n) (hl : l ≠ []) {e : Str} (he : e ∈ ends) : ∃ m, RowsW m st (n + 2) ∧ m ≠ [] ∧ Txt.join "\n" l ++ e = Txt.join "\n" m := by
  unfold ends at he
  rcases List.mem_cons.mp he with rfl | he
  · refine ⟨l, h.mono (Nat.le_add_right _ _), hl, ?_⟩
    apply tl_inj
    rw [tlc, show TL.tl ("" : Str) = [] by decide +kernel, List.append_nil]
  rcases List.mem_cons.mp he with rfl | he
  · refine ⟨l ++ [("" : Str)], (h.fill (z := "") (by decide +kernel)).mono (Nat.le_succ _), by simp, ?_⟩
    rw [join_snoc hl]
    apply tl_inj
    rw [tlc, tlc, tlc, show TL.tl ("" : Str) = [] by decide +kernel, List.append_nil]
  · rw [List.mem_singleton.mp he]
    have h1 : rdRow st "  " = .ok st := row_blank (z := "  ") rfl (by rw [show TL.tl ("  " : Str) = [32, 32] by decide +kernel]; exact .blank (.blank .nil))
    have h2 : rdRow st "# end" = .ok st := row_blank (z := "# end") rfl (by rw [show TL.tl ("# end" : Str) = [35, 32, 101, 110, 100] by decide +kernel]; exact .hash _)
    refine ⟨l ++ [("  " : Str)] ++ [("# end" : Str)], ⟨rows_snoc (rows_snoc h.says h1) h2, fun y hy => ?_, ?_⟩, by simp, ?_⟩
    · rcases List.mem_append.mp hy with hy | hy
      · rcases List.mem_append.mp hy with hy | hy
        · exact h.ok y hy
        · rw [List.mem_singleton.mp hy]
          decide +kernel
      · rw [List.mem_singleton.mp hy]
        decide +kernel
    · rw [List.length_append, List.length_append, List.length_singleton, List.length_singleton]
      exact Nat.add_le_add_right h.len 2
    · rw [join_snoc (by simp), join_snoc hl]
      apply tl_inj
      simp only [tlc, List.append_assoc]
      rw [show TL.tl ("\n  \n# end" : Str) = TL.tl ("\n" : Str) ++ (TL.tl ("  " : Str) ++ (TL.tl ("\n" : Str) ++ TL.tl ("# end" : Str))) by decide +kernel]
theorem RowsW.job {l : List Str} {sts : List Stq} {a : Str} {n : Nat} (h : RowsW l (some a, sts) n) (hl : l ≠ []) (hn : n ≤ 28) : (Txt.join "\n" l).length ≤ 99999 ∧ linesOf (Txt.join "\n" l) = l ∧ rdJob (Txt.join "\n" l) = .ok (sts, a) := by
  have e := lines_join hl fun z hz => (h.ok z hz).1
  refine ⟨?_, e, ?_⟩
  · have h1 := lines_sum (Txt.join "\n" l)
    rw [e] at h1
    have h2 := sum_le (g := fun z : Str => z.length) (c := 3200) (l := l) fun z hz => (h.ok z hz).2
    have h3 := h.len
    have h4 : l.length * 3200 ≤ 28 * 3200 := Nat.mul_le_mul_right _ (by omega)
    omega
  · unfold rdJob
    rw [e, h.says]
end Kx

namespace Kj
open PySem PySem.Spec PyProof.Rows L2 Kx TL
theorem what_read : ∀ {det : Det}, det.what = "read" → ∃ cs, det = .read cs
  | .read cs, _ => ⟨cs, rfl⟩
  | .filter _, h => absurd h (show ("filter" : Str) ≠ "read" by decide +kernel)
  | .map _, h => absurd h (show ("map" : Str) ≠ "read" by decide +kernel)
  | .fold _ _, h => absurd h (show ("fold" : Str) ≠ "read" by decide +kernel)
  | .join _, h => absurd h (show ("join" : Str) ≠ "read" by decide +kernel)
  | .union, h => absurd h (show ("union" : Str) ≠ "read" by decide +kernel)
  | .unlike, h => absurd h (show ("unlike" : Str) ≠ "read" by decide +kernel)
  | .sort _ _, h => absurd h (show ("sort" : Str) ≠ "read" by decide +kernel)
theorem what_seven : ∀ {det : Det}, ¬ det.what = "read" → det.what ∈ seven
  | .read cs, h => absurd rfl h
  | .filter _, _ => (show ("filter" : Str) ∈ seven by decide +kernel)
  | .map _, _ => (show ("map" : Str) ∈ seven by decide +kernel)
  | .fold _ _, _ => (show ("fold" : Str) ∈ seven by decide +kernel)
  | .join _, _ => (show ("join" : Str) ∈ seven by decide +kernel)
  | .union, _ => (show ("union" : Str) ∈ seven by decide +kernel)
  | .unlike, _ => (show ("unlike" : Str) ∈ seven by decide +kernel)
  | .sort _ _, _ => (show ("sort" : Str) ∈ seven by decide +kernel)
theorem cfl : ("read " : Str).length = 5 ∧ ("answer " : Str).length = 7 ∧ ("=" : Str).length = 1 ∧ (")" : Str).length = 1 := by decide +kernel
section
variable {P : Program} {w : World} {K : PySem.W.Frag} {mg : Str → Option Value} {base : Heap}
def spLines : Sp := fun vs H Q _ => ∃ (d s : Addr) (ns : List Int) (xt : List V) (n : Int) (job st : Addr) (as : List (Addr × Stp)) (last : Str), vs = [.ref d, .ref job] ∧ DrawAt H d s ns xt n ∧ H job = some (.tup [.ref st, .str last]) ∧ H st = some (.tup (as.map fun p => .ref p.1)) ∧ (∀ p ∈ as, StpAt H p.1 p.2 ∧ StpW p.2) ∧ good last ∧ as.length ≤ 10 ∧
  ∀ (r : Addr) (zs : List Str) (W : Nat → JSt) (n' : Int) (H' : Hp), H r = none → H' r = some (.lst (zs.map V.str)) → zs.length = as.length + 1 → W 0 = (none, []) → W zs.length = (some last, as.map fun p => cvS p.2) → (∀ (i : Nat) (z : Str), zs[i]? = some z → LineW (W i) z (W (i + 1))) → But d H H' → DrawAt H' d s ns xt n' → Q (.ref r) H'
abbrev N_lines : List Str := ["draw", "job", "lines", "step", "name", "kind"]
theorem sc_lines : FnScope N_lines ["draw", "job"] (defScope s_law_lines) := ⟨rfl, rfl, rfl, by decide +kernel, rfl, by decide +kernel, by decide +kernel⟩
def LinesIn (W : Nat → JSt) (zs : List Str) : Prop := ∀ (i : Nat) (z : Str), zs[i]? = some z → LineW (W i) z (W (i + 1))
theorem LinesIn.snoc {W : Nat → JSt} {zs : List Str} (h : LinesIn W zs) {z : Str} {i : Nat} (hi : zs.length = i) (hz : LineW (W i) z (W (i + 1))) : LinesIn W (zs ++ [z]) := fun j y hj => by
  by_cases c : j < zs.length
  · rw [List.getElem?_append_left c] at hj
    exact h j y hj
  · rw [List.getElem?_append_right (by omega)] at hj
    have : j = zs.length := by
      cases e : j - zs.length with
      | zero => omega
      | succ m => rw [e] at hj; cases hj
    subst this
    rw [Nat.sub_self] at hj
    cases hj
    rw [hi]
    exact hz
def wOf (ss : List Stq) (last : Str) (i : Nat) : JSt := if i ≤ ss.length then (none, ss.take i) else (some last, ss)
theorem ok_lines {f : Addr} {fd : FuncData} {k : Nat} (F : Fun K "_law_lines" "_law_lines" s_law_lines f fd) (hk : 5 ≤ k) (G_gap : Ready P w K mg base 5 "_law_gap" ["draw"] spGap) (G_details : Ready P w K mg base k "_law_details" ["draw", "step"] spDetails) : FnOk P w K mg base CX0 (k + 1) f fd ["draw", "job"] spLines := by
  refine F.ok sc_lines (fun vs H Q E h => ?_) (fun cdv A outer s H vs Q E hr h => ?_)
  · obtain ⟨d, s, ns, xt, n, job, st, as, last, rfl, _⟩ := h
    rfl
  obtain ⟨d, s', ns, xt, n, job, st, as, last, rfl, D, hj, hst, hstp, hgl, hlen, q⟩ := h
  have nd := sc_lines.nd
  have hrk : Room k _ := hr
  have hr5 : Room 5 _ := hrk.mono hk
  refine ⟨_, pss_cons (ps_set (i := 2) nd rfl (.inl rfl) (pe_lst pa_nil))
      (pss_cons (ps_for PassesOwn.never rfl (pi_tup (pe_ix ix_tup (pv 1) pe_int (fun _ _ => rfl))) (pg_name (i := 3) nd rfl (.inl rfl)) (pss_one (ps_if (pt_cmpR op_eq (pe_ix ix_tup (pv 3) pe_int (fun _ _ => rfl)) pe_str (nomark _)) (pss_one (ps_expr (pe_bm PySem.F.plainAttrs_list PySem.F.slot_list_append PySem.F.type_list_append mt_append (pv 2) (pa_cons (pe_op op_add_str (pe_op op_add_str (pe_op op_add_str (pe_op op_add_str pe_str (pe_ix ix_tup (pv 3) pe_int (fun _ _ => rfl))) pe_str) (pe_join pe_str (pe_lc (own := [("name", 4), ("kind", 5)]) (g := (gTup K 2 (gCons (gName 4) (gCons (gName 5) gNil)))) (tt := tYes) rfl nd (pi_tup (pe_ix ix_tup (pv 3) pe_int (fun _ _ => rfl))) (blkOk_by (N := N_lines) (sc := defScope s_law_lines) (by decide +kernel)) (fun _ _ _ _ _ => pg_tup rfl (pgs_cons (pg_name (i := 4) nd rfl (.inl rfl)) (pgs_cons (pg_name (i := 5) nd rfl (.inl rfl)) pgs_nil))) (fun _ _ _ _ _ => pts_nil) (fun _ _ _ _ _ => (pe_op op_add_str (pe_op op_add_str (pv 4) pe_str) (pv 5)))))) pe_str) pa_nil)))) (pss_one (ps_expr (pe_bm PySem.F.plainAttrs_list PySem.F.slot_list_append PySem.F.type_list_append mt_append (pv 2) (pa_cons (pe_op op_add_str (pe_op op_add_str (pe_op op_add_str (pe_op op_add_str (pe_ix ix_tup (pv 3) pe_int (fun _ _ => rfl)) (pe_fn G_gap hr5 (pa_cons (pv 0) pa_nil))) pe_str) (pe_fn G_gap hr5 (pa_cons (pv 0) pa_nil))) (pe_fn G_details hrk (pa_cons (pv 0) (pa_cons (pv 3) pa_nil)))) pa_nil)))))))
      (pss_one (ps_ret (pe_op op_cat (pv 2) (pe_lst (pa_cons (pe_op op_add_str pe_str (pe_ix ix_tup (pv 1) pe_int (fun _ _ => rfl))) pa_nil)))))), ?_⟩
  have zb : 20000 ≤ sizeLine := by decide
  refine ⟨by show 0 ≤ sizeLine; decide, fun L hL => ?_⟩
  have sL := same_upd (o := .lst []) hL
  have D1 := D.keep sL
  have hj1 := sL _ _ hj
  have hst1 := sL _ _ hst
  have eL : upd H L (.lst []) L = some (.lst []) := upd_same
  have hstp1 : ∀ p ∈ as, StpAt (upd H L (.lst [])) p.1 p.2 ∧ StpW p.2 := fun p hp => ⟨(hstp p hp).1.keep (same_t sL) (same_f sL), (hstp p hp).2⟩
  have nLd : L ≠ d := fun z => by rw [z, D.at_d] at hL; cases hL
  have nLs : L ≠ s' := fun z => by rw [z, D.at_s] at hL; cases hL
  generalize upd H L (.lst []) = H1 at sL D1 hj1 hst1 eL hstp1 ⊢
  let ss : List Stq := as.map fun p => cvS p.2
  have hss : ss.length = as.length := List.length_map ..
  refine ⟨_, rfl, job, _, 0, _, rfl, rfl, SqT.of hj1, rfl, st, rfl, ⟨_, SqT.of hst1⟩, ?_⟩
  refine for_it (walk_tup (xs := as.map fun p => .ref p.1)) (fun i σ H' => ∃ (y3 : Option V) (n' : Int) (zs : List Str), σ = [some (.ref d), some (.ref job), some (.ref L), y3, none, none] ∧ (∀ a o, a ≠ d → a ≠ L → H1 a = some o → H' a = some o) ∧ DrawAt H' d s' ns xt n' ∧ H' L = some (.lst (zs.map V.str)) ∧ zs.length = i ∧ LinesIn (wOf ss last) zs) ⟨none, n, [], rfl, (fun a o _ _ e => e), D1, eL, rfl, (fun j y hj => by cases hj)⟩ (fun i σ H' _ ⟨_, _, _, _, b, _⟩ => SqT.of (b _ _ (fun z => by rw [z, D1.at_d] at hst1; cases hst1) (fun z => by rw [z, eL] at hst1; cases hst1) hst1)) ?_ ?_
  · rintro i v σ H' H'' hi ⟨y3, n', zs, rfl, b, D', eD, hz, hW⟩ ⟨rfl, hv⟩
    rw [List.getElem?_map] at hv
    obtain ⟨⟨pa, sp⟩, hpm, rfl⟩ := Option.map_eq_some_iff.mp hv
    have hmem := List.mem_of_getElem? hpm
    have hil : i < as.length := (List.getElem?_eq_some_iff.mp hpm).1
    obtain ⟨hsp, hw⟩ := hstp1 _ hmem
    have kt : KeepT H1 H'' := fun a xs e => b a _ (fun z => by rw [z, D1.at_d] at e; cases e) (fun z => by rw [z, eL] at e; cases e) e
    have kf : KeepF H1 H'' := fun a xs ⟨o, dn, e⟩ => ⟨o, dn, b a _ (fun z => by rw [z, D1.at_d] at e; cases e) (fun z => by rw [z, eL] at e; cases e) e⟩
    have hsp2 := hsp.keep kt kf
    have him : ss[i]? = some (cvS sp) := by
      show (as.map _)[i]? = _
      rw [List.getElem?_map, hpm]
      rfl
    have hW0 : wOf ss last i = (none, ss.take i) := if_pos (by omega)
    have hW1 : wOf ss last (i + 1) = (none, ss.take i ++ [cvS sp]) := by
      unfold wOf
      rw [if_pos (by omega), List.take_add_one, him]
      rfl
    have ltL : (zs.map V.str).length < sizeLine := Nat.lt_of_le_of_lt (show _ ≤ 10 by rw [List.length_map]; omega) (by decide)
    have close : ∀ (z : Str) (n2 : Int) (H2 : Hp), StepW z (cvS sp) → z.length ≤ 3100 → But d H'' H2 → DrawAt H2 d s' ns xt n2 → ∃ (y3 : Option V) (n' : Int) (zs' : List Str), [some (.ref d), some (.ref job), some (.ref L), some (.ref pa), none, none] = [some (V.ref d), some (.ref job), some (.ref L), y3, none, none] ∧ (∀ a o, a ≠ d → a ≠ L → H1 a = some o → (upd H2 L (.lst (zs.map V.str ++ [.str z]))) a = some o) ∧ DrawAt (upd H2 L (.lst (zs.map V.str ++ [.str z]))) d s' ns xt n' ∧ (upd H2 L (.lst (zs.map V.str ++ [.str z]))) L = some (.lst (zs'.map V.str)) ∧ zs'.length = i + 1 ∧ LinesIn (wOf ss last) zs' := by
      intro z n2 H2 h1 h2 b2 D2
      refine ⟨_, n2, zs ++ [z], rfl, fun a o h3 h4 e => ?_, ⟨?_, ?_, D2.n0⟩, ?_, ?_, ?_⟩
      · rw [upd_ne h4]
        exact b2 a o h3 (b a o h3 h4 e)
      · rw [upd_ne nLd.symm]
        exact D2.at_d
      · rw [upd_ne nLs.symm]
        exact D2.at_s
      · rw [List.map_append]
        exact upd_same
      · rw [List.length_append, List.length_singleton, hz]
      · refine hW.snoc hz ?_
        rw [hW0, hW1]
        exact h1.line h2
    have gl := hw.1.2.2
    obtain ⟨inp, dv, h1, h2, hd⟩ := hsp2
    obtain ⟨nm, ins, det⟩ := sp
    obtain ⟨gn, hdw⟩ := hw
    replace gl := gn.2.2
    dsimp only at gl
    refine ⟨_, rfl, pa, _, 1, _, rfl, rfl, SqT.of h1, rfl, rfl, _, rfl, ?_⟩
    by_cases hrd : det.what = "read"
    · obtain ⟨cs, rfl⟩ := what_read hrd
      refine ifS_t (a := "read") ?_
      obtain ⟨t, cl, rfl, ht, hp, hcs⟩ := hd
      obtain ⟨rfl, hne, hl5, hgc⟩ := hdw
      refine ⟨_, rfl, .inl ⟨rfl, _, SqL.of eD⟩, _, rfl, pa, _, 0, _, rfl, rfl, SqT.of h1, rfl, _, _, rfl, rfl, by (try simp only [len2]); (try simp only [cf1, cfl]); omega, _, _, rfl, rfl, by (try simp only [len2]); (try simp only [cf1, cfl]); omega, ⟨_, rfl⟩, _, rfl, pa, _, 3, _, rfl, rfl, SqT.of h1, rfl, t, rfl, ⟨_, TupF.sq ht⟩, fun D1 hD1 => ?_⟩
      refine lc_it (walk_tup (xs := cl.map fun c => .ref c.1)) (fun j H' => Same H'' H' ∧ H' D1 = some (.lst (((cl.take j).map fun c => (c.2.1 ++ " " ++ kW c.2.2 : Str)).map V.str))) ⟨same_upd hD1, upd_same⟩ (fun j H' _ ⟨b, _⟩ => (same_f b _ _ ht).sq) ?_ ?_
      · rintro j v H3 H4 hj' ⟨b3, e3⟩ ⟨rfl, hv⟩
        rw [List.getElem?_map] at hv
        obtain ⟨c, hc, rfl⟩ := Option.map_eq_some_iff.mp hv
        have hcm := List.mem_of_getElem? hc
        have hc2 := b3 _ _ (hp c hcm)
        have lc := (hgc c.2 (hcs ▸ List.mem_map.mpr ⟨c, hcm, rfl⟩)).2.2
        have lk : (kW c.2.2).length ≤ 4 := by
          cases c.2.2 <;> decide +kernel
        refine ⟨c.1, _, rfl, SqT.of hc2, rfl, _, _, rfl, _, _, rfl, rfl, rfl, _, rfl, _, _, rfl, rfl, by (try simp only [len2]); (try simp only [cf1]); omega, _, rfl, _, _, rfl, rfl, by (try simp only [len2]); (try simp only [cf1]); omega, _, e3, ?_, fun a o e => ?_, ?_⟩
        · refine Nat.lt_of_le_of_lt (show _ ≤ 5 from ?_) (by decide)
          rw [← hcs, List.length_map] at hl5
          rw [List.length_map, List.length_map, List.length_take]
          omega
        · rw [upd_ne (ne_of_none e hD1)]
          exact b3 a o e
        · rw [List.take_add_one, hc]
          show upd _ _ _ D1 = some (.lst (((List.take j cl ++ [c]).map _).map V.str))
          rw [List.map_append, List.map_append]
          exact upd_same
      · rintro H3 ⟨b3, e3⟩
        rw [List.length_map, List.take_length] at e3
        have hlen2 : ∀ z ∈ cl.map (fun c => (c.2.1 ++ " " ++ kW c.2.2 : Str)), z.length ≤ 15 := fun z hz => by
          obtain ⟨c, hc, rfl⟩ := List.mem_map.mp hz
          have lc := (hgc c.2 (hcs ▸ List.mem_map.mpr ⟨c, hc, rfl⟩)).2.2
          have lk : (kW c.2.2).length ≤ 4 := by
            cases c.2.2 <;> decide +kernel
          (try simp only [len2]); (try simp only [cf1]); omega
        have ll : (cl.map (fun c => (c.2.1 ++ " " ++ kW c.2.2 : Str))).length ≤ 5 := by
          rw [← hcs, List.length_map] at hl5
          rw [List.length_map]
          exact hl5
        have hsum := sum_le (g := fun z : Str => z.length) (c := 15) (l := cl.map (fun c => (c.2.1 ++ " " ++ kW c.2.2 : Str))) hlen2
        have hsum2 := Nat.le_trans hsum (Nat.mul_le_mul_right _ ll)
        have jl := join_len2 (cl.map (fun c => (c.2.1 ++ " " ++ kW c.2.2 : Str)))
        have eD3 : H3 L = some (.lst (zs.map V.str)) := b3 _ _ eD
        refine ⟨_, D1, _, rfl, rfl, .inl (SqL.of e3), by rw [show (", " : Str).length = 2 by decide +kernel]; omega, _, _, rfl, rfl, by (try simp only [len2]); (try simp only [cf1, cfl]); omega, _, _, rfl, rfl, by (try simp only [len2]); (try simp only [cf1, cfl]); omega, L, _, _, rfl, rfl, eD3, ltL, close _ n' H3 ?_ (by (try simp only [len2]); (try simp only [cf1, cfl]); omega) (same_but b3) (D'.keep b3)⟩
        have := read_line (nm := nm) (cs := cs.map fun c => (c.1, kW c.2)) gn (by simpa using hne) (by rw [List.length_map]; exact hl5) (fun p hp' => by
          obtain ⟨c, hc, rfl⟩ := List.mem_map.mp hp'
          exact ⟨hgc c hc, (show ∀ b : Bool, kW b ∈ (["int", "text"] : List Str) by decide +kernel) c.2⟩)
        rw [List.map_map, ← hcs, List.map_map] at this
        rw [← hcs]
        exact this
    · refine ifS_f (a := det.what) (b := "read") hrd ?_
      have hseven : det.what ∈ seven := what_seven hrd
      have ecv : cvS ⟨nm, ins, det⟩ = .step nm det.what (ins, cvD det) := by
        cases det with
        | read cs => exact absurd rfl hrd
        | _ => rfl
      refine ⟨_, rfl, .inl ⟨rfl, _, SqL.of eD⟩, _, rfl, pa, _, 0, _, rfl, rfl, SqT.of h1, rfl, _, rfl, d, s', ns, xt, n', rfl, D', fun g1 H2 hg1 b2 D2 => ?_⟩
      refine ⟨_, _, rfl, rfl, by (try simp only [len2]); (try simp only [cf1, cfl, bl_len]); omega, _, _, rfl, rfl, by (try simp only [len2]); (try simp only [cf1, cfl, bl_len]); omega, _, rfl, d, s', ns, xt, _, rfl, D2, fun g2 H3 hg2 b3 D3 => ?_⟩
      have b23 : But d H'' H3 := fun a o h e => b3 a o h (b2 a o h e)
      have kt3 : KeepT H'' H3 := b23.tup D'.at_d
      have kf3 : KeepF H'' H3 := b23.tupF D'.at_d
      refine ⟨_, _, rfl, rfl, by (try simp only [len2]); (try simp only [cf1, cfl, bl_len]); omega, _, rfl, _, rfl, d, s', ns, xt, _, pa, ⟨nm, ins, det⟩, rfl, D3, StpAt.keep kt3 kf3 ⟨inp, dv, h1, h2, hd⟩, ⟨gn, hdw⟩, hrd, fun z n4 H4 hz4 hl4 b4 D4 => ?_⟩
      have b24 : But d H'' H4 := fun a o h e => b4 a o h (b23 a o h e)
      refine ⟨_, _, rfl, rfl, by (try simp only [len2]); (try simp only [cf1, cfl, bl_len]); omega, L, _, _, rfl, rfl, b24 _ _ nLd eD, ltL, close _ n4 H4 ?_ (by (try simp only [len2]); (try simp only [cf1, cfl, bl_len]); omega) b24 D4⟩
      rw [ecv]
      exact step_line gn hseven hz4 g1 g2
  · rintro σ H' ⟨y3, n', zs, rfl, b, D', eD, hz, hW⟩
    rw [List.length_map] at hz
    have hj2 := b _ _ (fun z => by rw [z, D1.at_d] at hj1; cases hj1) (fun z => by rw [z, eL] at hj1; cases hj1) hj1
    have l10 := hgl.2.2
    have hWn : wOf ss last as.length = (none, ss) := by
      unfold wOf
      rw [if_pos (by omega), List.take_of_length_le (by omega)]
    have hWl : wOf ss last (as.length + 1) = (some last, ss) := if_neg (by omega)
    have ltZ : zs.length + 1 ≤ sizeLine := Nat.le_trans (show _ ≤ 11 by omega) (by decide)
    refine ⟨_, rfl, _, rfl, job, _, 1, _, rfl, rfl, SqT.of hj2, rfl, _, _, rfl, rfl, by (try simp only [len2]); (try simp only [cfl]); omega, by show 1 ≤ sizeLine; decide, fun L2 hL2 => ?_⟩
    have s2 := same_upd (o := .lst [.str ("answer " ++ last)]) hL2
    have eL2 : upd H' L2 (.lst [.str ("answer " ++ last)]) L2 = some (.lst [.str ("answer " ++ last)]) := upd_same
    have eLz := s2 _ _ eD
    have D2 := D'.keep s2
    have b2 : ∀ a o, a ≠ d → a ≠ L → H1 a = some o → upd H' L2 (.lst [.str ("answer " ++ last)]) a = some o := fun a o h1 h2 e => s2 _ _ (b a o h1 h2 e)
    generalize upd H' L2 (.lst [.str ("answer " ++ last)]) = H2 at s2 eL2 eLz D2 b2 ⊢
    refine ⟨L, L2, _, _, rfl, rfl, eLz, eL2, by rw [List.length_map]; exact ltZ, fun r hr2 => ?_⟩
    have bH : ∀ a o, a ≠ d → H a = some o → upd H2 r (.lst (zs.map V.str ++ [.str ("answer " ++ last)])) a = some o := fun a o h e => by
      have e2 := b2 a o h (fun z => by rw [z, hL] at e; cases e) (sL _ _ e)
      rw [upd_ne (fun z => by rw [z, hr2] at e2; cases e2)]
      exact e2
    refine q r (zs ++ ["answer " ++ last]) (wOf ss last) n' _ ?_ ?_ ?_ ?_ ?_ ?_ bH ?_
    · cases e : H r with
      | none => rfl
      | some o =>
        by_cases hd : r = d
        · rw [hd, D2.at_d] at hr2
          cases hr2
        · have e2 := b2 r o hd (fun z => by rw [z, hL] at e; cases e) (sL _ _ e)
          rw [hr2] at e2
          cases e2
    · rw [List.map_append]
      exact upd_same
    · rw [List.length_append, List.length_singleton, hz]
    · exact (if_pos (Nat.zero_le _)).trans rfl
    · rw [List.length_append, List.length_singleton, hz, hWl]
    · refine LinesIn.snoc hW hz ?_
      rw [hWn, hWl]
      exact ans_line hgl
    · exact D2.keep (same_upd hr2)
end
end Kj

namespace Kj
open PySem PySem.Spec PyProof.Rows L2 Kx TL
/-! ### jobs as data -/
structure Ok (n : Nat) (d : PyData) : Prop where
  lay : PyData.canLay0 d = true
  dep : d.depth ≤ n
theorem Ok.mono {n m : Nat} {d : PyData} (h : Ok n d) (hm : n ≤ m) : Ok m d := ⟨h.lay, Nat.le_trans h.dep hm⟩
theorem Ok.shaped {n : Nat} {d : PyData} (h : Ok n d) (hn : n ≤ 64) : SeqAt.shaped d = true := by
  show (PyData.canLay0 d && decide (d.depth ≤ 64)) = true
  rw [h.lay, decide_eq_true (Nat.le_trans h.dep hn)]
  rfl
theorem all_lay : ∀ {ds : List PyData}, (∀ d ∈ ds, PyData.canLay0 d = true) → PyData.canLayAll0 ds = true
  | [], _ => rfl
  | d :: r, h => by
    show (PyData.canLay0 d && PyData.canLayAll0 r) = true
    rw [h d List.mem_cons_self, all_lay fun x hx => h x (List.mem_cons_of_mem _ hx)]
    rfl
theorem all_dep {n : Nat} : ∀ {ds : List PyData}, (∀ d ∈ ds, d.depth ≤ n) → PyData.depthAll ds ≤ n
  | [], _ => Nat.zero_le _
  | d :: r, h => by
    show max (PyData.depth d) (PyData.depthAll r) ≤ n
    exact Nat.max_le.mpr ⟨h d List.mem_cons_self, all_dep fun x hx => h x (List.mem_cons_of_mem _ hx)⟩
theorem dk_tup {n : Nat} {ds : List PyData} (h : ∀ d ∈ ds, Ok n d) : Ok (n + 1) (.tuple ds) :=
  ⟨all_lay fun d hd => (h d hd).lay, Nat.succ_le_succ (all_dep fun d hd => (h d hd).dep)⟩
theorem dk_str {n : Nat} {z : Str} (h : PyData.strOk z = true) : Ok n (.str z) := ⟨h, Nat.zero_le _⟩
theorem dk_int {n : Nat} {i : Int} : Ok n (.int i) := ⟨rfl, Nat.zero_le _⟩
theorem dk_two {n : Nat} {a b : PyData} (ha : Ok n a) (hb : Ok n b) : Ok (n + 1) (.tuple [a, b]) := dk_tup fun d hd => by
  rcases List.mem_cons.mp hd with rfl | hd
  · exact ha
  · rw [List.mem_singleton.mp hd]
    exact hb
theorem dk_three {n : Nat} {a b c : PyData} (ha : Ok n a) (hb : Ok n b) (hc : Ok n c) : Ok (n + 1) (.tuple [a, b, c]) := dk_tup fun d hd => by
  rcases List.mem_cons.mp hd with rfl | hd
  · exact ha
  rcases List.mem_cons.mp hd with rfl | hd
  · exact hb
  · rw [List.mem_singleton.mp hd]
    exact hc
theorem dk_four {n : Nat} {a b c e : PyData} (ha : Ok n a) (hb : Ok n b) (hc : Ok n c) (he : Ok n e) : Ok (n + 1) (.tuple [a, b, c, e]) := dk_tup fun d hd => by
  rcases List.mem_cons.mp hd with rfl | hd
  · exact ha
  rcases List.mem_cons.mp hd with rfl | hd
  · exact hb
  rcases List.mem_cons.mp hd with rfl | hd
  · exact hc
  · rw [List.mem_singleton.mp hd]
    exact he
theorem dk_nil {n : Nat} : Ok (n + 1) (.tuple []) := dk_tup fun d hd => by cases hd
theorem dk_map {A : Type} {n : Nat} {g : A → PyData} {as : List A} (h : ∀ a ∈ as, Ok n (g a)) : Ok (n + 1) (.tuple (as.map g)) := dk_tup fun d hd => by
  obtain ⟨a, ha, rfl⟩ := List.mem_map.mp hd
  exact h a ha
def exD : Ex → PyData
  | .num i => .tuple [.str "number", .int i]
  | .quo z => .tuple [.str "quoted", .str z]
  | .col x => .tuple [.str "column", .str x]
  | .two op a b => .tuple [.str "two", .str op, exD a, exD b]
  | .nt a => .tuple [.str "not", exD a]
  | .mn a => .tuple [.str "minus", exD a]
  | .ln a => .tuple [.str "length", exD a]
def optD : Option Ex → PyData
  | none => .none
  | some e => exD e
def mpD (m : Ex × Str) : PyData := .tuple [exD m.1, .str m.2]
def fdD (m : Str × Option Ex × Str) : PyData := .tuple [.str m.1, optD m.2.1, .str m.2.2]
def dtD : Dt → PyData
  | .filter e => exD e
  | .map ms => .tuple (ms.map mpD)
  | .fold ks fs => .tuple [.tuple (ks.map PyData.str), .tuple (fs.map fdD)]
  | .join ks => .tuple (ks.map PyData.str)
  | .union => .tuple []
  | .unlike => .tuple []
  | .sort ws n => .tuple [.tuple (ws.map wayD), .int (n : Int)]
def stqD : Stq → PyData
  | .read nm cs => .tuple [.str nm, .str "read", .tuple [], .tuple (cs.map wayD)]
  | .step nm wh r => .tuple [.str nm, .str wh, .tuple (r.1.map PyData.str), dtD r.2]
def jobD (j : List Stq × Str) : PyData := .tuple [.tuple (j.1.map stqD), .str j.2]
section
variable {K : PySem.W.Frag} {H : Hp}
theorem ex_dp : ∀ {e : Ex} {v : V}, ExAt H v e → Dp K H v (exD e)
  | .num _, _, ⟨_, rfl, h⟩ => .tup (SqT.of h) (.cons (.str _) (.cons (.int _) .nil))
  | .quo _, _, ⟨_, rfl, h⟩ => .tup (SqT.of h) (.cons (.str _) (.cons (.str _) .nil))
  | .col _, _, ⟨_, rfl, h⟩ => .tup (SqT.of h) (.cons (.str _) (.cons (.str _) .nil))
  | .two _ _ _, _, ⟨_, _, _, rfl, h, x, y⟩ => .tup (SqT.of h) (.cons (.str _) (.cons (.str _) (.cons (ex_dp x) (.cons (ex_dp y) .nil))))
  | .nt _, _, ⟨_, _, rfl, h, x⟩ => .tup (SqT.of h) (.cons (.str _) (.cons (ex_dp x) .nil))
  | .mn _, _, ⟨_, _, rfl, h, x⟩ => .tup (SqT.of h) (.cons (.str _) (.cons (ex_dp x) .nil))
  | .ln _, _, ⟨_, _, rfl, h, x⟩ => .tup (SqT.of h) (.cons (.str _) (.cons (ex_dp x) .nil))
theorem dp_all {A : Type} {At : V → A → Prop} {g : A → PyData} (h : ∀ v a, At v a → Dp K H v (g a)) : ∀ {xs : List V} {as : List A}, Paired At xs as → DpAll K H xs (as.map g)
  | _, _, .nil => .nil
  | _, _, .cons hx r => .cons (h _ _ hx) (dp_all h r)
theorem dp_map {A : Type} {g : A → PyData} : ∀ {as : List (Addr × A)}, (∀ p ∈ as, Dp K H (.ref p.1) (g p.2)) → DpAll K H (as.map fun p => .ref p.1) ((as.map (·.2)).map g)
  | [], _ => .nil
  | p :: r, h => .cons (h p List.mem_cons_self) (dp_map fun x hx => h x (List.mem_cons_of_mem _ hx))
theorem list_dp {A : Type} {At : Hp → V → A → Prop} {g : A → PyData} (h : ∀ v a, At H v a → Dp K H v (g a)) {v : V} {as : List A} : ListAt At H v as → Dp K H v (.tuple (as.map g)) := fun ⟨t, xs, e, h1, h2⟩ => by
  rw [e]
  exact .tup (SqT.of h1) (dp_all h h2)
theorem str_dp {v : V} {z : Str} (h : StrAt H v z) : Dp K H v (.str z) := by
  rw [show v = .str z from h]
  exact .str z
theorem two_dp {v : V} {x : Str × Str} : TwoAt H v x → Dp K H v (wayD x) := fun ⟨t, e, h⟩ => by
  rw [e]
  exact .tup (SqT.of h) (.cons (.str _) (.cons (.str _) .nil))
theorem opt_dp {v : V} : ∀ {o : Option Ex}, OptAt H v o → Dp K H v (optD o)
  | none, h => by
    rw [show v = .non from h]
    exact .non
  | some _, h => ex_dp h
theorem fto_dp {v : V} : ∀ {o : Option Ex}, FTo H v o → Dp K H v (optD o)
  | none, h => by
    rw [show v = .non from h]
    exact .non
  | some _, h => ex_dp h
theorem pair_dp {A B : Type} {At1 : Hp → V → A → Prop} {At2 : Hp → V → B → Prop} {d1 d2 : PyData} {v : V} {x : A × B} (h1 : ∀ v, At1 H v x.1 → Dp K H v d1) (h2 : ∀ v, At2 H v x.2 → Dp K H v d2) : PairAt At1 At2 H v x → Dp K H v (.tuple [d1, d2]) := fun ⟨t, a, b, e, h, q1, q2⟩ => by
  rw [e]
  exact .tup (SqT.of h) (.cons (h1 _ q1) (.cons (h2 _ q2) .nil))
theorem dt_dp {v : V} : ∀ {d : Dt}, DtAt H v d → Dp K H v (dtD d)
  | .filter _, h => ex_dp (show ExAt H v _ from h)
  | .map _, h => list_dp (g := mpD) (fun v a ⟨t, o, e, h1, h2⟩ => by rw [e]; exact .tup (SqT.of h1) (.cons (ex_dp h2) (.cons (.str _) .nil))) h
  | .fold _ _, h => pair_dp (fun v q => list_dp (fun v a => str_dp) q) (fun v q => list_dp (g := fdD) (fun v a ⟨t, o, e, h1, h2⟩ => by rw [e]; exact .tup (SqT.of h1) (.cons (.str _) (.cons (opt_dp h2) (.cons (.str _) .nil)))) q) h
  | .join _, h => list_dp (fun v a => str_dp) h
  | .union, ⟨t, e, h⟩ => by rw [e]; exact .tup (SqT.of h) .nil
  | .unlike, ⟨t, e, h⟩ => by rw [e]; exact .tup (SqT.of h) .nil
  | .sort _ _, h => pair_dp (fun v q => list_dp (fun v a => two_dp) q) (fun v q => by rw [show v = _ from q]; exact .int _) h
theorem stq_dp {v : V} : ∀ {s : Stq}, StqAt H v s → Dp K H v (stqD s)
  | .read _ _, ⟨t, e, c, ev, h1, h2, h3⟩ => by rw [ev]; exact .tup (SqT.of h1) (.cons (.str _) (.cons (.str _) (.cons (.tup (SqT.of h2) .nil) (.cons (list_dp (fun v a => two_dp) h3) .nil))))
  | .step _ _ _, ⟨t, a, b, ev, h1, h2, h3⟩ => by rw [ev]; exact .tup (SqT.of h1) (.cons (.str _) (.cons (.str _) (.cons (list_dp (fun v a => str_dp) h2) (.cons (dt_dp h3) .nil))))
theorem job_dp {v : V} {j : List Stq × Str} (h : JobAt H v j) : Dp K H v (jobD j) := pair_dp (fun v q => list_dp (fun v a => stq_dp) q) (fun v q => str_dp q) h
/-! ### the drawn steps -/
theorem det_dp {v : V} {ins : List Str} : ∀ {d : Det}, DetAt H v d → DetW' d ins → d.what ≠ "read" → Dp K H v (dtD (cvD d))
  | .read _, _, _, h => absurd rfl h
  | .filter _, h, _, _ => ex_dp h
  | .map ms, ⟨t, as, e, h1, h2, h3⟩, _, _ => by
    rw [e, ← h3]
    show Dp K H (.ref t) (.tuple (((as.map (·.2)).map fun m => (m.1, m.2.2)).map mpD))
    refine .tup (SqT.of h1) ?_
    rw [List.map_map]
    exact dp_map fun p hp => let ⟨told, a, b⟩ := h2 p hp; .tup (SqT.of a) (.cons (ex_dp b) (.cons (.str _) .nil))
  | .fold ks fs, ⟨t, kt, ft, as, e, h1, h2, h3, h4, h5⟩, _, _ => by
    rw [e, ← h5]
    show Dp K H (.ref t) (.tuple [.tuple ((ks.map (·.1)).map PyData.str), .tuple (((as.map (·.2)).map fun f => (f.1, f.2.1, f.2.2.2)).map fdD)])
    have hk : H kt = some (.tup ((ks.map (·.1)).map V.str)) := by rw [h2, List.map_map]; rfl
    refine .tup (SqT.of h1) (.cons (.tup (SqT.of hk) (dp_strs _)) (.cons (.tup (SqT.of h3) ?_) .nil))
    rw [List.map_map]
    exact dp_map fun p hp => let ⟨told, a, b⟩ := h4 p hp; .tup (SqT.of a) (.cons (.str _) (.cons (fto_dp b) (.cons (.str _) .nil)))
  | .join ks, ⟨t, e, h1⟩, _, _ => by
    rw [e]
    have hk : H t = some (.tup ((ks.map (·.1)).map V.str)) := by rw [h1, List.map_map]; rfl
    exact .tup (SqT.of hk) (dp_strs _)
  | .union, ⟨t, e, h⟩, _, _ => by rw [e]; exact .tup (SqT.of h) .nil
  | .unlike, ⟨t, e, h⟩, _, _ => by rw [e]; exact .tup (SqT.of h) .nil
  | .sort ws m, ⟨t, wt, as, e, h1, h2, h3, h4⟩, hw, _ => by
    obtain ⟨x, _, _, _, _, _, m1, _⟩ := hw
    rw [e, ← h4]
    show Dp K H (.ref t) (.tuple [.tuple ((as.map (·.2)).map wayD), .int ((m.toNat : Nat) : Int)])
    rw [Int.toNat_of_nonneg (by omega)]
    exact .tup (SqT.of h1) (.cons (.tup (SqT.of h2) (dp_map fun p hp => .tup (SqT.of (h3 p hp)) (.cons (.str _) (.cons (.str _) .nil)))) (.cons (.int _) .nil))
theorem cvS_read {nm : Str} {ins : List Str} {cs : List NC} : cvS ⟨nm, ins, .read cs⟩ = .read nm (cs.map fun c => (c.1, kW c.2)) := rfl
theorem cvS_step {nm : Str} {ins : List Str} {det : Det} (hrd : det.what ≠ "read") : cvS ⟨nm, ins, det⟩ = .step nm det.what (ins, cvD det) := by
  cases det with
  | read cs => exact absurd rfl hrd
  | _ => rfl
theorem cols_dpp : ∀ {cl : List Col}, PairsAt H cl → DpAll K H (cl.map fun c => .ref c.1) (((cl.map (·.2)).map fun c => (c.1, kW c.2)).map wayD)
  | [], _ => .nil
  | c :: r, h => .cons (.tup (SqT.of (h c List.mem_cons_self)) (.cons (.str _) (.cons (.str _) .nil))) (cols_dpp fun x hx => h x (List.mem_cons_of_mem _ hx))
theorem stp_dp {a : Addr} {s : Stp} : StpAt H a s → StpW s → Dp K H (.ref a) (stqD (cvS s)) := fun ⟨inp, dv, h1, h2, h3⟩ ⟨gn, hw⟩ => by
  obtain ⟨nm, ins, det⟩ := s
  by_cases hrd : det.what = "read"
  · obtain ⟨cs, rfl⟩ := what_read hrd
    obtain ⟨t, cl, rfl, ht, hp, rfl⟩ := h3
    obtain ⟨rfl, _⟩ := hw
    rw [cvS_read]
    exact .tup (SqT.of h1) (.cons (.str _) (.cons (.str _) (.cons (.tup (SqT.of h2) .nil) (.cons (.tup (TupF.sq ht) (cols_dpp hp)) .nil))))
  · rw [cvS_step hrd]
    exact .tup (SqT.of h1) (.cons (.str _) (.cons (.str _) (.cons (.tup (SqT.of h2) (dp_strs _)) (.cons (det_dp h3 hw hrd) .nil))))
theorem drawn_dp {r st : Addr} {as : List (Addr × Stp)} {last : Str} (h1 : H r = some (.tup [.ref st, .str last])) (h2 : H st = some (.tup (as.map fun p => .ref p.1))) (h3 : ∀ p ∈ as, StpAt H p.1 p.2 ∧ StpW p.2) : Dp K H (.ref r) (jobD (as.map fun p => cvS p.2, last)) := by
  refine .tup (SqT.of h1) (.cons (.tup (SqT.of h2) ?_) (.cons (.str _) .nil))
  have := dp_map (K := K) (H := H) (g := fun s => stqD (cvS s)) (as := as) fun p hp => stp_dp (h3 p hp).1 (h3 p hp).2
  rw [List.map_map] at this
  rw [List.map_map]
  exact this
end
/-! ### what may be compared -/
theorem ops_ok : (∀ z ∈ sums ++ cmps ++ cmpsT ++ (["and", "or"] : List Str), PyData.strOk z = true) := by decide +kernel
theorem strs_ok {n : Nat} {ks : List Str} (h : ∀ k ∈ ks, good k) : Ok (n + 1) (.tuple (ks.map PyData.str)) := dk_map fun k hk => dk_str (good_ok (h k hk))
theorem kind_lay {cs : List NC} (hc : ∀ c ∈ cs, c.1 ∈ allNames) {e : Ex} {b : Bool} (h : Kind (kfN cs) e b) : Ok e.dep (exD e) := by
  have w : ∀ z ∈ (["number", "quoted", "column", "two", "not", "minus", "length"] : List Str), PyData.strOk z = true := by decide +kernel
  induction h with
  | num h => exact dk_two (n := 0) (dk_str (w _ (by decide +kernel))) dk_int
  | quo h => exact dk_two (n := 0) (dk_str (w _ (by decide +kernel))) (dk_str ((show ∀ z ∈ (["a", "b", "bb", ""] : List Str), PyData.strOk z = true by decide +kernel) _ h))
  | col h =>
    refine dk_two (n := 0) (dk_str (w _ (by decide +kernel))) (dk_str ?_)
    rename_i x b
    unfold kfN at h
    cases e : cs.find? (fun c => decide (c.1 = x)) with
    | none => rw [e] at h; cases h
    | some c =>
      have h1 := List.find?_some e
      have h2 := List.mem_of_find?_eq_some e
      have h3 : c.1 = x := of_decide_eq_true h1
      rw [← h3]
      exact all_ok _ (hc c h2)
  | arith h _ _ ha hb =>
    refine dk_four (dk_str (w _ (by decide +kernel))) (dk_str (ops_ok _ ?_)) (ha.mono (Nat.le_max_left _ _)) (hb.mono (Nat.le_max_right _ _))
    simp only [List.mem_append]
    rcases h with h | h | h | h
    · exact .inl (.inl (.inl h))
    · exact .inl (.inl (.inr h))
    · exact .inr (by rw [h]; exact List.mem_cons_self)
    · exact .inr (by rw [h]; exact List.mem_cons_of_mem _ List.mem_cons_self)
  | text h _ _ ha hb =>
    refine dk_four (dk_str (w _ (by decide +kernel))) (dk_str (ops_ok _ ?_)) (ha.mono (Nat.le_max_left _ _)) (hb.mono (Nat.le_max_right _ _))
    simp only [List.mem_append]
    exact .inl (.inr h)
  | nt _ ha => exact dk_two (dk_str (w _ (by decide +kernel))) ha
  | mn _ ha => exact dk_two (dk_str (w _ (by decide +kernel))) ha
  | ln _ ha => exact dk_two (dk_str (w _ (by decide +kernel))) ha
def DetE : Det → Prop
  | .filter e => Ok 4 (exD e)
  | .map ms => ∀ m ∈ ms, Ok 4 (exD m.1)
  | .fold _ fs => ∀ f ∈ fs, ∀ e, f.2.1 = some e → Ok 4 (exD e)
  | _ => True
theorem step_e {kn : List (Str × List NC)} (hc : ∀ e ∈ kn, ∀ c ∈ e.2, c.1 ∈ allNames) {ins : List Str} {det : Det} {cs : List NC} (h : StepOk kn ins det cs) : DetE det := by
  cases h with
  | filter hk k d => exact (kind_lay (hc _ hk) k).mono d
  | map hk k _ _ _ => exact fun m hm => (kind_lay (hc _ hk) (k m hm).1).mono (k m hm).2
  | fold hk _ hf _ _ _ =>
    intro f hf' e he
    obtain ⟨_, o2⟩ := hf f hf'
    rw [he] at o2
    exact (kind_lay (hc _ hk) o2.2.1).mono (Nat.le_trans o2.2.2.1 (by decide))
  | join _ _ _ _ _ => trivial
  | union _ _ => trivial
  | unlike _ => trivial
  | sort _ _ _ _ _ _ => trivial
theorem job_e {ss : List Stp} {kn : List (Str × List NC)} (h : JobOk ss kn) : (∀ e ∈ kn, e.1 ∈ stepNms) → ∀ s ∈ ss, DetE s.det := by
  induction h with
  | base =>
    intro _ s hs
    rcases List.mem_cons.mp hs with rfl | hs
    · trivial
    · rw [List.mem_singleton.mp hs]
      trivial
  | step h n k nd inn ne ih =>
    intro hn s hs
    have hn' := fun e he => hn e (List.mem_append_left _ he)
    rcases List.mem_append.mp hs with hs | hs
    · exact ih hn' s hs
    · rw [List.mem_singleton.mp hs]
      exact step_e (job_w h hn').1 k
theorem six_ok : ∀ z ∈ six, PyData.strOk z = true := by decide +kernel
theorem seven_ok : ∀ z ∈ seven, PyData.strOk z = true := by decide +kernel
theorem det_ok {ins : List Str} : ∀ {d : Det}, DetW' d ins → DetE d → d.what ≠ "read" → Ok 7 (dtD (cvD d)) ∧ ∀ x ∈ ins, good x
  | .read _, _, _, h => absurd rfl h
  | .filter _, ⟨x, e, g, _⟩, h, _ => ⟨Ok.mono h (by decide), by rw [e]; exact fun y hy => by rw [List.mem_singleton.mp hy]; exact g⟩
  | .map ms, ⟨x, e, g, _, _, hm⟩, h, _ => by
    refine ⟨?_, by rw [e]; exact fun y hy => by rw [List.mem_singleton.mp hy]; exact g⟩
    show Ok 7 (.tuple ((ms.map fun m => (m.1, m.2.2)).map mpD))
    rw [List.map_map]
    exact dk_map fun m hm' => (dk_two (h m hm') (dk_str (good_ok (hm m hm').2.2))).mono (by decide)
  | .fold ks fs, ⟨x, e, g, hk, _, _, _, hf⟩, h, _ => by
    refine ⟨?_, by rw [e]; exact fun y hy => by rw [List.mem_singleton.mp hy]; exact g⟩
    show Ok 7 (.tuple [.tuple ((ks.map (·.1)).map PyData.str), .tuple ((fs.map fun f => (f.1, f.2.1, f.2.2.2)).map fdD)])
    refine dk_two ((strs_ok fun k hk' => ?_ : Ok 6 _)) ?_
    · obtain ⟨k2, hk2, rfl⟩ := List.mem_map.mp hk'
      exact hk k2 hk2
    · rw [List.map_map]
      refine dk_map fun f hf' => ?_
      obtain ⟨f1, f2, _⟩ := hf f hf'
      refine (dk_three (n := 4) (dk_str (six_ok _ f1)) ?_ (dk_str (good_ok f2)))
      show Ok 4 (optD f.2.1)
      cases e : f.2.1 with
      | none => exact ⟨rfl, Nat.zero_le _⟩
      | some x => exact h f hf' x e
  | .join ks, ⟨x, y, e, g1, g2, _, _, hk⟩, _, _ => by
    refine ⟨?_, ?_⟩
    · show Ok 7 (.tuple ((ks.map (·.1)).map PyData.str))
      exact strs_ok fun k hk' => by
        obtain ⟨k2, hk2, rfl⟩ := List.mem_map.mp hk'
        exact hk k2 hk2
    · rw [e]
      intro z hz
      rcases List.mem_cons.mp hz with rfl | hz
      · exact g1
      · rw [List.mem_singleton.mp hz]
        exact g2
  | .union, ⟨x, y, e, g1, g2⟩, _, _ => by
    refine ⟨dk_nil, ?_⟩
    rw [e]
    intro z hz
    rcases List.mem_cons.mp hz with rfl | hz
    · exact g1
    · rw [List.mem_singleton.mp hz]
      exact g2
  | .unlike, ⟨x, e, g⟩, _, _ => ⟨dk_nil, by rw [e]; exact fun y hy => by rw [List.mem_singleton.mp hy]; exact g⟩
  | .sort ws m, ⟨x, e, g, _, _, hw, _, _⟩, _, _ => by
    refine ⟨?_, by rw [e]; exact fun y hy => by rw [List.mem_singleton.mp hy]; exact g⟩
    show Ok 7 (.tuple [.tuple (ws.map wayD), .int ((m.toNat : Nat) : Int)])
    refine dk_two (dk_map (n := 5) fun p hp => ?_) dk_int
    exact dk_two (dk_str (good_ok (hw p hp).1)) (dk_str ((show ∀ z ∈ (["up", "down"] : List Str), PyData.strOk z = true by decide +kernel) _ (hw p hp).2))
theorem stq_ok {s : Stp} : StpW s → DetE s.det → Ok 8 (stqD (cvS s)) := fun ⟨gn, hw⟩ he => by
  obtain ⟨nm, ins, det⟩ := s
  by_cases hrd : det.what = "read"
  · obtain ⟨cs, rfl⟩ := what_read hrd
    obtain ⟨rfl, _, _, hg⟩ := hw
    rw [cvS_read]
    refine dk_four (dk_str (good_ok gn)) (dk_str (by decide +kernel)) (dk_nil : Ok 7 _) ?_
    rw [List.map_map]
    refine dk_map (n := 6) fun c hc => dk_two (dk_str (good_ok (hg c hc))) (dk_str ?_)
    exact (show ∀ b : Bool, PyData.strOk (kW b) = true by decide +kernel) c.2
  · rw [cvS_step hrd]
    obtain ⟨h1, h2⟩ := det_ok hw he hrd
    exact dk_four (dk_str (good_ok gn)) (dk_str (seven_ok _ (what_seven hrd))) (strs_ok h2 : Ok 7 _) h1
theorem job_shaped {ss : List Stp} {last : Str} (h1 : ∀ s ∈ ss, StpW s ∧ DetE s.det) (h2 : good last) : SeqAt.shaped (jobD (ss.map cvS, last)) = true := by
  have : Ok 10 (jobD (ss.map cvS, last)) := by
    refine dk_two (n := 9) ?_ (dk_str (good_ok h2))
    rw [List.map_map]
    exact dk_map fun s hs => stq_ok (h1 s hs).1 (h1 s hs).2
  exact this.shaped (by decide)
end Kj

namespace Kj
open PySem PySem.Spec PyProof.Rows L2 Kx TL
abbrev sLaw : Stmt := topS 78
section
variable {P : Program} {w : World} {K : PySem.W.Frag} {mg : Str → Option Value} {base : Heap}
def spLaw (K : PySem.W.Frag) : Sp := fun vs H Q _ => ∃ (a : Addr) (xs : List Int), vs = [.ref a] ∧ SqL K H a (xs.map V.int) ∧ ∀ H', Q (.bl true) H'
abbrev N_law : List Str := ["script", "draw", "turn", "job", "found", "line", "text"]
theorem sc_law : FnScope N_law ["script"] (defScope sLaw) := ⟨rfl, rfl, rfl, by decide +kernel, rfl, by decide +kernel, by decide +kernel⟩
theorem job_len {ss : List Stp} {kn : List (Str × List NC)} (J : JobOk ss kn) : ss.length = kn.length := by
  induction J with
  | base => rfl
  | step h n k nd inn ne ih => rw [List.length_append, List.length_append, ih]; rfl
theorem iteNB' {c : Bool} {A B : Prop} (h : c = true) (q : B) : if (!c) = true then A else B := by
  rw [h]
  exact q
theorem ok_law {f C : Addr} {fd : FuncData} {k kl kr : Nat} (F : Fun K "law" "law" sLaw f fd) (hkl : kl ≤ k) (hkr : kr ≤ k) (h10 : 10 ≤ k) (m_range : mg "range" = none) (G_next : Ready P w K mg base 3 "_law_next" ["draw", "bound"] spNext) (G_pick : Ready P w K mg base 4 "_law_pick" ["draw", "things"] (spPick K)) (G_gap : Ready P w K mg base 5 "_law_gap" ["draw"] spGap) (G_job : Ready P w K mg base 10 "_law_job" ["draw", "many"] spJob) (G_lines : Ready P w K mg base kl "_law_lines" ["draw", "job"] spLines) (G_read : ReadyX P w K mg base kr "read_job" ["text"] (Kx.spJob C)) : FnOk P w K mg base CX0 (k + 1) f fd ["script"] (spLaw K) := by
  refine F.ok sc_law (fun vs H Q E h => ?_) (fun cdv A outer s0 H vs Q E hr h => ?_)
  · obtain ⟨a, xs, rfl, _⟩ := h
    rfl
  obtain ⟨a, xs, rfl, hS, q⟩ := h
  have nd := sc_law.nd
  have hrk : Room k _ := hr
  have hrl : Room kl _ := hrk.mono hkl
  have hrr : Room kr _ := hrk.mono hkr
  have hr10 : Room 10 _ := hrk.mono h10
  have hr5 : Room 5 _ := hrk.mono (by omega)
  have hr4 : Room 4 _ := hrk.mono (by omega)
  have hr3 : Room 3 _ := hrk.mono (by omega)
  have hu64 : _ + 64 < cLine := hr.units
  refine ⟨_, pss_cons (ps_set (i := 1) nd rfl (.inl rfl) (pe_lst (pa_cons (pe_slice sl_list (pv 0) po_none (po_some pe_int)) (pa_cons pe_int (pa_cons pe_int pa_nil)))))
      (pss_cons (ps_for PassesOwn.never rfl (pi_range1 rfl m_range (pa_cons pe_int pa_nil)) (pg_name (i := 2) nd rfl (.inl rfl)) (pss_cons (ps_set (i := 3) nd rfl (.inl rfl) (pe_fn G_job hr10 (pa_cons (pv 1) (pa_cons pe_int pa_nil))))
      (pss_cons (ps_set (i := 4) nd rfl (.inl rfl) (pe_lst pa_nil))
      (pss_cons (ps_for PassesOwn.never rfl (pi_list (pe_fn G_lines hrl (pa_cons (pv 1) (pa_cons (pv 3) pa_nil)))) (pg_name (i := 5) nd rfl (.inl rfl)) (C8.pss_cut (ps_if (pt_cmpR op_eq (pe_fn G_next hr3 (pa_cons (pv 1) (pa_cons pe_int pa_nil))) pe_int (nomark _)) (pss_one (ps_expr (pe_bm PySem.F.plainAttrs_list PySem.F.slot_list_append PySem.F.type_list_append mt_append (pv 4) (pa_cons (pe_fn G_pick hr4 (pa_cons (pv 1) (pa_cons (pe_lst (pa_cons pe_str (pa_cons pe_str (pa_cons pe_str (pa_cons pe_str pa_nil))))) pa_nil))) pa_nil)))) (pss_nil))
      (pss_one (ps_expr (pe_bm PySem.F.plainAttrs_list PySem.F.slot_list_append PySem.F.type_list_append mt_append (pv 4) (pa_cons (pe_op op_add_str (pe_op op_add_str (pe_fn G_gap hr5 (pa_cons (pv 1) pa_nil)) (pv 5)) (pe_fn G_pick hr4 (pa_cons (pv 1) (pa_cons (pe_lst (pa_cons pe_str (pa_cons pe_str (pa_cons pe_str (pa_cons pe_str pa_nil))))) pa_nil)))) pa_nil))))))
      (pss_cons (ps_set (i := 6) nd rfl (.inl rfl) (pe_op op_add_str (pe_join pe_str (pv 4)) (pe_fn G_pick hr4 (pa_cons (pv 1) (pa_cons (pe_lst (pa_cons pe_str (pa_cons pe_str (pa_cons pe_str pa_nil)))) pa_nil)))))
      (pss_one (ps_if (pt_cmpR (op_neD hu64) (pe_fnN G_read hrr (pa_cons (pv 6) pa_nil)) (pv 3) (nomark _)) (pss_one (ps_ret pe_bl)) (pss_nil))))))))
      (pss_one (ps_ret pe_bl))), ?_⟩
  have z0 : 0 ≤ sizeLine := by decide
  have z3 : 3 ≤ sizeLine := by decide
  have z4 : 4 ≤ sizeLine := by decide
  obtain ⟨ns, ens⟩ := cut_map xs none (some 63)
  refine ⟨_, rfl, _, rfl, a, _, rfl, hS, fun s ns0 => ⟨z3, fun d nd0 => ?_⟩⟩
  rw [ens] at nd0 ⊢
  have D0 : DrawAt (upd (upd H s (.lst (ns.map V.int))) d (.lst [.ref s, .int 0, .int 0])) d s ns [] 0 := ⟨upd_same, by rw [upd_ne (ne_of_none upd_same nd0)]; exact upd_same, Int.le_refl 0⟩
  generalize upd (upd H s (.lst (ns.map V.int))) d (.lst [.ref s, .int 0, .int 0]) = H0 at D0 ⊢
  refine ⟨3, rfl, by decide, by decide, for_range (n := 3) (fun i σ H' => ∃ n tl y2 y3 y4 y5 y6, σ = [some (.ref a), some (.ref d), y2, y3, y4, y5, y6] ∧ DrawAt H' d s ns tl n ∧ (tl = [] ∨ ∃ x, tl = [x]))
    ⟨0, [], none, none, none, none, none, rfl, D0, .inl rfl⟩ ?_ ?_⟩
  · rintro i σ H' hi ⟨n, tl, y2, y3, y4, y5, y6, rfl, D, htl⟩
    refine ⟨_, rfl, d, s, ns, tl, n, 6, rfl, D, htl, by decide, by decide, fun r st g as kn last n1 H1 hr1 hst hstp hJ hlast hlen hnms b1 D1 => ?_⟩
    obtain ⟨hJw, hss⟩ := job_w hJ hnms
    have hJe := job_e hJ hnms
    have hlen2 : as.length ≤ 10 := by
      have := job_len hJ
      rw [List.length_map] at this
      omega
    have hgl : good last := goodN _ (List.mem_append_right _ (by
      obtain ⟨e, he, rfl⟩ := List.mem_map.mp hlast
      exact hnms e he))
    have hsw : ∀ p ∈ as, StpAt H1 p.1 p.2 ∧ StpW p.2 := fun p hp => ⟨hstp p hp, hss _ (List.mem_map.mpr ⟨p, hp, rfl⟩)⟩
    refine ⟨z0, fun L hL => ?_⟩
    have sL := same_upd (o := .lst []) hL
    have D2 := D1.keep sL
    have hr2 := sL _ _ hr1
    have hst2 := sL _ _ hst
    have eL : upd H1 L (.lst []) L = some (.lst []) := upd_same
    have hsw2 : ∀ p ∈ as, StpAt (upd H1 L (.lst [])) p.1 p.2 ∧ StpW p.2 := fun p hp => ⟨(hsw p hp).1.keep (same_t sL) (same_f sL), (hsw p hp).2⟩
    have nLd : L ≠ d := fun z => by rw [z, D1.at_d] at hL; cases hL
    have nLs : L ≠ s := fun z => by rw [z, D1.at_s] at hL; cases hL
    generalize upd H1 L (.lst []) = H2 at sL D2 hr2 hst2 eL hsw2 ⊢
    refine ⟨_, rfl, _, rfl, d, s, ns, _, _, r, st, as, last, rfl, D2, hr2, hst2, hsw2, hgl, hlen2, fun rl zs W n3 H3 hrl hrl2 hlz hW0 hWl hW b3 D3 => ?_⟩
    have hr3' := b3 _ _ (fun z => by rw [z, D2.at_d] at hr2; cases hr2) hr2
    have hst3 := b3 _ _ (fun z => by rw [z, D2.at_d] at hst2; cases hst2) hst2
    have eL3 := b3 _ _ nLd eL
    have hsw3 : ∀ p ∈ as, StpAt H3 p.1 p.2 ∧ StpW p.2 := fun p hp => ⟨(hsw2 p hp).1.keep (b3.tup D2.at_d) (b3.tupF D2.at_d), (hsw2 p hp).2⟩
    have nrl : rl ≠ L := fun z => by rw [z, eL] at hrl; cases hrl
    have nrd : rl ≠ d := fun z => by rw [z, D2.at_d] at hrl; cases hrl
    have nrL : r ≠ L := fun z => by rw [z, eL] at hr2; cases hr2
    have nrd2 : r ≠ d := fun z => by rw [z, D2.at_d] at hr2; cases hr2
    refine ⟨rl, rfl, ⟨_, SqL.of hrl2⟩, ?_⟩
    refine for_it (walk_list (xs := zs.map V.str)) (fun i σ H' => ∃ (y2 y5 y6 : Option V) (n' : Int) (fs : List Str), σ = [some (.ref a), some (.ref d), y2, some (.ref r), some (.ref L), y5, y6] ∧ (∀ x o, x ≠ d → x ≠ L → H3 x = some o → H' x = some o) ∧ DrawAt H' d s ns [.ref g] n' ∧ H' L = some (.lst (fs.map V.str)) ∧ RowsW fs (W i) (2 * i) ∧ (0 < i → fs ≠ [])) ⟨_, _, _, n3, [], rfl, (fun x o _ _ e => e), D3, eL3, by rw [hW0]; exact RowsW.nil, (fun h => absurd h (Nat.lt_irrefl 0))⟩ (fun i σ H' _ ⟨_, _, _, _, _, _, b, _⟩ => SqL.of (b _ _ nrd nrl hrl2)) ?_ ?_
    · rintro i v σ H' H'' hi ⟨y2, y5, y6, n', fs, rfl, b, D', eF, hR, _⟩ ⟨rfl, hv⟩
      rw [List.getElem?_map] at hv
      obtain ⟨z, hz, rfl⟩ := Option.map_eq_some_iff.mp hv
      have hi2 : i < 11 := by rw [List.length_map, hlz] at hi; omega
      have lw := hW i z hz
      have ltF : ∀ {gs : List Str} {m : Nat}, gs.length ≤ m → m ≤ 28 → (gs.map V.str).length < sizeLine := fun h1 h2 => Nat.lt_of_le_of_lt (show _ ≤ 28 by rw [List.length_map]; omega) (by decide)
      have put : ∀ {G : Hp} {gs : List Str} {m : Int} {y : Str}, (∀ x o, x ≠ d → x ≠ L → H3 x = some o → G x = some o) → DrawAt G d s ns [.ref g] m → (∀ x o, x ≠ d → x ≠ L → H3 x = some o → upd G L (.lst (gs.map V.str ++ [.str y])) x = some o) ∧ DrawAt (upd G L (.lst (gs.map V.str ++ [.str y]))) d s ns [.ref g] m ∧ upd G L (.lst (gs.map V.str ++ [.str y])) L = some (.lst ((gs ++ [y]).map V.str)) := fun {G gs m y} b D => by
        refine ⟨fun x o h1 h2 e => ?_, ⟨?_, ?_, D.n0⟩, ?_⟩
        · rw [upd_ne h2]
          exact b x o h1 h2 e
        · rw [upd_ne nLd.symm]
          exact D.at_d
        · rw [upd_ne nLs.symm]
          exact D.at_s
        · rw [List.map_append]
          exact upd_same
      have kb : ∀ {G G' : Hp}, (∀ x o, x ≠ d → x ≠ L → H3 x = some o → G x = some o) → But d G G' → (∀ x o, x ≠ d → x ≠ L → H3 x = some o → G' x = some o) := fun h1 h2 x o a1 a2 e => h2 x o a1 (h1 x o a1 a2 e)
      refine ⟨fun σ G => ∃ (n' : Int) (gs : List Str), σ = [some (.ref a), some (.ref d), y2, some (.ref r), some (.ref L), some (.str z), y6] ∧ (∀ x o, x ≠ d → x ≠ L → H3 x = some o → G x = some o) ∧ DrawAt G d s ns [.ref g] n' ∧ G L = some (.lst (gs.map V.str)) ∧ RowsW gs (W i) (2 * i + 1), ?_, ?_⟩
      · refine ⟨_, rfl, d, s, ns, _, _, 4, rfl, D', by decide, fun m H4 m0 m1 b4 D4 => ?_⟩
        have bb := kb b b4
        have eF4 := b4 _ _ nLd eF
        refine ⟨rfl, _, rfl, ?_⟩
        by_cases hm : V.int m = V.int 0
        · refine Kx.ifT' (decide_eq_true hm) ?_
          refine ⟨_, rfl, .inl ⟨rfl, _, SqL.of eF4⟩, _, rfl, z4, fun t ht => ?_⟩
          have s5 := same_upd (o := .lst (fills.map V.str)) ht
          have D5 := D4.keep s5
          refine ⟨d, s, t, ns, _, _, fills.map V.str, rfl, D5, fun z => (by rw [z, D4.at_d] at ht; cases ht), .inl (SqL.of upd_same), List.cons_ne_nil _ _, fun v H6 hv b6 D6 => ?_⟩
          obtain ⟨e, he, rfl⟩ := List.mem_map.mp hv
          have eF6 := b6 _ _ nLd (s5 _ _ eF4)
          have b7 := kb (fun x o h1 h2 e => s5 _ _ (bb x o h1 h2 e)) b6
          obtain ⟨p1, p2, p3⟩ := put (gs := fs) (y := e) b7 D6
          exact ⟨L, _, _, rfl, rfl, eF6, ltF hR.len (by omega), _, _, rfl, p1, p2, p3, hR.fill he⟩
        · exact Kx.ifF' (decide_eq_false hm) ⟨_, fs, rfl, bb, D4, eF4, hR.mono (Nat.le_succ _)⟩
      · rintro σ G ⟨n', gs, rfl, b, D', eG, hR⟩
        refine ⟨_, rfl, .inl ⟨rfl, _, SqL.of eG⟩, _, rfl, d, s, ns, _, _, rfl, D', fun g1 H4 hg1 b4 D4 => ?_⟩
        have eG4 := b4 _ _ nLd eG
        have bb := kb b b4
        refine ⟨_, rfl, _, _, rfl, rfl, ?_, _, rfl, z4, fun t ht => ?_⟩
        · rw [bl_len]
          have := lw.len
          exact Nat.le_trans (show _ ≤ 4000 by omega) (by decide)
        have s5 := same_upd (o := .lst (tails.map V.str)) ht
        have D5 := D4.keep s5
        refine ⟨d, s, t, ns, _, _, tails.map V.str, rfl, D5, fun z => (by rw [z, D4.at_d] at ht; cases ht), .inl (SqL.of upd_same), List.cons_ne_nil _ _, fun v H6 hv b6 D6 => ?_⟩
        obtain ⟨e, he, rfl⟩ := List.mem_map.mp hv
        have eF6 := b6 _ _ nLd (s5 _ _ eG4)
        have b7 := kb (fun x o h1 h2 e => s5 _ _ (bb x o h1 h2 e)) b6
        obtain ⟨p1, p2, p3⟩ := put (gs := gs) (y := bl g1 ++ z ++ e) b7 D6
        refine ⟨_, _, rfl, rfl, ?_, L, _, _, rfl, rfl, eF6, ltF hR.len (by omega), _, _, _, _, gs ++ [bl g1 ++ z ++ e], rfl, p1, p2, p3, hR.line lw hg1 he, fun _ => by simp⟩
        rw [len2, bl_len]
        have h1 := lw.len
        have h2 := (tails_ok he).2.2
        exact Nat.le_trans (show _ ≤ 4000 by omega) (by decide)
    · rintro σ H' ⟨y2, y5, y6, n', fs, rfl, b, D', eF, hR, hne⟩
      rw [List.length_map, hlz] at hR hne
      rw [hlz] at hWl
      rw [hWl] at hR
      have hne := hne (Nat.succ_pos _)
      have hr5' := b _ _ nrd2 nrL hr3'
      have hst5 := b _ _ (fun z => by rw [z, D3.at_d] at hst3; cases hst3) (fun z => by rw [z, eL3] at hst3; cases hst3) hst3
      have kt : KeepT H3 H' := fun x l e => b x _ (fun z => by rw [z, D3.at_d] at e; cases e) (fun z => by rw [z, eL3] at e; cases e) e
      have kf : KeepF H3 H' := fun x l ⟨o, dn, e⟩ => ⟨o, dn, b x _ (fun z => by rw [z, D3.at_d] at e; cases e) (fun z => by rw [z, eL3] at e; cases e) e⟩
      have hsw5 : ∀ p ∈ as, StpAt H' p.1 p.2 ∧ StpW p.2 := fun p hp => ⟨(hsw3 p hp).1.keep kt kf, (hsw3 p hp).2⟩
      have hsum : (fs.map (·.length)).sum + fs.length * 1 ≤ 99999 := by
        have h2 := sum_le (g := fun z : Str => z.length) (c := 3200) (l := fs) fun z hz => (hR.ok z hz).2
        have h3 := hR.len
        have h4 : fs.length * 3200 ≤ 22 * 3200 := Nat.mul_le_mul_right _ (by omega)
        omega
      refine ⟨⟨_, rfl⟩, _, rfl, _, L, fs, rfl, rfl, .inl (SqL.of eF), ?_, _, rfl, z3, fun t ht => ?_⟩
      · rw [show ("\n" : Str).length = 1 by decide +kernel]
        omega
      have s5 := same_upd (o := .lst (ends.map V.str)) ht
      have D5 := D'.keep s5
      refine ⟨d, s, t, ns, _, _, ends.map V.str, rfl, D5, fun z => (by rw [z, D'.at_d] at ht; cases ht), .inl (SqL.of upd_same), List.cons_ne_nil _ _, fun v H6 hv b6 D6 => ?_⟩
      obtain ⟨e, he, rfl⟩ := List.mem_map.mp hv
      obtain ⟨ms, hM, hmne, htx⟩ := hR.end_ hne he
      obtain ⟨l1, l2, l3⟩ := hM.job hmne (by omega)
      refine ⟨_, _, rfl, rfl, ?_, _, rfl, .inr ⟨_, rfl, ?_, ?_, fun x ex v H7 sm hv => ?_, fun n c ex => ?_⟩⟩
      · rw [← len2, htx]
        exact Nat.le_trans l1 (by decide)
      · rw [htx]
        exact l1
      · rw [htx, l2]
        exact fun y hy => Nat.le_trans (hM.ok y hy).2 (by decide)
      · rw [htx, l3] at ex
        cases ex
        have kt6 : KeepT H' H7 := fun x l e => sm _ _ (b6.tup D5.at_d _ _ (s5 _ _ e))
        have kf6 : KeepF H' H7 := fun x l h => same_f sm _ _ (b6.tupF D5.at_d _ _ (same_f s5 _ _ h))
        have sh := job_shaped (ss := as.map (·.2)) (last := last) (fun s hs => ⟨hss s hs, hJe s hs⟩) hgl
        rw [List.map_map] at sh
        have dd := drawn_dp (K := K) (kt6 _ _ hr5') (kt6 _ _ hst5) (fun p hp => ⟨(hsw5 p hp).1.keep kt6 kf6, (hsw5 p hp).2⟩)
        exact ⟨_, rfl, _, _, job_dp hv, dd, sh, sh, _, rfl, iteNB' (refl_of sh) ⟨_, _, _, _, _, _, _, rfl, D6.keep sm, .inr ⟨_, rfl⟩⟩⟩
      · rw [htx, l3] at ex
        cases ex
  · rintro σ H' _
    exact q _
end
end Kj

namespace Kx
open PySem PySem.Spec PyProof.Rows L2
abbrev sLaw : Stmt := Kj.sLaw
abbrev spLaw (K : PySem.W.Frag) : Sp := Kj.spLaw K
theorem ready_mono {P : Program} {w : World} {K : PySem.W.Frag} {mg : Str → Option Value} {base : Heap} {j k : Nat} {x : Str} {ps : List Str} {sp : Sp} (h : Kj.Ready P w K mg base j x ps sp) (hjk : j ≤ k) : Kj.Ready P w K mg base k x ps sp := by
  obtain ⟨f, fd, a, b, c, d⟩ := h.ex
  exact ⟨⟨f, fd, a.mono hjk, b, c, d⟩⟩
section
variable {P : Program} {w : World} {K : PySem.W.Frag} {mg : Str → Option Value} {base : Heap} {f : Addr} {fd : FuncData} {k : Nat}
theorem no_def {sp : Sp} {ps : List Str} (h : ∀ vs H Q E, ¬ sp vs H Q E) : FnOk P w K mg base CX0 k f fd ps sp :=
  ⟨fun vs H Q E z => absurd z (h vs H Q E), fun A outer s H args us vs Q E _ _ _ _ z => absurd z (h vs H Q E)⟩
theorem no_int : FnOk P w K mg base CX0 k f fd ["draw", "columns", "deep"] (Kj.spInt 0) := no_def fun vs H Q E ⟨_, _, _, _, _, _, _, _, _, _, _, _, _, h0, h1, _⟩ => by omega
theorem no_told : FnOk P w K mg base CX0 k f fd ["draw", "told"] (Kj.spTold 0) := no_def fun vs H Q E ⟨_, _, _, _, _, _, e, _, _, _, _, h, _⟩ => absurd e.dep_pos (by omega)
theorem no_flat : FnOk P w K mg base CX0 k f fd ["draw", "told"] (Kj.spFlat 0) := no_def fun vs H Q E ⟨_, _, _, _, _, _, e, _, _, _, _, h, _⟩ => absurd e.dep_pos (by omega)
end
theorem all_words : (("" : Str) :: ownAll) = ([("" : Str), ("read" : Str), ("filter" : Str), ("where" : Str), ("map" : Str), ("to" : Str), ("as" : Str), ("fold" : Str), ("by" : Str), ("join" : Str), ("union" : Str), ("unlike" : Str), ("sort" : Str), ("first" : Str), ("up" : Str), ("down" : Str), ("answer" : Str), ("and" : Str), ("or" : Str), ("not" : Str), ("mod" : Str), ("length" : Str), ("int" : Str), ("text" : Str), ("count" : Str), ("sum" : Str), ("least" : Str), ("greatest" : Str), ("mean" : Str), ("!=" : Str), ("<=" : Str), (">=" : Str), ("(" : Str), (")" : Str), ("," : Str), ("=" : Str), ("<" : Str), (">" : Str), ("+" : Str), ("-" : Str), ("*" : Str), ("/" : Str), (":" : Str)] : List Str) := by decide +kernel
theorem dicW_mk {K : PySem.W.Frag} {w : World} {a : Addr} {es : Array DictEntry} {n : Nat} {ks : List Str} (l : K.lookup a = some ⟨.type "dict", none, .dict es n, #[]⟩) (h : es.toList.map He.keyOf = He.keysIn w.params ks) (lo : (a == sysModules) = false) : He.dicW K a = some (He.keysIn w.params ks) := by
  unfold He.dicW
  rw [l, ← h]
  dsimp only
  have e : (decide (("dict" : String) = "dict") && ((#[] : Array (Option Value)).isEmpty && !(a == sysModules))) = true := by
    rw [lo]
    rfl
  rw [e]
theorem rest_fold_eq : rdRest "fold" = mapR (fun x => (x.1, Dt.fold x.2.1 x.2.2)) rdFoldAll := by
  unfold rdRest
  rw [if_neg (show ¬ ("fold" : Str) = "filter" by decide +kernel), if_neg (show ¬ ("fold" : Str) = "map" by decide +kernel), if_pos rfl]
theorem rest_join_eq : rdRest "join" = mapR (fun x => (x.1, Dt.join x.2)) (rdThen rdTwoIn "by" (rdList rdName)) := by
  unfold rdRest
  rw [if_neg (show ¬ ("join" : Str) = "filter" by decide +kernel), if_neg (show ¬ ("join" : Str) = "map" by decide +kernel), if_neg (show ¬ ("join" : Str) = "fold" by decide +kernel), if_pos rfl]
theorem rest_union_eq : rdRest "union" = mapR (fun x => (x.1, Dt.union)) (rdUnit rdTwoIn) := by
  unfold rdRest
  rw [if_neg (show ¬ ("union" : Str) = "filter" by decide +kernel), if_neg (show ¬ ("union" : Str) = "map" by decide +kernel), if_neg (show ¬ ("union" : Str) = "fold" by decide +kernel), if_neg (show ¬ ("union" : Str) = "join" by decide +kernel), if_pos rfl]
theorem rest_unlike_eq : rdRest "unlike" = mapR (fun x => (x.1, Dt.unlike)) (rdUnit rdOne) := by
  unfold rdRest
  rw [if_neg (show ¬ ("unlike" : Str) = "filter" by decide +kernel), if_neg (show ¬ ("unlike" : Str) = "map" by decide +kernel), if_neg (show ¬ ("unlike" : Str) = "fold" by decide +kernel), if_neg (show ¬ ("unlike" : Str) = "join" by decide +kernel), if_neg (show ¬ ("unlike" : Str) = "union" by decide +kernel), if_pos rfl]
theorem rest_sort_eq : rdRest "sort" = mapR (fun x => (x.1, Dt.sort x.2.1 x.2.2)) rdSort := by
  unfold rdRest
  rw [if_neg (show ¬ ("sort" : Str) = "filter" by decide +kernel), if_neg (show ¬ ("sort" : Str) = "map" by decide +kernel), if_neg (show ¬ ("sort" : Str) = "fold" by decide +kernel), if_neg (show ¬ ("sort" : Str) = "join" by decide +kernel), if_neg (show ¬ ("sort" : Str) = "union" by decide +kernel), if_neg (show ¬ ("sort" : Str) = "unlike" by decide +kernel)]
/-- an error of the class at S is what «except S» names -/
theorem exm_own {K : PySem.W.Frag} {S : Addr} (h1 : PySem.W.subIn K (.ref S) (.type "BaseException") = some true) (h2 : PySem.W.isClsIn K S = true) (h3 : PySem.W.typeIn K (.ref S) = some (.type "type")) (h4 : PySem.W.subIn K (.ref S) (.ref S) = some true) : PySem.W.exmOne K (.ref S) (.ref S) = some true := by
  have sub : (PySem.W.subIn K (.ref S) (.type "BaseException") == some true) = true := by rw [h1] <;> rfl
  have cls : ((PySem.W.clsIn K S).isSome && PySem.W.typeIn K (.ref S) == some (.type "type")) = true := by
    rw [show (PySem.W.clsIn K S).isSome = true from h2, h3] <;> rfl
  show (if (PySem.W.subIn K (.ref S) (.type "BaseException") == some true) = true then (if ((PySem.W.clsIn K S).isSome && PySem.W.typeIn K (.ref S) == some (.type "type")) = true then PySem.W.subIn K (.ref S) (.ref S) else none) else none) = some true
  rw [if_pos sub, if_pos cls, h4]
theorem all_mk {l : PySem.W.OpenLaw} {w : World} {K : PySem.W.Frag} {h : Heap} {mg : Str → Option Value} {fa : Addr} (X : K.In h) (G : h.Ns mainGlobals mg) (hfa : mg "law" = some (.ref fa))
    {f1 f2 f3 f4 f5 f6 f7 f8 f9 f10 f11 f12 f13 f14 f15 f16 f17 f18 f19 f20 f21 f22 f23 f24 f25 f26 f27 f28 f29 f30 f31 f32 f33 f34 f35 f36 f37 f38 f39 f40 f41 f42 f43 f44 f45 f46 f47 f48 f49 f50 f51 f52 f53 f54 f55 : Addr} {od1 an1 od2 an2 od3 an3 od4 an4 od5 an5 od6 an6 od7 an7 od8 an8 od9 an9 od10 an10 od11 an11 od12 an12 od13 an13 od14 an14 od15 an15 od16 an16 od17 an17 od18 an18 od19 an19 od20 an20 od21 an21 od22 an22 od23 an23 od24 an24 od25 an25 od26 an26 od27 an27 od28 an28 od29 an29 od30 an30 od31 an31 od32 an32 od33 an33 od34 an34 od35 an35 od36 an36 od37 an37 od38 an38 od39 an39 od40 an40 od41 an41 od42 an42 od43 an43 od44 an44 od45 an45 od46 an46 od47 an47 od48 an48 od49 an49 od50 an50 od51 an51 od52 an52 od53 an53 od54 an54 od55 an55 : Option Addr} {sl1 sl2 sl3 sl4 sl5 sl6 sl7 sl8 sl9 sl10 sl11 sl12 sl13 sl14 sl15 sl16 sl17 sl18 sl19 sl20 sl21 sl22 sl23 sl24 sl25 sl26 sl27 sl28 sl29 sl30 sl31 sl32 sl33 sl34 sl35 sl36 sl37 sl38 sl39 sl40 sl41 sl42 sl43 sl44 sl45 sl46 sl47 sl48 sl49 sl50 sl51 sl52 sl53 sl54 sl55 : Array (Option Value)} {oc1 kV1 dc1 pm1 cd1 ct1 oc2 kV2 dc2 pm2 cd2 ct2 oc3 kV3 dc3 pm3 cd3 ct3 oc4 kV4 dc4 pm4 cd4 ct4 oc5 kV5 dc5 pm5 cd5 ct5 oc6 kV6 dc6 pm6 cd6 ct6 oc7 kV7 dc7 pm7 cd7 ct7 oc8 kV8 dc8 pm8 cd8 ct8 oc9 kV9 dc9 pm9 cd9 ct9 oc10 kV10 dc10 pm10 cd10 ct10 oc11 kV11 dc11 pm11 cd11 ct11 oc12 kV12 dc12 pm12 cd12 ct12 oc13 kV13 dc13 pm13 cd13 ct13 oc14 kV14 dc14 pm14 cd14 ct14 oc15 kV15 dc15 pm15 cd15 ct15 oc16 kV16 dc16 pm16 cd16 ct16 oc17 kV17 dc17 pm17 cd17 ct17 oc18 kV18 dc18 pm18 cd18 ct18 oc19 kV19 dc19 pm19 cd19 ct19 oc20 kV20 dc20 pm20 cd20 ct20 oc21 kV21 dc21 pm21 cd21 ct21 oc22 kV22 dc22 pm22 cd22 ct22 oc23 kV23 dc23 pm23 cd23 ct23 oc24 kV24 dc24 pm24 cd24 ct24 oc25 kV25 dc25 pm25 cd25 ct25 oc26 kV26 dc26 pm26 cd26 ct26 oc27 kV27 dc27 pm27 cd27 ct27 oc28 kV28 dc28 pm28 cd28 ct28 oc29 kV29 dc29 pm29 cd29 ct29 oc30 kV30 dc30 pm30 cd30 ct30 oc31 kV31 dc31 pm31 cd31 ct31 oc32 kV32 dc32 pm32 cd32 ct32 oc33 kV33 dc33 pm33 cd33 ct33 oc34 kV34 dc34 pm34 cd34 ct34 oc35 kV35 dc35 pm35 cd35 ct35 oc36 kV36 dc36 pm36 cd36 ct36 oc37 kV37 dc37 pm37 cd37 ct37 oc38 kV38 dc38 pm38 cd38 ct38 oc39 kV39 dc39 pm39 cd39 ct39 oc40 kV40 dc40 pm40 cd40 ct40 oc41 kV41 dc41 pm41 cd41 ct41 oc42 kV42 dc42 pm42 cd42 ct42 oc43 kV43 dc43 pm43 cd43 ct43 oc44 kV44 dc44 pm44 cd44 ct44 oc45 kV45 dc45 pm45 cd45 ct45 oc46 kV46 dc46 pm46 cd46 ct46 oc47 kV47 dc47 pm47 cd47 ct47 oc48 kV48 dc48 pm48 cd48 ct48 oc49 kV49 dc49 pm49 cd49 ct49 oc50 kV50 dc50 pm50 cd50 ct50 oc51 kV51 dc51 pm51 cd51 ct51 oc52 kV52 dc52 pm52 cd52 ct52 oc53 kV53 dc53 pm53 cd53 ct53 oc54 kV54 dc54 pm54 cd54 ct54 oc55 kV55 dc55 pm55 cd55 ct55 : Value} {u1 u2 u3 u4 u5 u6 u7 u8 u9 : PySem.Tok} {C fI N BE dl CL aO aG dR : Addr} {nm qn : Str} {bs : List Value} {sn : List Str} {sub : List Value} {ab : Bool} {col : Option Bool} {dd odI anI odO odG : Option Addr} {n0 n1 n2 n3 n5 : Option Value} {slI slO slG : Array (Option Value)} {itsO itsG : Array Value} {nO nG : Nat} {ocI dcI pmI cdI ctI : Value} {es esR : Array DictEntry} {nn nR : Nat} {tS w1 w2 w3 w4 w5 w6 w7 w8 w9 w10 w11 w12 w13 : PySem.Tok} {mf1 : Addr} {mod1 man1 : Option Addr} {msl1 : Array (Option Value)} {moc1 mkV1 mdc1 mpm1 mcd1 mct1 : Value} {mf2 : Addr} {mod2 man2 : Option Addr} {msl2 : Array (Option Value)} {moc2 mkV2 mdc2 mpm2 mcd2 mct2 : Value} {mf3 : Addr} {mod3 man3 : Option Addr} {msl3 : Array (Option Value)} {moc3 mkV3 mdc3 mpm3 mcd3 mct3 : Value} {mf4 : Addr} {mod4 man4 : Option Addr} {msl4 : Array (Option Value)} {moc4 mkV4 mdc4 mpm4 mcd4 mct4 : Value} {mf5 : Addr} {mod5 man5 : Option Addr} {msl5 : Array (Option Value)} {moc5 mkV5 mdc5 mpm5 mcd5 mct5 : Value} {mf6 : Addr} {mod6 man6 : Option Addr} {msl6 : Array (Option Value)} {moc6 mkV6 mdc6 mpm6 mcd6 mct6 : Value} {mf7 : Addr} {mod7 man7 : Option Addr} {msl7 : Array (Option Value)} {moc7 mkV7 mdc7 mpm7 mcd7 mct7 : Value} {mf8 : Addr} {mod8 man8 : Option Addr} {msl8 : Array (Option Value)} {moc8 mkV8 mdc8 mpm8 mcd8 mct8 : Value} {mf9 : Addr} {mod9 man9 : Option Addr} {msl9 : Array (Option Value)} {moc9 mkV9 mdc9 mpm9 mcd9 mct9 : Value}
    (a1 : PySem.W.nsIn K mainGlobals "parts_of" = some (some (.ref f1))) (l1 : K.lookup f1 = some ⟨oc1, od1, .func (PySem.W.fnOf "parts_of" "parts_of" (defArgs s_parts_of) (defBody s_parts_of) (defScope s_parts_of) .none kV1 dc1 pm1 an1 cd1 ct1), sl1⟩) (c1 : PySem.W.codeIn K cd1 "parts_of" = true) (k1 : PySem.W.keepIn K (.ref f1) = true)
    (a2 : PySem.W.nsIn K mainGlobals "rows_of_parts" = some (some (.ref f2))) (l2 : K.lookup f2 = some ⟨oc2, od2, .func (PySem.W.fnOf "rows_of_parts" "rows_of_parts" (defArgs s_rows_of_parts) (defBody s_rows_of_parts) (defScope s_rows_of_parts) .none kV2 dc2 pm2 an2 cd2 ct2), sl2⟩) (c2 : PySem.W.codeIn K cd2 "rows_of_parts" = true) (k2 : PySem.W.keepIn K (.ref f2) = true)
    (a3 : PySem.W.nsIn K mainGlobals "how_many" = some (some (.ref f3))) (l3 : K.lookup f3 = some ⟨oc3, od3, .func (PySem.W.fnOf "how_many" "how_many" (defArgs s_how_many) (defBody s_how_many) (defScope s_how_many) .none kV3 dc3 pm3 an3 cd3 ct3), sl3⟩) (c3 : PySem.W.codeIn K cd3 "how_many" = true) (k3 : PySem.W.keepIn K (.ref f3) = true)
    (a4 : PySem.W.nsIn K mainGlobals "how_deep" = some (some (.ref f4))) (l4 : K.lookup f4 = some ⟨oc4, od4, .func (PySem.W.fnOf "how_deep" "how_deep" (defArgs s_how_deep) (defBody s_how_deep) (defScope s_how_deep) .none kV4 dc4 pm4 an4 cd4 ct4), sl4⟩) (c4 : PySem.W.codeIn K cd4 "how_deep" = true) (k4 : PySem.W.keepIn K (.ref f4) = true)
    (a5 : PySem.W.nsIn K mainGlobals "is_large" = some (some (.ref f5))) (l5 : K.lookup f5 = some ⟨oc5, od5, .func (PySem.W.fnOf "is_large" "is_large" (defArgs s_is_large) (defBody s_is_large) (defScope s_is_large) .none kV5 dc5 pm5 an5 cd5 ct5), sl5⟩) (c5 : PySem.W.codeIn K cd5 "is_large" = true) (k5 : PySem.W.keepIn K (.ref f5) = true)
    (a6 : PySem.W.nsIn K mainGlobals "next_level" = some (some (.ref f6))) (l6 : K.lookup f6 = some ⟨oc6, od6, .func (PySem.W.fnOf "next_level" "next_level" (defArgs s_next_level) (defBody s_next_level) (defScope s_next_level) .none kV6 dc6 pm6 an6 cd6 ct6), sl6⟩) (c6 : PySem.W.codeIn K cd6 "next_level" = true) (k6 : PySem.W.keepIn K (.ref f6) = true)
    (a7 : PySem.W.nsIn K mainGlobals "read_operand" = some (some (.ref f7))) (l7 : K.lookup f7 = some ⟨oc7, od7, .func (PySem.W.fnOf "read_operand" "read_operand" (defArgs s_read_operand) (defBody s_read_operand) (defScope s_read_operand) .none kV7 dc7 pm7 an7 cd7 ct7), sl7⟩) (c7 : PySem.W.codeIn K cd7 "read_operand" = true) (k7 : PySem.W.keepIn K (.ref f7) = true)
    (a8 : PySem.W.nsIn K mainGlobals "read_part" = some (some (.ref f8))) (l8 : K.lookup f8 = some ⟨oc8, od8, .func (PySem.W.fnOf "read_part" "read_part" (defArgs s_read_part) (defBody s_read_part) (defScope s_read_part) .none kV8 dc8 pm8 an8 cd8 ct8), sl8⟩) (c8 : PySem.W.codeIn K cd8 "read_part" = true) (k8 : PySem.W.keepIn K (.ref f8) = true)
    (a9 : PySem.W.nsIn K mainGlobals "read_expression" = some (some (.ref f9))) (l9 : K.lookup f9 = some ⟨oc9, od9, .func (PySem.W.fnOf "read_expression" "read_expression" (defArgs s_read_expression) (defBody s_read_expression) (defScope s_read_expression) .none kV9 dc9 pm9 an9 cd9 ct9), sl9⟩) (c9 : PySem.W.codeIn K cd9 "read_expression" = true) (k9 : PySem.W.keepIn K (.ref f9) = true)
    (a10 : PySem.W.nsIn K mainGlobals "is_figure" = some (some (.ref f10))) (l10 : K.lookup f10 = some ⟨oc10, od10, .func (PySem.W.fnOf "is_figure" "is_figure" (defArgs s_is_figure) (defBody s_is_figure) (defScope s_is_figure) .none kV10 dc10 pm10 an10 cd10 ct10), sl10⟩) (c10 : PySem.W.codeIn K cd10 "is_figure" = true) (k10 : PySem.W.keepIn K (.ref f10) = true)
    (a11 : PySem.W.nsIn K mainGlobals "is_letter" = some (some (.ref f11))) (l11 : K.lookup f11 = some ⟨oc11, od11, .func (PySem.W.fnOf "is_letter" "is_letter" (defArgs s_is_letter) (defBody s_is_letter) (defScope s_is_letter) .none kV11 dc11 pm11 an11 cd11 ct11), sl11⟩) (c11 : PySem.W.codeIn K cd11 "is_letter" = true) (k11 : PySem.W.keepIn K (.ref f11) = true)
    (a12 : PySem.W.nsIn K mainGlobals "run_end" = some (some (.ref f12))) (l12 : K.lookup f12 = some ⟨oc12, od12, .func (PySem.W.fnOf "run_end" "run_end" (defArgs s_run_end) (defBody s_run_end) (defScope s_run_end) .none kV12 dc12 pm12 an12 cd12 ct12), sl12⟩) (c12 : PySem.W.codeIn K cd12 "run_end" = true) (k12 : PySem.W.keepIn K (.ref f12) = true)
    (a13 : PySem.W.nsIn K mainGlobals "is_number" = some (some (.ref f13))) (l13 : K.lookup f13 = some ⟨oc13, od13, .func (PySem.W.fnOf "is_number" "is_number" (defArgs s_is_number) (defBody s_is_number) (defScope s_is_number) .none kV13 dc13 pm13 an13 cd13 ct13), sl13⟩) (c13 : PySem.W.codeIn K cd13 "is_number" = true) (k13 : PySem.W.keepIn K (.ref f13) = true)
    (a14 : PySem.W.nsIn K mainGlobals "piece_at" = some (some (.ref f14))) (l14 : K.lookup f14 = some ⟨oc14, od14, .func (PySem.W.fnOf "piece_at" "piece_at" (defArgs s_piece_at) (defBody s_piece_at) (defScope s_piece_at) .none kV14 dc14 pm14 an14 cd14 ct14), sl14⟩) (c14 : PySem.W.codeIn K cd14 "piece_at" = true) (k14 : PySem.W.keepIn K (.ref f14) = true)
    (a15 : PySem.W.nsIn K mainGlobals "is_bracket" = some (some (.ref f15))) (l15 : K.lookup f15 = some ⟨oc15, od15, .func (PySem.W.fnOf "is_bracket" "is_bracket" (defArgs s_is_bracket) (defBody s_is_bracket) (defScope s_is_bracket) .none kV15 dc15 pm15 an15 cd15 ct15), sl15⟩) (c15 : PySem.W.codeIn K cd15 "is_bracket" = true) (k15 : PySem.W.keepIn K (.ref f15) = true)
    (a16 : PySem.W.nsIn K mainGlobals "pieces_of" = some (some (.ref f16))) (l16 : K.lookup f16 = some ⟨oc16, od16, .func (PySem.W.fnOf "pieces_of" "pieces_of" (defArgs s_pieces_of) (defBody s_pieces_of) (defScope s_pieces_of) .none kV16 dc16 pm16 an16 cd16 ct16), sl16⟩) (c16 : PySem.W.codeIn K cd16 "pieces_of" = true) (k16 : PySem.W.keepIn K (.ref f16) = true)
    (a17 : PySem.W.nsIn K mainGlobals "read_list" = some (some (.ref f17))) (l17 : K.lookup f17 = some ⟨oc17, od17, .func (PySem.W.fnOf "read_list" "read_list" (defArgs s_read_list) (defBody s_read_list) (defScope s_read_list) .none kV17 dc17 pm17 an17 cd17 ct17), sl17⟩) (c17 : PySem.W.codeIn K cd17 "read_list" = true) (k17 : PySem.W.keepIn K (.ref f17) = true)
    (a18 : PySem.W.nsIn K mainGlobals "read_name" = some (some (.ref f18))) (l18 : K.lookup f18 = some ⟨oc18, od18, .func (PySem.W.fnOf "read_name" "read_name" (defArgs s_read_name) (defBody s_read_name) (defScope s_read_name) .none kV18 dc18 pm18 an18 cd18 ct18), sl18⟩) (c18 : PySem.W.codeIn K cd18 "read_name" = true) (k18 : PySem.W.keepIn K (.ref f18) = true)
    (a19 : PySem.W.nsIn K mainGlobals "read_column" = some (some (.ref f19))) (l19 : K.lookup f19 = some ⟨oc19, od19, .func (PySem.W.fnOf "read_column" "read_column" (defArgs s_read_column) (defBody s_read_column) (defScope s_read_column) .none kV19 dc19 pm19 an19 cd19 ct19), sl19⟩) (c19 : PySem.W.codeIn K cd19 "read_column" = true) (k19 : PySem.W.keepIn K (.ref f19) = true)
    (a20 : PySem.W.nsIn K mainGlobals "read_new_name" = some (some (.ref f20))) (l20 : K.lookup f20 = some ⟨oc20, od20, .func (PySem.W.fnOf "read_new_name" "read_new_name" (defArgs s_read_new_name) (defBody s_read_new_name) (defScope s_read_new_name) .none kV20 dc20 pm20 an20 cd20 ct20), sl20⟩) (c20 : PySem.W.codeIn K cd20 "read_new_name" = true) (k20 : PySem.W.keepIn K (.ref f20) = true)
    (a21 : PySem.W.nsIn K mainGlobals "read_mapped" = some (some (.ref f21))) (l21 : K.lookup f21 = some ⟨oc21, od21, .func (PySem.W.fnOf "read_mapped" "read_mapped" (defArgs s_read_mapped) (defBody s_read_mapped) (defScope s_read_mapped) .none kV21 dc21 pm21 an21 cd21 ct21), sl21⟩) (c21 : PySem.W.codeIn K cd21 "read_mapped" = true) (k21 : PySem.W.keepIn K (.ref f21) = true)
    (a22 : PySem.W.nsIn K mainGlobals "read_folded" = some (some (.ref f22))) (l22 : K.lookup f22 = some ⟨oc22, od22, .func (PySem.W.fnOf "read_folded" "read_folded" (defArgs s_read_folded) (defBody s_read_folded) (defScope s_read_folded) .none kV22 dc22 pm22 an22 cd22 ct22), sl22⟩) (c22 : PySem.W.codeIn K cd22 "read_folded" = true) (k22 : PySem.W.keepIn K (.ref f22) = true)
    (a23 : PySem.W.nsIn K mainGlobals "read_sorted" = some (some (.ref f23))) (l23 : K.lookup f23 = some ⟨oc23, od23, .func (PySem.W.fnOf "read_sorted" "read_sorted" (defArgs s_read_sorted) (defBody s_read_sorted) (defScope s_read_sorted) .none kV23 dc23 pm23 an23 cd23 ct23), sl23⟩) (c23 : PySem.W.codeIn K cd23 "read_sorted" = true) (k23 : PySem.W.keepIn K (.ref f23) = true)
    (a24 : PySem.W.nsIn K mainGlobals "read_one_input" = some (some (.ref f24))) (l24 : K.lookup f24 = some ⟨oc24, od24, .func (PySem.W.fnOf "read_one_input" "read_one_input" (defArgs s_read_one_input) (defBody s_read_one_input) (defScope s_read_one_input) .none kV24 dc24 pm24 an24 cd24 ct24), sl24⟩) (c24 : PySem.W.codeIn K cd24 "read_one_input" = true) (k24 : PySem.W.keepIn K (.ref f24) = true)
    (a25 : PySem.W.nsIn K mainGlobals "read_two_inputs" = some (some (.ref f25))) (l25 : K.lookup f25 = some ⟨oc25, od25, .func (PySem.W.fnOf "read_two_inputs" "read_two_inputs" (defArgs s_read_two_inputs) (defBody s_read_two_inputs) (defScope s_read_two_inputs) .none kV25 dc25 pm25 an25 cd25 ct25), sl25⟩) (c25 : PySem.W.codeIn K cd25 "read_two_inputs" = true) (k25 : PySem.W.keepIn K (.ref f25) = true)
    (a26 : PySem.W.nsIn K mainGlobals "read_filter" = some (some (.ref f26))) (l26 : K.lookup f26 = some ⟨oc26, od26, .func (PySem.W.fnOf "read_filter" "read_filter" (defArgs s_read_filter) (defBody s_read_filter) (defScope s_read_filter) .none kV26 dc26 pm26 an26 cd26 ct26), sl26⟩) (c26 : PySem.W.codeIn K cd26 "read_filter" = true) (k26 : PySem.W.keepIn K (.ref f26) = true)
    (a27 : PySem.W.nsIn K mainGlobals "read_map" = some (some (.ref f27))) (l27 : K.lookup f27 = some ⟨oc27, od27, .func (PySem.W.fnOf "read_map" "read_map" (defArgs s_read_map) (defBody s_read_map) (defScope s_read_map) .none kV27 dc27 pm27 an27 cd27 ct27), sl27⟩) (c27 : PySem.W.codeIn K cd27 "read_map" = true) (k27 : PySem.W.keepIn K (.ref f27) = true)
    (a28 : PySem.W.nsIn K mainGlobals "read_fold" = some (some (.ref f28))) (l28 : K.lookup f28 = some ⟨oc28, od28, .func (PySem.W.fnOf "read_fold" "read_fold" (defArgs s_read_fold) (defBody s_read_fold) (defScope s_read_fold) .none kV28 dc28 pm28 an28 cd28 ct28), sl28⟩) (c28 : PySem.W.codeIn K cd28 "read_fold" = true) (k28 : PySem.W.keepIn K (.ref f28) = true)
    (a29 : PySem.W.nsIn K mainGlobals "read_join" = some (some (.ref f29))) (l29 : K.lookup f29 = some ⟨oc29, od29, .func (PySem.W.fnOf "read_join" "read_join" (defArgs s_read_join) (defBody s_read_join) (defScope s_read_join) .none kV29 dc29 pm29 an29 cd29 ct29), sl29⟩) (c29 : PySem.W.codeIn K cd29 "read_join" = true) (k29 : PySem.W.keepIn K (.ref f29) = true)
    (a30 : PySem.W.nsIn K mainGlobals "read_union" = some (some (.ref f30))) (l30 : K.lookup f30 = some ⟨oc30, od30, .func (PySem.W.fnOf "read_union" "read_union" (defArgs s_read_union) (defBody s_read_union) (defScope s_read_union) .none kV30 dc30 pm30 an30 cd30 ct30), sl30⟩) (c30 : PySem.W.codeIn K cd30 "read_union" = true) (k30 : PySem.W.keepIn K (.ref f30) = true)
    (a31 : PySem.W.nsIn K mainGlobals "read_unlike" = some (some (.ref f31))) (l31 : K.lookup f31 = some ⟨oc31, od31, .func (PySem.W.fnOf "read_unlike" "read_unlike" (defArgs s_read_unlike) (defBody s_read_unlike) (defScope s_read_unlike) .none kV31 dc31 pm31 an31 cd31 ct31), sl31⟩) (c31 : PySem.W.codeIn K cd31 "read_unlike" = true) (k31 : PySem.W.keepIn K (.ref f31) = true)
    (a32 : PySem.W.nsIn K mainGlobals "read_sort" = some (some (.ref f32))) (l32 : K.lookup f32 = some ⟨oc32, od32, .func (PySem.W.fnOf "read_sort" "read_sort" (defArgs s_read_sort) (defBody s_read_sort) (defScope s_read_sort) .none kV32 dc32 pm32 an32 cd32 ct32), sl32⟩) (c32 : PySem.W.codeIn K cd32 "read_sort" = true) (k32 : PySem.W.keepIn K (.ref f32) = true)
    (a33 : PySem.W.nsIn K mainGlobals "read_table_head" = some (some (.ref f33))) (l33 : K.lookup f33 = some ⟨oc33, od33, .func (PySem.W.fnOf "read_table_head" "read_table_head" (defArgs s_read_table_head) (defBody s_read_table_head) (defScope s_read_table_head) .none kV33 dc33 pm33 an33 cd33 ct33), sl33⟩) (c33 : PySem.W.codeIn K cd33 "read_table_head" = true) (k33 : PySem.W.keepIn K (.ref f33) = true)
    (a34 : PySem.W.nsIn K mainGlobals "read_step" = some (some (.ref f34))) (l34 : K.lookup f34 = some ⟨oc34, od34, .func (PySem.W.fnOf "read_step" "read_step" (defArgs s_read_step) (defBody s_read_step) (defScope s_read_step) .none kV34 dc34 pm34 an34 cd34 ct34), sl34⟩) (c34 : PySem.W.codeIn K cd34 "read_step" = true) (k34 : PySem.W.keepIn K (.ref f34) = true)
    (a35 : PySem.W.nsIn K mainGlobals "read_job" = some (some (.ref f35))) (l35 : K.lookup f35 = some ⟨oc35, od35, .func (PySem.W.fnOf "read_job" "read_job" (defArgs s_read_job) (defBody s_read_job) (defScope s_read_job) .none kV35 dc35 pm35 an35 cd35 ct35), sl35⟩) (c35 : PySem.W.codeIn K cd35 "read_job" = true) (k35 : PySem.W.keepIn K (.ref f35) = true)
    (a36 : PySem.W.nsIn K mainGlobals "_law_cell_at" = some (some (.ref f36))) (l36 : K.lookup f36 = some ⟨oc36, od36, .func (PySem.W.fnOf "_law_cell_at" "_law_cell_at" (defArgs Kj.sCell) (defBody Kj.sCell) (defScope Kj.sCell) .none kV36 dc36 pm36 an36 cd36 ct36), sl36⟩) (c36 : PySem.W.codeIn K cd36 "_law_cell_at" = true) (k36 : PySem.W.keepIn K (.ref f36) = true)
    (a37 : PySem.W.nsIn K mainGlobals "_law_draw" = some (some (.ref f37))) (l37 : K.lookup f37 = some ⟨oc37, od37, .func (PySem.W.fnOf "_law_draw" "_law_draw" (defArgs Kj.sDraw) (defBody Kj.sDraw) (defScope Kj.sDraw) .none kV37 dc37 pm37 an37 cd37 ct37), sl37⟩) (c37 : PySem.W.codeIn K cd37 "_law_draw" = true) (k37 : PySem.W.keepIn K (.ref f37) = true)
    (a38 : PySem.W.nsIn K mainGlobals "_law_number" = some (some (.ref f38))) (l38 : K.lookup f38 = some ⟨oc38, od38, .func (PySem.W.fnOf "_law_number" "_law_number" (defArgs Kj.sNumb) (defBody Kj.sNumb) (defScope Kj.sNumb) .none kV38 dc38 pm38 an38 cd38 ct38), sl38⟩) (c38 : PySem.W.codeIn K cd38 "_law_number" = true) (k38 : PySem.W.keepIn K (.ref f38) = true)
    (a39 : PySem.W.nsIn K mainGlobals "_law_next" = some (some (.ref f39))) (l39 : K.lookup f39 = some ⟨oc39, od39, .func (PySem.W.fnOf "_law_next" "_law_next" (defArgs Kj.sNext) (defBody Kj.sNext) (defScope Kj.sNext) .none kV39 dc39 pm39 an39 cd39 ct39), sl39⟩) (c39 : PySem.W.codeIn K cd39 "_law_next" = true) (k39 : PySem.W.keepIn K (.ref f39) = true)
    (a40 : PySem.W.nsIn K mainGlobals "_law_pick" = some (some (.ref f40))) (l40 : K.lookup f40 = some ⟨oc40, od40, .func (PySem.W.fnOf "_law_pick" "_law_pick" (defArgs Kj.sPick) (defBody Kj.sPick) (defScope Kj.sPick) .none kV40 dc40 pm40 an40 cd40 ct40), sl40⟩) (c40 : PySem.W.codeIn K cd40 "_law_pick" = true) (k40 : PySem.W.keepIn K (.ref f40) = true)
    (a41 : PySem.W.nsIn K mainGlobals "_law_int" = some (some (.ref f41))) (l41 : K.lookup f41 = some ⟨oc41, od41, .func (PySem.W.fnOf "_law_int" "_law_int" (defArgs Kj.sInt) (defBody Kj.sInt) (defScope Kj.sInt) .none kV41 dc41 pm41 an41 cd41 ct41), sl41⟩) (c41 : PySem.W.codeIn K cd41 "_law_int" = true) (k41 : PySem.W.keepIn K (.ref f41) = true)
    (a42 : PySem.W.nsIn K mainGlobals "_law_map" = some (some (.ref f42))) (l42 : K.lookup f42 = some ⟨oc42, od42, .func (PySem.W.fnOf "_law_map" "_law_map" (defArgs Kj.s_law_map) (defBody Kj.s_law_map) (defScope Kj.s_law_map) .none kV42 dc42 pm42 an42 cd42 ct42), sl42⟩) (c42 : PySem.W.codeIn K cd42 "_law_map" = true) (k42 : PySem.W.keepIn K (.ref f42) = true)
    (a43 : PySem.W.nsIn K mainGlobals "_law_fold" = some (some (.ref f43))) (l43 : K.lookup f43 = some ⟨oc43, od43, .func (PySem.W.fnOf "_law_fold" "_law_fold" (defArgs Kj.s_law_fold) (defBody Kj.s_law_fold) (defScope Kj.s_law_fold) .none kV43 dc43 pm43 an43 cd43 ct43), sl43⟩) (c43 : PySem.W.codeIn K cd43 "_law_fold" = true) (k43 : PySem.W.keepIn K (.ref f43) = true)
    (a44 : PySem.W.nsIn K mainGlobals "_law_join" = some (some (.ref f44))) (l44 : K.lookup f44 = some ⟨oc44, od44, .func (PySem.W.fnOf "_law_join" "_law_join" (defArgs Kj.s_law_join) (defBody Kj.s_law_join) (defScope Kj.s_law_join) .none kV44 dc44 pm44 an44 cd44 ct44), sl44⟩) (c44 : PySem.W.codeIn K cd44 "_law_join" = true) (k44 : PySem.W.keepIn K (.ref f44) = true)
    (a45 : PySem.W.nsIn K mainGlobals "_law_most" = some (some (.ref f45))) (l45 : K.lookup f45 = some ⟨oc45, od45, .func (PySem.W.fnOf "_law_most" "_law_most" (defArgs Kj.s_law_most) (defBody Kj.s_law_most) (defScope Kj.s_law_most) .none kV45 dc45 pm45 an45 cd45 ct45), sl45⟩) (c45 : PySem.W.codeIn K cd45 "_law_most" = true) (k45 : PySem.W.keepIn K (.ref f45) = true)
    (a46 : PySem.W.nsIn K mainGlobals "_law_step" = some (some (.ref f46))) (l46 : K.lookup f46 = some ⟨oc46, od46, .func (PySem.W.fnOf "_law_step" "_law_step" (defArgs Kj.s_law_step) (defBody Kj.s_law_step) (defScope Kj.s_law_step) .none kV46 dc46 pm46 an46 cd46 ct46), sl46⟩) (c46 : PySem.W.codeIn K cd46 "_law_step" = true) (k46 : PySem.W.keepIn K (.ref f46) = true)
    (a47 : PySem.W.nsIn K mainGlobals "_law_job" = some (some (.ref f47))) (l47 : K.lookup f47 = some ⟨oc47, od47, .func (PySem.W.fnOf "_law_job" "_law_job" (defArgs Kj.s_law_job) (defBody Kj.s_law_job) (defScope Kj.s_law_job) .none kV47 dc47 pm47 an47 cd47 ct47), sl47⟩) (c47 : PySem.W.codeIn K cd47 "_law_job" = true) (k47 : PySem.W.keepIn K (.ref f47) = true)
    (a48 : PySem.W.nsIn K mainGlobals "_law_gap" = some (some (.ref f48))) (l48 : K.lookup f48 = some ⟨oc48, od48, .func (PySem.W.fnOf "_law_gap" "_law_gap" (defArgs Kj.s_law_gap) (defBody Kj.s_law_gap) (defScope Kj.s_law_gap) .none kV48 dc48 pm48 an48 cd48 ct48), sl48⟩) (c48 : PySem.W.codeIn K cd48 "_law_gap" = true) (k48 : PySem.W.keepIn K (.ref f48) = true)
    (a49 : PySem.W.nsIn K mainGlobals "_law_told" = some (some (.ref f49))) (l49 : K.lookup f49 = some ⟨oc49, od49, .func (PySem.W.fnOf "_law_told" "_law_told" (defArgs Kj.s_law_told) (defBody Kj.s_law_told) (defScope Kj.s_law_told) .none kV49 dc49 pm49 an49 cd49 ct49), sl49⟩) (c49 : PySem.W.codeIn K cd49 "_law_told" = true) (k49 : PySem.W.keepIn K (.ref f49) = true)
    (a50 : PySem.W.nsIn K mainGlobals "_law_level" = some (some (.ref f50))) (l50 : K.lookup f50 = some ⟨oc50, od50, .func (PySem.W.fnOf "_law_level" "_law_level" (defArgs Kj.s_law_level) (defBody Kj.s_law_level) (defScope Kj.s_law_level) .none kV50 dc50 pm50 an50 cd50 ct50), sl50⟩) (c50 : PySem.W.codeIn K cd50 "_law_level" = true) (k50 : PySem.W.keepIn K (.ref f50) = true)
    (a51 : PySem.W.nsIn K mainGlobals "_law_plain" = some (some (.ref f51))) (l51 : K.lookup f51 = some ⟨oc51, od51, .func (PySem.W.fnOf "_law_plain" "_law_plain" (defArgs Kj.s_law_plain) (defBody Kj.s_law_plain) (defScope Kj.s_law_plain) .none kV51 dc51 pm51 an51 cd51 ct51), sl51⟩) (c51 : PySem.W.codeIn K cd51 "_law_plain" = true) (k51 : PySem.W.keepIn K (.ref f51) = true)
    (a52 : PySem.W.nsIn K mainGlobals "_law_flat" = some (some (.ref f52))) (l52 : K.lookup f52 = some ⟨oc52, od52, .func (PySem.W.fnOf "_law_flat" "_law_flat" (defArgs Kj.s_law_flat) (defBody Kj.s_law_flat) (defScope Kj.s_law_flat) .none kV52 dc52 pm52 an52 cd52 ct52), sl52⟩) (c52 : PySem.W.codeIn K cd52 "_law_flat" = true) (k52 : PySem.W.keepIn K (.ref f52) = true)
    (a53 : PySem.W.nsIn K mainGlobals "_law_details" = some (some (.ref f53))) (l53 : K.lookup f53 = some ⟨oc53, od53, .func (PySem.W.fnOf "_law_details" "_law_details" (defArgs Kj.s_law_details) (defBody Kj.s_law_details) (defScope Kj.s_law_details) .none kV53 dc53 pm53 an53 cd53 ct53), sl53⟩) (c53 : PySem.W.codeIn K cd53 "_law_details" = true) (k53 : PySem.W.keepIn K (.ref f53) = true)
    (a54 : PySem.W.nsIn K mainGlobals "_law_lines" = some (some (.ref f54))) (l54 : K.lookup f54 = some ⟨oc54, od54, .func (PySem.W.fnOf "_law_lines" "_law_lines" (defArgs Kj.s_law_lines) (defBody Kj.s_law_lines) (defScope Kj.s_law_lines) .none kV54 dc54 pm54 an54 cd54 ct54), sl54⟩) (c54 : PySem.W.codeIn K cd54 "_law_lines" = true) (k54 : PySem.W.keepIn K (.ref f54) = true)
    (a55 : PySem.W.nsIn K mainGlobals "law" = some (some (.ref f55))) (l55 : K.lookup f55 = some ⟨oc55, od55, .func (PySem.W.fnOf "law" "law" (defArgs sLaw) (defBody sLaw) (defScope sLaw) .none kV55 dc55 pm55 an55 cd55 ct55), sl55⟩) (c55 : PySem.W.codeIn K cd55 "law" = true) (k55 : PySem.W.keepIn K (.ref f55) = true)
    (z1 : PySem.W.nsIn K mainGlobals "len" = some none)
    (z2 : PySem.W.nsIn K mainGlobals "int" = some none)
    (z3 : PySem.W.nsIn K mainGlobals "sum" = some none)
    (z4 : PySem.W.nsIn K mainGlobals "all" = some none)
    (z5 : PySem.W.nsIn K mainGlobals "range" = some none)
    (z6 : PySem.W.nsIn K mainGlobals "str" = some none)
    (z7 : PySem.W.nsIn K mainGlobals "list" = some none)
    (z8 : PySem.W.nsIn K mainGlobals "tuple" = some none)
    (z9 : PySem.W.nsIn K mainGlobals "isinstance" = some none)
    (z10 : PySem.W.nsIn K mainGlobals "enumerate" = some none)
    (z11 : PySem.W.nsIn K mainGlobals "min" = some none)
    (z12 : PySem.W.nsIn K mainGlobals "set" = some none)
    (z13 : PySem.W.nsIn K mainGlobals "sorted" = some none)
    (g1 : PySem.W.nsIn K mainGlobals "WHOLE" = some (some (.int (1) u1)))
    (g2 : PySem.W.nsIn K mainGlobals "NOT" = some (some (.int (3) u2)))
    (g3 : PySem.W.nsIn K mainGlobals "COMPARISON" = some (some (.int (4) u3)))
    (g4 : PySem.W.nsIn K mainGlobals "MINUS" = some (some (.int (7) u4)))
    (g5 : PySem.W.nsIn K mainGlobals "MOST_IN_ONE" = some (some (.int (80) u5)))
    (g6 : PySem.W.nsIn K mainGlobals "MOST_WITHIN" = some (some (.int (40) u6)))
    (g7 : PySem.W.nsIn K mainGlobals "MOST_OPEN" = some (some (.int (100) u7)))
    (g8 : PySem.W.nsIn K mainGlobals "MOST_PIECES" = some (some (.int (300) u8)))
    (g9 : PySem.W.nsIn K mainGlobals "MOST_FIGURES" = some (some (.int (18) u9)))
    (aL : PySem.W.nsIn K mainGlobals "Line" = some (some (.ref CL)))
    (ma1 : PySem.W.findIn K (.ref CL) "__init__" = some (some (.ref mf1))) (mi1 : PySem.W.isFn K (.ref mf1) = true) (ml1 : K.lookup mf1 = some ⟨moc1, mod1, .func (PySem.W.fnOf "__init__" "Line.__init__" (defArgs m_Line_init) (defBody m_Line_init) (defScope m_Line_init) .none mkV1 mdc1 mpm1 man1 mcd1 mct1), msl1⟩) (mc1 : PySem.W.codeIn K mcd1 "Line.__init__" = true) (mk1 : PySem.W.keepIn K (.ref mf1) = true)
    (ma2 : PySem.W.findIn K (.ref CL) "fail" = some (some (.ref mf2))) (mi2 : PySem.W.isFn K (.ref mf2) = true) (ml2 : K.lookup mf2 = some ⟨moc2, mod2, .func (PySem.W.fnOf "fail" "Line.fail" (defArgs m_Line_fail) (defBody m_Line_fail) (defScope m_Line_fail) .none mkV2 mdc2 mpm2 man2 mcd2 mct2), msl2⟩) (mc2 : PySem.W.codeIn K mcd2 "Line.fail" = true) (mk2 : PySem.W.keepIn K (.ref mf2) = true)
    (ma3 : PySem.W.findIn K (.ref CL) "is_kind" = some (some (.ref mf3))) (mi3 : PySem.W.isFn K (.ref mf3) = true) (ml3 : K.lookup mf3 = some ⟨moc3, mod3, .func (PySem.W.fnOf "is_kind" "Line.is_kind" (defArgs m_Line_is_kind) (defBody m_Line_is_kind) (defScope m_Line_is_kind) .none mkV3 mdc3 mpm3 man3 mcd3 mct3), msl3⟩) (mc3 : PySem.W.codeIn K mcd3 "Line.is_kind" = true) (mk3 : PySem.W.keepIn K (.ref mf3) = true)
    (ma4 : PySem.W.findIn K (.ref CL) "own_word" = some (some (.ref mf4))) (mi4 : PySem.W.isFn K (.ref mf4) = true) (ml4 : K.lookup mf4 = some ⟨moc4, mod4, .func (PySem.W.fnOf "own_word" "Line.own_word" (defArgs m_Line_own_word) (defBody m_Line_own_word) (defScope m_Line_own_word) .none mkV4 mdc4 mpm4 man4 mcd4 mct4), msl4⟩) (mc4 : PySem.W.codeIn K mcd4 "Line.own_word" = true) (mk4 : PySem.W.keepIn K (.ref mf4) = true)
    (ma5 : PySem.W.findIn K (.ref CL) "take" = some (some (.ref mf5))) (mi5 : PySem.W.isFn K (.ref mf5) = true) (ml5 : K.lookup mf5 = some ⟨moc5, mod5, .func (PySem.W.fnOf "take" "Line.take" (defArgs m_Line_take) (defBody m_Line_take) (defScope m_Line_take) .none mkV5 mdc5 mpm5 man5 mcd5 mct5), msl5⟩) (mc5 : PySem.W.codeIn K mcd5 "Line.take" = true) (mk5 : PySem.W.keepIn K (.ref mf5) = true)
    (ma6 : PySem.W.findIn K (.ref CL) "take_one_of" = some (some (.ref mf6))) (mi6 : PySem.W.isFn K (.ref mf6) = true) (ml6 : K.lookup mf6 = some ⟨moc6, mod6, .func (PySem.W.fnOf "take_one_of" "Line.take_one_of" (defArgs m_Line_take_one_of) (defBody m_Line_take_one_of) (defScope m_Line_take_one_of) .none mkV6 mdc6 mpm6 man6 mcd6 mct6), msl6⟩) (mc6 : PySem.W.codeIn K mcd6 "Line.take_one_of" = true) (mk6 : PySem.W.keepIn K (.ref mf6) = true)
    (ma7 : PySem.W.findIn K (.ref CL) "took" = some (some (.ref mf7))) (mi7 : PySem.W.isFn K (.ref mf7) = true) (ml7 : K.lookup mf7 = some ⟨moc7, mod7, .func (PySem.W.fnOf "took" "Line.took" (defArgs m_Line_took) (defBody m_Line_took) (defScope m_Line_took) .none mkV7 mdc7 mpm7 man7 mcd7 mct7), msl7⟩) (mc7 : PySem.W.codeIn K mcd7 "Line.took" = true) (mk7 : PySem.W.keepIn K (.ref mf7) = true)
    (ma8 : PySem.W.findIn K (.ref CL) "expect" = some (some (.ref mf8))) (mi8 : PySem.W.isFn K (.ref mf8) = true) (ml8 : K.lookup mf8 = some ⟨moc8, mod8, .func (PySem.W.fnOf "expect" "Line.expect" (defArgs m_Line_expect) (defBody m_Line_expect) (defScope m_Line_expect) .none mkV8 mdc8 mpm8 man8 mcd8 mct8), msl8⟩) (mc8 : PySem.W.codeIn K mcd8 "Line.expect" = true) (mk8 : PySem.W.keepIn K (.ref mf8) = true)
    (ma9 : PySem.W.findIn K (.ref CL) "expect_end" = some (some (.ref mf9))) (mi9 : PySem.W.isFn K (.ref mf9) = true) (ml9 : K.lookup mf9 = some ⟨moc9, mod9, .func (PySem.W.fnOf "expect_end" "Line.expect_end" (defArgs m_Line_expect_end) (defBody m_Line_expect_end) (defScope m_Line_expect_end) .none mkV9 mdc9 mpm9 man9 mcd9 mct9), msl9⟩) (mc9 : PySem.W.codeIn K mcd9 "Line.expect_end" = true) (mk9 : PySem.W.keepIn K (.ref mf9) = true)
    (aC : PySem.W.nsIn K mainGlobals "BadText" = some (some (.ref C)))
    (xL : K.lookup C = some (excClassObj nm qn C N bs [.ref BE, .type "Exception", .type "BaseException", .type "object"] true sn sub ab col dd n0 n1 n2 n3 n5 "Exception.__new__"))
    (sa : PySem.W.findIn K (.ref C) "__setattr__" = some (some (.builtin "object.__setattr__"))) (gat : PySem.W.findIn K (.ref C) "__getattribute__" = some (some (.builtin "BaseException.__getattribute__"))) (gg : PySem.W.findIn K (.ref C) "__getattr__" = some none) (nb : PySem.W.findIn K (.ref C) "line" = some none) (nw : PySem.W.findIn K (.ref C) "column" = some none)
    (ai : PySem.W.findIn K (.ref C) "__init__" = some (some (.ref fI))) (ti : PySem.W.typeIn K (.ref fI) = some (.type "function"))
    (li : K.lookup fI = some ⟨ocI, odI, .func (PySem.W.fnOf "__init__" "BadText.__init__" (PySem.BadY.iA ⟨6, 17, 6, 21⟩ ⟨6, 23, 6, 27⟩ ⟨6, 29, 6, 35⟩) (PySem.BadY.iB ⟨7, 8, 7, 12⟩ ⟨7, 8, 7, 17⟩ ⟨7, 20, 7, 24⟩ ⟨7, 8, 7, 24⟩ ⟨8, 8, 8, 12⟩ ⟨8, 8, 8, 19⟩ ⟨8, 22, 8, 28⟩ ⟨8, 8, 8, 28⟩) PySem.BadY.iS .none .none dcI pmI anI cdI ctI), slI⟩) (ci : PySem.W.codeIn K cdI "BadText.__init__" = true)
    (kC : PySem.W.keepIn K (.ref C) = true) (eC : PySem.W.subIn K (.ref C) (.type "BaseException") = some true) (tyC : PySem.W.typeIn K (.ref C) = some (.type "type")) (hC : PySem.W.hasDictIn K C = true) (iC : PySem.W.isClsIn K C = true) (sC : PySem.W.subIn K (.ref C) (.ref C) = some true)
    (gD : PySem.W.nsIn K mainGlobals "LEVELS" = some (some (.ref dl))) (lD : K.lookup dl = some ⟨.type "dict", none, .dict es nn, #[]⟩) (o1 : PySem.W.nsIn K dl "or" = some (some (.int 1 w1))) (o2 : PySem.W.nsIn K dl "and" = some (some (.int 2 w2))) (o3 : PySem.W.nsIn K dl "=" = some (some (.int 4 w3))) (o4 : PySem.W.nsIn K dl "!=" = some (some (.int 4 w4))) (o5 : PySem.W.nsIn K dl "<" = some (some (.int 4 w5))) (o6 : PySem.W.nsIn K dl "<=" = some (some (.int 4 w6))) (o7 : PySem.W.nsIn K dl ">" = some (some (.int 4 w7))) (o8 : PySem.W.nsIn K dl ">=" = some (some (.int 4 w8))) (o9 : PySem.W.nsIn K dl "+" = some (some (.int 5 w9))) (o10 : PySem.W.nsIn K dl "-" = some (some (.int 5 w10))) (o11 : PySem.W.nsIn K dl "*" = some (some (.int 6 w11))) (o12 : PySem.W.nsIn K dl "/" = some (some (.int 6 w12))) (o13 : PySem.W.nsIn K dl "mod" = some (some (.int 6 w13))) (x1 : PySem.W.nsIn K dl "" = some none) (x2 : PySem.W.nsIn K dl "read" = some none) (x3 : PySem.W.nsIn K dl "filter" = some none) (x4 : PySem.W.nsIn K dl "where" = some none) (x5 : PySem.W.nsIn K dl "map" = some none) (x6 : PySem.W.nsIn K dl "to" = some none) (x7 : PySem.W.nsIn K dl "as" = some none) (x8 : PySem.W.nsIn K dl "fold" = some none) (x9 : PySem.W.nsIn K dl "by" = some none) (x10 : PySem.W.nsIn K dl "join" = some none) (x11 : PySem.W.nsIn K dl "union" = some none) (x12 : PySem.W.nsIn K dl "unlike" = some none) (x13 : PySem.W.nsIn K dl "sort" = some none) (x14 : PySem.W.nsIn K dl "first" = some none) (x15 : PySem.W.nsIn K dl "up" = some none) (x16 : PySem.W.nsIn K dl "down" = some none) (x17 : PySem.W.nsIn K dl "answer" = some none) (x18 : PySem.W.nsIn K dl "not" = some none) (x19 : PySem.W.nsIn K dl "length" = some none) (x20 : PySem.W.nsIn K dl "int" = some none) (x21 : PySem.W.nsIn K dl "text" = some none) (x22 : PySem.W.nsIn K dl "count" = some none) (x23 : PySem.W.nsIn K dl "sum" = some none) (x24 : PySem.W.nsIn K dl "least" = some none) (x25 : PySem.W.nsIn K dl "greatest" = some none) (x26 : PySem.W.nsIn K dl "mean" = some none) (x27 : PySem.W.nsIn K dl "(" = some none) (x28 : PySem.W.nsIn K dl ")" = some none) (x29 : PySem.W.nsIn K dl "," = some none) (x30 : PySem.W.nsIn K dl ":" = some none) (gK : PySem.W.KeysLit w.params es.toList) (lw : (dl == sysModules) = false)
    (gO : PySem.W.nsIn K mainGlobals "OWN_WORDS" = some (some (.ref aO))) (lO : K.lookup aO = some ⟨.type "tuple", odO, .seq itsO nO, slO⟩) (vO : Vals (owns.map V.str) itsO.toList)
    (gG : PySem.W.nsIn K mainGlobals "LONG_SIGNS" = some (some (.ref aG))) (lG : K.lookup aG = some ⟨.type "tuple", odG, .seq itsG nG, slG⟩) (vG : Vals (longs.map V.str) itsG.toList)
    (gS : PySem.W.nsIn K mainGlobals "SHORT_SIGNS" = some (some (.str "(),=<>+-*/:" tS)))
    (gR : PySem.W.nsIn K mainGlobals "READERS" = some (some (.ref dR))) (lR : K.lookup dR = some ⟨.type "dict", none, .dict esR nR, #[]⟩) (p1 : PySem.W.nsIn K dR "filter" = some (some (.ref f26))) (p2 : PySem.W.nsIn K dR "map" = some (some (.ref f27))) (p3 : PySem.W.nsIn K dR "fold" = some (some (.ref f28))) (p4 : PySem.W.nsIn K dR "join" = some (some (.ref f29))) (p5 : PySem.W.nsIn K dR "union" = some (some (.ref f30))) (p6 : PySem.W.nsIn K dR "unlike" = some (some (.ref f31))) (p7 : PySem.W.nsIn K dR "sort" = some (some (.ref f32))) (gKR : PySem.W.KeysLit w.params esR.toList) (hR : esR.toList.map He.keyOf = He.keysIn w.params seven) (lwR : (dR == sysModules) = false)
    (pgL : PySem.W.plainGet K CL Str.empty = true) (hdL : PySem.W.hasDictIn K CL = true) (poL : PySem.W.plainOver K CL = true) (saL : PySem.W.findIn K (.ref CL) "__setattr__" = some (some (.builtin "object.__setattr__"))) (mkL : PySem.W.makesIn K CL = true) (kcL : PySem.W.keepIn K (.ref CL) = true)
    (y1 : PySem.W.findIn K (.ref CL) "number" = some none) (y2 : PySem.W.findIn K (.ref CL) "pieces" = some none) (y3 : PySem.W.findIn K (.ref CL) "place" = some none) :
    ∃ fd : FuncData, (∀ (s : Shared) (v : Value), BindsTo s fd ⟨[v], []⟩ [("script", v)]) ∧ ∀ base : Heap, K.In base → base.Ns mainGlobals mg → FnOk l.prog w K mg base CX0 212 fa fd ["script"] (spLaw K) := by
  have e := hfa.symm.trans (PySem.W.mg_of X G a55)
  cases e
  have F1 := fun_mk (st := s_parts_of) l1 c1 k1
  have b1 := F1.binds (ps := ["told"]) fun _ _ _ _ _ _ us hl => match us, hl with | [_], _ => rfl
  have m1 := PySem.W.mg_of X G a1
  have F2 := fun_mk (st := s_rows_of_parts) l2 c2 k2
  have b2 := F2.binds (ps := ["told"]) fun _ _ _ _ _ _ us hl => match us, hl with | [_], _ => rfl
  have m2 := PySem.W.mg_of X G a2
  have F3 := fun_mk (st := s_how_many) l3 c3 k3
  have b3 := F3.binds (ps := ["told"]) fun _ _ _ _ _ _ us hl => match us, hl with | [_], _ => rfl
  have m3 := PySem.W.mg_of X G a3
  have F4 := fun_mk (st := s_how_deep) l4 c4 k4
  have b4 := F4.binds (ps := ["told"]) fun _ _ _ _ _ _ us hl => match us, hl with | [_], _ => rfl
  have m4 := PySem.W.mg_of X G a4
  have F5 := fun_mk (st := s_is_large) l5 c5 k5
  have b5 := F5.binds (ps := ["told"]) fun _ _ _ _ _ _ us hl => match us, hl with | [_], _ => rfl
  have m5 := PySem.W.mg_of X G a5
  have F6 := fun_mk (st := s_next_level) l6 c6 k6
  have b6 := F6.binds (ps := ["line"]) fun _ _ _ _ _ _ us hl => match us, hl with | [_], _ => rfl
  have m6 := PySem.W.mg_of X G a6
  have F7 := fun_mk (st := s_read_operand) l7 c7 k7
  have b7 := F7.binds (ps := ["line", "level", "many"]) fun _ _ _ _ _ _ us hl => match us, hl with | [_, _, _], _ => rfl
  have m7 := PySem.W.mg_of X G a7
  have F8 := fun_mk (st := s_read_part) l8 c8 k8
  have b8 := F8.binds (ps := ["line", "level", "many"]) fun _ _ _ _ _ _ us hl => match us, hl with | [_, _, _], _ => rfl
  have m8 := PySem.W.mg_of X G a8
  have F9 := fun_mk (st := s_read_expression) l9 c9 k9
  have b9 := F9.binds (ps := ["line"]) fun _ _ _ _ _ _ us hl => match us, hl with | [_], _ => rfl
  have m9 := PySem.W.mg_of X G a9
  have F10 := fun_mk (st := s_is_figure) l10 c10 k10
  have b10 := F10.binds (ps := ["sign"]) fun _ _ _ _ _ _ us hl => match us, hl with | [_], _ => rfl
  have m10 := PySem.W.mg_of X G a10
  have F11 := fun_mk (st := s_is_letter) l11 c11 k11
  have b11 := F11.binds (ps := ["sign"]) fun _ _ _ _ _ _ us hl => match us, hl with | [_], _ => rfl
  have m11 := PySem.W.mg_of X G a11
  have F12 := fun_mk (st := s_run_end) l12 c12 k12
  have b12 := F12.binds (ps := ["text", "at"]) fun _ _ _ _ _ _ us hl => match us, hl with | [_, _], _ => rfl
  have m12 := PySem.W.mg_of X G a12
  have F13 := fun_mk (st := s_is_number) l13 c13 k13
  have b13 := F13.binds (ps := ["run"]) fun _ _ _ _ _ _ us hl => match us, hl with | [_], _ => rfl
  have m13 := PySem.W.mg_of X G a13
  have F14 := fun_mk (st := s_piece_at) l14 c14 k14
  have b14 := F14.binds (ps := ["text", "at"]) fun _ _ _ _ _ _ us hl => match us, hl with | [_, _], _ => rfl
  have m14 := PySem.W.mg_of X G a14
  have F15 := fun_mk (st := s_is_bracket) l15 c15 k15
  have b15 := F15.binds (ps := ["piece"]) fun _ _ _ _ _ _ us hl => match us, hl with | [_], _ => rfl
  have m15 := PySem.W.mg_of X G a15
  have F16 := fun_mk (st := s_pieces_of) l16 c16 k16
  have b16 := F16.binds (ps := ["text", "number"]) fun _ _ _ _ _ _ us hl => match us, hl with | [_, _], _ => rfl
  have m16 := PySem.W.mg_of X G a16
  have F17 := fun_mk (st := s_read_list) l17 c17 k17
  have b17 := F17.binds (ps := ["line", "read_one"]) fun _ _ _ _ _ _ us hl => match us, hl with | [_, _], _ => rfl
  have m17 := PySem.W.mg_of X G a17
  have F18 := fun_mk (st := s_read_name) l18 c18 k18
  have b18 := F18.binds (ps := ["line"]) fun _ _ _ _ _ _ us hl => match us, hl with | [_], _ => rfl
  have m18 := PySem.W.mg_of X G a18
  have F19 := fun_mk (st := s_read_column) l19 c19 k19
  have b19 := F19.binds (ps := ["line"]) fun _ _ _ _ _ _ us hl => match us, hl with | [_], _ => rfl
  have m19 := PySem.W.mg_of X G a19
  have F20 := fun_mk (st := s_read_new_name) l20 c20 k20
  have b20 := F20.binds (ps := ["line"]) fun _ _ _ _ _ _ us hl => match us, hl with | [_], _ => rfl
  have m20 := PySem.W.mg_of X G a20
  have F21 := fun_mk (st := s_read_mapped) l21 c21 k21
  have b21 := F21.binds (ps := ["line"]) fun _ _ _ _ _ _ us hl => match us, hl with | [_], _ => rfl
  have m21 := PySem.W.mg_of X G a21
  have F22 := fun_mk (st := s_read_folded) l22 c22 k22
  have b22 := F22.binds (ps := ["line"]) fun _ _ _ _ _ _ us hl => match us, hl with | [_], _ => rfl
  have m22 := PySem.W.mg_of X G a22
  have F23 := fun_mk (st := s_read_sorted) l23 c23 k23
  have b23 := F23.binds (ps := ["line"]) fun _ _ _ _ _ _ us hl => match us, hl with | [_], _ => rfl
  have m23 := PySem.W.mg_of X G a23
  have F24 := fun_mk (st := s_read_one_input) l24 c24 k24
  have b24 := F24.binds (ps := ["line"]) fun _ _ _ _ _ _ us hl => match us, hl with | [_], _ => rfl
  have m24 := PySem.W.mg_of X G a24
  have F25 := fun_mk (st := s_read_two_inputs) l25 c25 k25
  have b25 := F25.binds (ps := ["line"]) fun _ _ _ _ _ _ us hl => match us, hl with | [_], _ => rfl
  have m25 := PySem.W.mg_of X G a25
  have F26 := fun_mk (st := s_read_filter) l26 c26 k26
  have b26 := F26.binds (ps := ["line"]) fun _ _ _ _ _ _ us hl => match us, hl with | [_], _ => rfl
  have m26 := PySem.W.mg_of X G a26
  have F27 := fun_mk (st := s_read_map) l27 c27 k27
  have b27 := F27.binds (ps := ["line"]) fun _ _ _ _ _ _ us hl => match us, hl with | [_], _ => rfl
  have m27 := PySem.W.mg_of X G a27
  have F28 := fun_mk (st := s_read_fold) l28 c28 k28
  have b28 := F28.binds (ps := ["line"]) fun _ _ _ _ _ _ us hl => match us, hl with | [_], _ => rfl
  have m28 := PySem.W.mg_of X G a28
  have F29 := fun_mk (st := s_read_join) l29 c29 k29
  have b29 := F29.binds (ps := ["line"]) fun _ _ _ _ _ _ us hl => match us, hl with | [_], _ => rfl
  have m29 := PySem.W.mg_of X G a29
  have F30 := fun_mk (st := s_read_union) l30 c30 k30
  have b30 := F30.binds (ps := ["line"]) fun _ _ _ _ _ _ us hl => match us, hl with | [_], _ => rfl
  have m30 := PySem.W.mg_of X G a30
  have F31 := fun_mk (st := s_read_unlike) l31 c31 k31
  have b31 := F31.binds (ps := ["line"]) fun _ _ _ _ _ _ us hl => match us, hl with | [_], _ => rfl
  have m31 := PySem.W.mg_of X G a31
  have F32 := fun_mk (st := s_read_sort) l32 c32 k32
  have b32 := F32.binds (ps := ["line"]) fun _ _ _ _ _ _ us hl => match us, hl with | [_], _ => rfl
  have m32 := PySem.W.mg_of X G a32
  have F33 := fun_mk (st := s_read_table_head) l33 c33 k33
  have b33 := F33.binds (ps := ["line"]) fun _ _ _ _ _ _ us hl => match us, hl with | [_], _ => rfl
  have m33 := PySem.W.mg_of X G a33
  have F34 := fun_mk (st := s_read_step) l34 c34 k34
  have b34 := F34.binds (ps := ["line"]) fun _ _ _ _ _ _ us hl => match us, hl with | [_], _ => rfl
  have m34 := PySem.W.mg_of X G a34
  have F35 := fun_mk (st := s_read_job) l35 c35 k35
  have b35 := F35.binds (ps := ["text"]) fun _ _ _ _ _ _ us hl => match us, hl with | [_], _ => rfl
  have m35 := PySem.W.mg_of X G a35
  have F36 := fun_mk (st := Kj.sCell) l36 c36 k36
  have b36 := F36.binds (ps := ["script", "k"]) fun _ _ _ _ _ _ us hl => match us, hl with | [_, _], _ => rfl
  have m36 := PySem.W.mg_of X G a36
  have F37 := fun_mk (st := Kj.sDraw) l37 c37 k37
  have b37 := F37.binds (ps := ["cell", "k", "bound"]) fun _ _ _ _ _ _ us hl => match us, hl with | [_, _, _], _ => rfl
  have m37 := PySem.W.mg_of X G a37
  have F38 := fun_mk (st := Kj.sNumb) l38 c38 k38
  have b38 := F38.binds (ps := ["cell", "k", "bound"]) fun _ _ _ _ _ _ us hl => match us, hl with | [_, _, _], _ => rfl
  have m38 := PySem.W.mg_of X G a38
  have F39 := fun_mk (st := Kj.sNext) l39 c39 k39
  have b39 := F39.binds (ps := ["draw", "bound"]) fun _ _ _ _ _ _ us hl => match us, hl with | [_, _], _ => rfl
  have m39 := PySem.W.mg_of X G a39
  have F40 := fun_mk (st := Kj.sPick) l40 c40 k40
  have b40 := F40.binds (ps := ["draw", "things"]) fun _ _ _ _ _ _ us hl => match us, hl with | [_, _], _ => rfl
  have m40 := PySem.W.mg_of X G a40
  have F41 := fun_mk (st := Kj.sInt) l41 c41 k41
  have b41 := F41.binds (ps := ["draw", "columns", "deep"]) fun _ _ _ _ _ _ us hl => match us, hl with | [_, _, _], _ => rfl
  have m41 := PySem.W.mg_of X G a41
  have F42 := fun_mk (st := Kj.s_law_map) l42 c42 k42
  have b42 := F42.binds (ps := ["draw", "columns", "at"]) fun _ _ _ _ _ _ us hl => match us, hl with | [_, _, _], _ => rfl
  have m42 := PySem.W.mg_of X G a42
  have F43 := fun_mk (st := Kj.s_law_fold) l43 c43 k43
  have b43 := F43.binds (ps := ["draw", "columns"]) fun _ _ _ _ _ _ us hl => match us, hl with | [_, _], _ => rfl
  have m43 := PySem.W.mg_of X G a43
  have F44 := fun_mk (st := Kj.s_law_join) l44 c44 k44
  have b44 := F44.binds (ps := ["draw", "known", "one"]) fun _ _ _ _ _ _ us hl => match us, hl with | [_, _, _], _ => rfl
  have m44 := PySem.W.mg_of X G a44
  have F45 := fun_mk (st := Kj.s_law_most) l45 c45 k45
  have b45 := F45.binds (ps := ["draw", "step"]) fun _ _ _ _ _ _ us hl => match us, hl with | [_, _], _ => rfl
  have m45 := PySem.W.mg_of X G a45
  have F46 := fun_mk (st := Kj.s_law_step) l46 c46 k46
  have b46 := F46.binds (ps := ["draw", "known", "name", "one"]) fun _ _ _ _ _ _ us hl => match us, hl with | [_, _, _, _], _ => rfl
  have m46 := PySem.W.mg_of X G a46
  have F47 := fun_mk (st := Kj.s_law_job) l47 c47 k47
  have b47 := F47.binds (ps := ["draw", "many"]) fun _ _ _ _ _ _ us hl => match us, hl with | [_, _], _ => rfl
  have m47 := PySem.W.mg_of X G a47
  have F48 := fun_mk (st := Kj.s_law_gap) l48 c48 k48
  have b48 := F48.binds (ps := ["draw"]) fun _ _ _ _ _ _ us hl => match us, hl with | [_], _ => rfl
  have m48 := PySem.W.mg_of X G a48
  have F49 := fun_mk (st := Kj.s_law_told) l49 c49 k49
  have b49 := F49.binds (ps := ["draw", "told"]) fun _ _ _ _ _ _ us hl => match us, hl with | [_, _], _ => rfl
  have m49 := PySem.W.mg_of X G a49
  have F50 := fun_mk (st := Kj.s_law_level) l50 c50 k50
  have b50 := F50.binds (ps := ["told"]) fun _ _ _ _ _ _ us hl => match us, hl with | [_], _ => rfl
  have m50 := PySem.W.mg_of X G a50
  have F51 := fun_mk (st := Kj.s_law_plain) l51 c51 k51
  have b51 := F51.binds (ps := ["draw", "told", "least"]) fun _ _ _ _ _ _ us hl => match us, hl with | [_, _, _], _ => rfl
  have m51 := PySem.W.mg_of X G a51
  have F52 := fun_mk (st := Kj.s_law_flat) l52 c52 k52
  have b52 := F52.binds (ps := ["draw", "told"]) fun _ _ _ _ _ _ us hl => match us, hl with | [_, _], _ => rfl
  have m52 := PySem.W.mg_of X G a52
  have F53 := fun_mk (st := Kj.s_law_details) l53 c53 k53
  have b53 := F53.binds (ps := ["draw", "step"]) fun _ _ _ _ _ _ us hl => match us, hl with | [_, _], _ => rfl
  have m53 := PySem.W.mg_of X G a53
  have F54 := fun_mk (st := Kj.s_law_lines) l54 c54 k54
  have b54 := F54.binds (ps := ["draw", "job"]) fun _ _ _ _ _ _ us hl => match us, hl with | [_, _], _ => rfl
  have m54 := PySem.W.mg_of X G a54
  have F55 := fun_mk (st := sLaw) l55 c55 k55
  have m_len := PySem.W.mg_none_of X G z1
  have m_int := PySem.W.mg_none_of X G z2
  have m_sum := PySem.W.mg_none_of X G z3
  have m_all := PySem.W.mg_none_of X G z4
  have m_range := PySem.W.mg_none_of X G z5
  have m_str := PySem.W.mg_none_of X G z6
  have m_list := PySem.W.mg_none_of X G z7
  have m_tuple := PySem.W.mg_none_of X G z8
  have m_isinstance := PySem.W.mg_none_of X G z9
  have m_enumerate := PySem.W.mg_none_of X G z10
  have m_min := PySem.W.mg_none_of X G z11
  have m_set := PySem.W.mg_none_of X G z12
  have m_sorted := PySem.W.mg_none_of X G z13
  have m_WHOLE := PySem.W.mg_of X G g1
  have m_NOT := PySem.W.mg_of X G g2
  have m_COMPARISON := PySem.W.mg_of X G g3
  have m_MINUS := PySem.W.mg_of X G g4
  have m_MOST_IN_ONE := PySem.W.mg_of X G g5
  have m_MOST_WITHIN := PySem.W.mg_of X G g6
  have m_MOST_OPEN := PySem.W.mg_of X G g7
  have m_MOST_PIECES := PySem.W.mg_of X G g8
  have m_MOST_FIGURES := PySem.W.mg_of X G g9
  have MF1 := fun_mk (st := m_Line_init) ml1 mc1 mk1
  have mb1 := MF1.binds (ps := ["self", "text", "number"]) fun _ _ _ _ _ _ us hl => match us, hl with | [_, _, _], _ => rfl
  have MF2 := fun_mk (st := m_Line_fail) ml2 mc2 mk2
  have mb2 := MF2.binds (ps := ["self"]) fun _ _ _ _ _ _ us hl => match us, hl with | [_], _ => rfl
  have MF3 := fun_mk (st := m_Line_is_kind) ml3 mc3 mk3
  have mb3 := MF3.binds (ps := ["self", "kind"]) fun _ _ _ _ _ _ us hl => match us, hl with | [_, _], _ => rfl
  have MF4 := fun_mk (st := m_Line_own_word) ml4 mc4 mk4
  have mb4 := MF4.binds (ps := ["self"]) fun _ _ _ _ _ _ us hl => match us, hl with | [_], _ => rfl
  have MF5 := fun_mk (st := m_Line_take) ml5 mc5 mk5
  have mb5 := MF5.binds (ps := ["self", "kind"]) fun _ _ _ _ _ _ us hl => match us, hl with | [_, _], _ => rfl
  have MF6 := fun_mk (st := m_Line_take_one_of) ml6 mc6 mk6
  have mb6 := MF6.binds (ps := ["self", "words"]) fun _ _ _ _ _ _ us hl => match us, hl with | [_, _], _ => rfl
  have MF7 := fun_mk (st := m_Line_took) ml7 mc7 mk7
  have mb7 := MF7.binds (ps := ["self", "word"]) fun _ _ _ _ _ _ us hl => match us, hl with | [_, _], _ => rfl
  have MF8 := fun_mk (st := m_Line_expect) ml8 mc8 mk8
  have mb8 := MF8.binds (ps := ["self", "word"]) fun _ _ _ _ _ _ us hl => match us, hl with | [_, _], _ => rfl
  have MF9 := fun_mk (st := m_Line_expect_end) ml9 mc9 mk9
  have mb9 := MF9.binds (ps := ["self"]) fun _ _ _ _ _ _ us hl => match us, hl with | [_], _ => rfl
  have bad : PySem.BadY.BadTxt K mg C fI :=
    { gC := PySem.W.mg_of X G aC, cls := ⟨nm, qn, N, bs, _, sn, sub, ab, col, dd, n0, n1, n2, n3, n5, xL, rfl⟩, sa := sa, ga := gat, gg := gg, noN := nb, noW := nw, iC := ai, tC := ti, kC := kC, exC := eC, tyC := tyC, hdC := hC, te := exm_own eC iC tyC sC,
      fn := ⟨_, _, _, _, _, _, _, _, _, _, _, _, _, _, _, _, _, _, _, li, ci⟩ }
  have Z : LnC K CL := ⟨⟨pgL, hdL, poL, saL⟩, y1, y2, y3⟩
  have Tb : Tbl K mg := ⟨⟨aO, PySem.W.mg_of X G gO, fun H => .inr ⟨_, itsO, nO, lO, rfl, rfl, by rw [← Array.length_toList, ← vO.length]; decide, vO⟩⟩, ⟨aG, PySem.W.mg_of X G gG, fun H => .inr ⟨_, itsG, nG, lG, rfl, rfl, by rw [← Array.length_toList, ← vG.length]; decide, vG⟩⟩, ⟨_, PySem.W.mg_of X G gS⟩⟩
  have Lev : Lvl K w mg := by
    refine ⟨⟨dl, es, nn, PySem.W.mg_of X G gD, ⟨lD, gK, lw⟩, fun z hz => ?_⟩⟩
    have hz' : z ∈ ([("" : Str), ("read" : Str), ("filter" : Str), ("where" : Str), ("map" : Str), ("to" : Str), ("as" : Str), ("fold" : Str), ("by" : Str), ("join" : Str), ("union" : Str), ("unlike" : Str), ("sort" : Str), ("first" : Str), ("up" : Str), ("down" : Str), ("answer" : Str), ("and" : Str), ("or" : Str), ("not" : Str), ("mod" : Str), ("length" : Str), ("int" : Str), ("text" : Str), ("count" : Str), ("sum" : Str), ("least" : Str), ("greatest" : Str), ("mean" : Str), ("!=" : Str), ("<=" : Str), (">=" : Str), ("(" : Str), (")" : Str), ("," : Str), ("=" : Str), ("<" : Str), (">" : Str), ("+" : Str), ("-" : Str), ("*" : Str), ("/" : Str), (":" : Str)] : List Str) := by rw [← all_words]; exact hz
    simp only [List.mem_cons, List.not_mem_nil, or_false] at hz'
    rcases hz' with rfl | rfl | rfl | rfl | rfl | rfl | rfl | rfl | rfl | rfl | rfl | rfl | rfl | rfl | rfl | rfl | rfl | rfl | rfl | rfl | rfl | rfl | rfl | rfl | rfl | rfl | rfl | rfl | rfl | rfl | rfl | rfl | rfl | rfl | rfl | rfl | rfl | rfl | rfl | rfl | rfl | rfl | rfl
    · exact .inr ⟨x1, by decide +kernel⟩
    · exact .inr ⟨x2, by decide +kernel⟩
    · exact .inr ⟨x3, by decide +kernel⟩
    · exact .inr ⟨x4, by decide +kernel⟩
    · exact .inr ⟨x5, by decide +kernel⟩
    · exact .inr ⟨x6, by decide +kernel⟩
    · exact .inr ⟨x7, by decide +kernel⟩
    · exact .inr ⟨x8, by decide +kernel⟩
    · exact .inr ⟨x9, by decide +kernel⟩
    · exact .inr ⟨x10, by decide +kernel⟩
    · exact .inr ⟨x11, by decide +kernel⟩
    · exact .inr ⟨x12, by decide +kernel⟩
    · exact .inr ⟨x13, by decide +kernel⟩
    · exact .inr ⟨x14, by decide +kernel⟩
    · exact .inr ⟨x15, by decide +kernel⟩
    · exact .inr ⟨x16, by decide +kernel⟩
    · exact .inr ⟨x17, by decide +kernel⟩
    · exact .inl ⟨_, .int 2, o2, ⟨_, rfl⟩, by decide +kernel⟩
    · exact .inl ⟨_, .int 1, o1, ⟨_, rfl⟩, by decide +kernel⟩
    · exact .inr ⟨x18, by decide +kernel⟩
    · exact .inl ⟨_, .int 6, o13, ⟨_, rfl⟩, by decide +kernel⟩
    · exact .inr ⟨x19, by decide +kernel⟩
    · exact .inr ⟨x20, by decide +kernel⟩
    · exact .inr ⟨x21, by decide +kernel⟩
    · exact .inr ⟨x22, by decide +kernel⟩
    · exact .inr ⟨x23, by decide +kernel⟩
    · exact .inr ⟨x24, by decide +kernel⟩
    · exact .inr ⟨x25, by decide +kernel⟩
    · exact .inr ⟨x26, by decide +kernel⟩
    · exact .inl ⟨_, .int 4, o4, ⟨_, rfl⟩, by decide +kernel⟩
    · exact .inl ⟨_, .int 4, o6, ⟨_, rfl⟩, by decide +kernel⟩
    · exact .inl ⟨_, .int 4, o8, ⟨_, rfl⟩, by decide +kernel⟩
    · exact .inr ⟨x27, by decide +kernel⟩
    · exact .inr ⟨x28, by decide +kernel⟩
    · exact .inr ⟨x29, by decide +kernel⟩
    · exact .inl ⟨_, .int 4, o3, ⟨_, rfl⟩, by decide +kernel⟩
    · exact .inl ⟨_, .int 4, o5, ⟨_, rfl⟩, by decide +kernel⟩
    · exact .inl ⟨_, .int 4, o7, ⟨_, rfl⟩, by decide +kernel⟩
    · exact .inl ⟨_, .int 5, o9, ⟨_, rfl⟩, by decide +kernel⟩
    · exact .inl ⟨_, .int 5, o10, ⟨_, rfl⟩, by decide +kernel⟩
    · exact .inl ⟨_, .int 6, o11, ⟨_, rfl⟩, by decide +kernel⟩
    · exact .inl ⟨_, .int 6, o12, ⟨_, rfl⟩, by decide +kernel⟩
    · exact .inr ⟨x30, by decide +kernel⟩
  refine ⟨PySem.W.fnOf "law" "law" (defArgs sLaw) (defBody sLaw) (defScope sLaw) .none kV55 dc55 pm55 an55 cd55 ct55, fun s v => .of_eq rfl, fun base _ _ => ?_⟩
  have R_fig : Ready l.prog w K mg base 1 "is_figure" ["sign"] spFig := ⟨⟨f10, _, ok_figure F10, b10, m10, k10⟩⟩
  have R_let : Ready l.prog w K mg base 1 "is_letter" ["sign"] spLet := ⟨⟨f11, _, ok_letter F11, b11, m11, k11⟩⟩
  have R_run : Ready l.prog w K mg base 2 "run_end" ["text", "at"] spRunEnd := ⟨⟨f12, _, ok_runend F12 m_len R_let R_fig, b12, m12, k12⟩⟩
  have R_num : Ready l.prog w K mg base 2 "is_number" ["run"] spNumber := ⟨⟨f13, _, ok_number F13 m_len m_all ⟨_, m_MOST_FIGURES⟩ R_fig, b13, m13, k13⟩⟩
  have R_piece : Ready l.prog w K mg base 3 "piece_at" ["text", "at"] spPiece := ⟨⟨f14, _, ok_piece F14 Tb m_int R_let R_fig R_run R_num, b14, m14, k14⟩⟩
  have R_br : Ready l.prog w K mg base 1 "is_bracket" ["piece"] spBr := ⟨⟨f15, _, ok_br F15, b15, m15, k15⟩⟩
  have R_pieces : ReadyX l.prog w K mg base 4 "pieces_of" ["text", "number"] (spPieces K C) := ⟨⟨f16, _, ok_pieces F16 bad m_len ⟨_, m_MOST_PIECES⟩ R_piece R_br, b16, m16, k16⟩⟩
  have M_kind : ReadyM l.prog w K mg base CL 1 "is_kind" ["self", "kind"] (spIsKind CL) := ⟨⟨mf3, _, ok_iskind MF3 Z, mb3, ⟨ma3, mi3, mk3⟩⟩⟩
  have M_fail : ReadyM l.prog w K mg base CL 2 "fail" ["self"] (spFail C CL) := ⟨⟨mf2, _, ok_fail MF2 bad Z, mb2, ⟨ma2, mi2, mk2⟩⟩⟩
  have M_own : ReadyM l.prog w K mg base CL 2 "own_word" ["self"] (spOwn CL) := ⟨⟨mf4, _, ok_own MF4 Z M_kind, mb4, ⟨ma4, mi4, mk4⟩⟩⟩
  have M_take : ReadyM l.prog w K mg base CL 3 "take" ["self", "kind"] (spTake C CL) := ⟨⟨mf5, _, ok_take MF5 Z M_kind M_fail, mb5, ⟨ma5, mi5, mk5⟩⟩⟩
  have M_took : ReadyM l.prog w K mg base CL 3 "took" ["self", "word"] (spTook CL) := ⟨⟨mf7, _, ok_took MF7 Z M_own, mb7, ⟨ma7, mi7, mk7⟩⟩⟩
  have M_expect : ReadyM l.prog w K mg base CL 4 "expect" ["self", "word"] (spExpect C CL) := ⟨⟨mf8, _, ok_expect MF8 Z M_took M_fail, mb8, ⟨ma8, mi8, mk8⟩⟩⟩
  have M_end : ReadyM l.prog w K mg base CL 3 "expect_end" ["self"] (spExpEnd C CL) := ⟨⟨mf9, _, ok_expend MF9 Z M_kind M_fail, mb9, ⟨ma9, mi9, mk9⟩⟩⟩
  have M_one : ReadyM l.prog w K mg base CL 4 "take_one_of" ["self", "words"] (spTakeOne K C CL) := ⟨⟨mf6, _, ok_takeone MF6 Z M_own M_fail M_take, mb6, ⟨ma6, mi6, mk6⟩⟩⟩
  have C_line : ReadyC l.prog w K mg base CL 5 "Line" ["self", "text", "number"] (spInit C CL) := ⟨⟨mf1, _, PySem.W.mg_of X G aL, ⟨mkL, ma1, mi1, kcL⟩, ok_init MF1 Z R_pieces, mb1⟩⟩
  have R_parts : Ready l.prog w K mg base 1 "parts_of" ["told"] spParts := ⟨⟨f1, _, ok_parts F1, b1, m1, k1⟩⟩
  have R_rows : Ready l.prog w K mg base 2 "rows_of_parts" ["told"] spRows := ⟨⟨f2, _, ok_rows F2 m_len R_parts, b2, m2, k2⟩⟩
  have R_many : Ready l.prog w K mg base 3 "how_many" ["told"] spMany := ⟨⟨f3, _, ok_many F3 m_len m_sum R_rows, b3, m3, k3⟩⟩
  have R_deep : Ready l.prog w K mg base 3 "how_deep" ["told"] spDeep := ⟨⟨f4, _, ok_deep F4 m_len R_rows, b4, m4, k4⟩⟩
  have R_large : Ready l.prog w K mg base 4 "is_large" ["told"] spLarge := ⟨⟨f5, _, ok_large F5 ⟨_, m_MOST_IN_ONE⟩ ⟨_, m_MOST_WITHIN⟩ R_many R_deep, b5, m5, k5⟩⟩
  have R_nlv : Ready l.prog w K mg base 3 "next_level" ["line"] (spNextLv CL) := ⟨⟨f6, _, ok_nextlv F6 Z Lev M_own, b6, m6, k6⟩⟩
  have R_part : ∀ m : Nat, ReadyX l.prog w K mg base (2 * m + 5) "read_part" ["line", "level", "many"] (spPart C CL m) := fun m => by
    induction m with
    | zero => exact ⟨⟨f8, _, ok_part0 (k := 0) F8 Z Lev ⟨_, m_MOST_OPEN⟩ ⟨_, m_COMPARISON⟩ ⟨_, m_WHOLE⟩ M_fail M_take R_nlv R_large ⟨⟨f7, _, no_defX fun _ _ _ _ h => h, b7, m7, k7⟩⟩ ⟨⟨f8, _, no_defX fun _ _ _ _ h => h, b8, m8, k8⟩⟩, b8, m8, k8⟩⟩
    | succ m ih => exact ⟨⟨f8, _, ok_part (k := 2 * m) F8 Z Lev ⟨_, m_MOST_OPEN⟩ ⟨_, m_COMPARISON⟩ ⟨_, m_WHOLE⟩ M_fail M_take R_nlv R_large ⟨⟨f7, _, ok_oper (k := 2 * m) F7 Z ⟨_, m_NOT⟩ ⟨_, m_MINUS⟩ ⟨_, m_WHOLE⟩ M_took M_expect M_kind M_take ih, b7, m7, k7⟩⟩ ih, b8, m8, k8⟩⟩
  have R_expr : ReadyX l.prog w K mg base 206 "read_expression" ["line"] (spRd C CL ExA rdExpr) := ⟨⟨f9, _, ok_expr F9 ⟨_, m_WHOLE⟩ (R_part 100), b9, m9, k9⟩⟩
  have R_new : ReadyX l.prog w K mg base 5 "read_new_name" ["line"] (spRd C CL StrAt rdNew) := ⟨⟨f20, _, ok_rnew F20 Z M_expect M_take, b20, m20, k20⟩⟩
  have R_one : ReadyX l.prog w K mg base 6 "read_one_input" ["line"] (spRd C CL InAt rdOne) := ⟨⟨f24, _, (ok_rone F24 Z M_take).mono (by decide), b24, m24, k24⟩⟩
  have R_two : ReadyX l.prog w K mg base 6 "read_two_inputs" ["line"] (spRd C CL InAt rdTwoIn) := ⟨⟨f25, _, (ok_rtwoin F25 Z M_take M_expect).mono (by decide), b25, m25, k25⟩⟩
  have L_col : ReadyX l.prog w K mg base 6 "read_list" ["line", "read_one"] (spList C CL f19 TwoAt (rdTwo ["int", "text"])) := ⟨⟨f17, _, ok_list F17 Z m_tuple TwoAt.keep (two_fine (by decide +kernel)) M_took ⟨⟨_, _, ok_rcolumn F19 Z M_take M_one, k19, b19⟩⟩ (by decide), b17, m17, k17⟩⟩
  have L_sorted : ReadyX l.prog w K mg base 6 "read_list" ["line", "read_one"] (spList C CL f23 TwoAt (rdTwo ["up", "down"])) := ⟨⟨f17, _, ok_list F17 Z m_tuple TwoAt.keep (two_fine (by decide +kernel)) M_took ⟨⟨_, _, ok_rsorted F23 Z M_take M_one, k23, b23⟩⟩ (by decide), b17, m17, k17⟩⟩
  have L_name : ReadyX l.prog w K mg base 6 "read_list" ["line", "read_one"] (spList C CL f18 StrAt rdName) := ⟨⟨f17, _, ok_list F17 Z m_tuple StrAt.keep name_fine M_took ⟨⟨_, _, (ok_rname F18 Z M_take).mono (by decide), k18, b18⟩⟩ (by decide), b17, m17, k17⟩⟩
  have L_mapped : ReadyX l.prog w K mg base 208 "read_list" ["line", "read_one"] (spList C CL f21 MapAt rdMapped) := ⟨⟨f17, _, ok_list F17 Z m_tuple MapAt.keep mapped_fine M_took ⟨⟨_, _, ok_rmapped F21 Z (by decide) M_own R_expr R_new, k21, b21⟩⟩ (by decide), b17, m17, k17⟩⟩
  have L_folded : ReadyX l.prog w K mg base 208 "read_list" ["line", "read_one"] (spList C CL f22 FoldAt rdFolded) := ⟨⟨f17, _, ok_list F17 Z m_tuple FoldAt.keep folded_fine M_took ⟨⟨_, _, ok_rfolded F22 Z (by decide) M_one M_expect R_expr R_new, k22, b22⟩⟩ (by decide), b17, m17, k17⟩⟩
  have R_head : ReadyX l.prog w K mg base 8 "read_table_head" ["line"] (spRd C CL HeadAt rdHead) := ⟨⟨f33, _, (ok_rhead F33 Z m19 M_take M_expect L_col).mono (by decide), b33, m33, k33⟩⟩
  have RD : RdsAt l.prog w K mg base C CL 209 := by
    let ff : Str → Addr := fun wh => if wh = "filter" then f26 else if wh = "map" then f27 else if wh = "fold" then f28 else if wh = "join" then f29 else if wh = "union" then f30 else if wh = "unlike" then f31 else f32
    refine ⟨dR, ff, PySem.W.mg_of X G gR, dicW_mk lR hR lwR, fun wh hw => ?_⟩
    have hw' : wh ∈ (["filter", "map", "fold", "join", "union", "unlike", "sort"] : List Str) := hw
    simp only [List.mem_cons, List.not_mem_nil, or_false] at hw'
    rcases hw' with rfl | rfl | rfl | rfl | rfl | rfl | rfl
    · have e : ff "filter" = f26 := if_pos rfl
      rw [e, rest_filter_eq]
      exact ⟨⟨_, _, _, lR, gKR, p1, rfl⟩, 207, by decide, ⟨⟨_, _, (ok_rfilter F26 Z (by decide) R_one M_expect R_expr).imp (spRd_map (At' := RstAt) (g := fun (x : List Str × Ex) => (x.1, Dt.filter x.2)) fun H v a h => h), k26, b26⟩⟩⟩
    · have e : ff "map" = f27 := (if_neg (by decide +kernel)).trans (if_pos rfl)
      rw [e, rest_map_eq]
      exact ⟨⟨_, _, _, lR, gKR, p2, rfl⟩, 209, by decide, ⟨⟨_, _, (ok_rmap F27 Z (by decide) R_one M_expect m21 L_mapped).imp (spRd_map (At' := RstAt) (g := fun (x : List Str × List (Ex × Str)) => (x.1, Dt.map x.2)) fun H v a h => h), k27, b27⟩⟩⟩
    · have e : ff "fold" = f28 := (if_neg (by decide +kernel)).trans ((if_neg (by decide +kernel)).trans (if_pos rfl))
      rw [e, rest_fold_eq]
      exact ⟨⟨_, _, _, lR, gKR, p3, rfl⟩, 209, by decide, ⟨⟨_, _, (ok_rfold F28 Z (by decide) m18 m22 R_one M_took M_expect L_name L_folded).imp (spRd_map (At' := RstAt) (g := fun (x : List Str × List Str × List (Str × Option Ex × Str)) => (x.1, Dt.fold x.2.1 x.2.2)) fun H v a h => h), k28, b28⟩⟩⟩
    · have e : ff "join" = f29 := (if_neg (by decide +kernel)).trans ((if_neg (by decide +kernel)).trans ((if_neg (by decide +kernel)).trans (if_pos rfl)))
      rw [e, rest_join_eq]
      exact ⟨⟨_, _, _, lR, gKR, p4, rfl⟩, 7, by decide, ⟨⟨_, _, (ok_rjoin F29 Z (by decide) R_two M_expect m18 L_name).imp (spRd_map (At' := RstAt) (g := fun (x : List Str × List Str) => (x.1, Dt.join x.2)) fun H v a h => h), k29, b29⟩⟩⟩
    · have e : ff "union" = f30 := (if_neg (by decide +kernel)).trans ((if_neg (by decide +kernel)).trans ((if_neg (by decide +kernel)).trans ((if_neg (by decide +kernel)).trans (if_pos rfl))))
      rw [e, rest_union_eq]
      exact ⟨⟨_, _, _, lR, gKR, p5, rfl⟩, 7, by decide, ⟨⟨_, _, (ok_runion F30 R_two).imp (spRd_map (At' := RstAt) (g := fun (x : List Str × Unit) => (x.1, Dt.union)) fun H v a h => h), k30, b30⟩⟩⟩
    · have e : ff "unlike" = f31 := (if_neg (by decide +kernel)).trans ((if_neg (by decide +kernel)).trans ((if_neg (by decide +kernel)).trans ((if_neg (by decide +kernel)).trans ((if_neg (by decide +kernel)).trans (if_pos rfl)))))
      rw [e, rest_unlike_eq]
      exact ⟨⟨_, _, _, lR, gKR, p6, rfl⟩, 7, by decide, ⟨⟨_, _, (ok_runlike F31 R_one).imp (spRd_map (At' := RstAt) (g := fun (x : List Str × Unit) => (x.1, Dt.unlike)) fun H v a h => h), k31, b31⟩⟩⟩
    · have e : ff "sort" = f32 := (if_neg (by decide +kernel)).trans ((if_neg (by decide +kernel)).trans ((if_neg (by decide +kernel)).trans ((if_neg (by decide +kernel)).trans ((if_neg (by decide +kernel)).trans ((if_neg (by decide +kernel)).trans (rfl))))))
      rw [e, rest_sort_eq]
      exact ⟨⟨_, _, _, lR, gKR, p7, rfl⟩, 7, by decide, ⟨⟨_, _, (ok_rsort F32 Z m23 R_one M_take M_expect L_sorted).imp (spRd_map (At' := RstAt) (g := fun (x : List Str × List (Str × Str) × Nat) => (x.1, Dt.sort x.2.1 x.2.2)) fun H v a h => h), k32, b32⟩⟩⟩
  have R_step : ReadyX l.prog w K mg base 210 "read_step" ["line"] (spRd C CL StqAt rdStep) := ⟨⟨f34, _, ok_rstep F34 Z (by decide) m_list RD M_took M_take M_expect M_one R_head, b34, m34, k34⟩⟩
  have R_rjob : ReadyX l.prog w K mg base 211 "read_job" ["text"] (spJob C) := ⟨⟨f35, _, ok_rjob F35 bad Z (by decide) m_isinstance m_str m_enumerate m_len m_tuple C_line M_kind M_end M_took M_take R_step, b35, m35, k35⟩⟩
  have R_cell : Kj.Ready l.prog w K mg base 1 "_law_cell_at" ["script", "k"] (Kj.spCell K) := ⟨⟨f36, _, Kj.ok_cell F36 m_len, b36, m36, k36⟩⟩
  have R_draw : Kj.Ready l.prog w K mg base 1 "_law_draw" ["cell", "k", "bound"] Kj.spDraw := ⟨⟨f37, _, Kj.ok_draw F37 m_int, b37, m37, k37⟩⟩
  have R_numb : Kj.Ready l.prog w K mg base 2 "_law_number" ["cell", "k", "bound"] Kj.spNumb := ⟨⟨f38, _, Kj.ok_numb F38 m_int m_range R_draw, b38, m38, k38⟩⟩
  have R_next : Kj.Ready l.prog w K mg base 3 "_law_next" ["draw", "bound"] Kj.spNext := ⟨⟨f39, _, Kj.ok_next F39 m_int R_cell R_numb, b39, m39, k39⟩⟩
  have R_pick : Kj.Ready l.prog w K mg base 4 "_law_pick" ["draw", "things"] (Kj.spPick K) := ⟨⟨f40, _, Kj.ok_pick F40 m_len R_next, b40, m40, k40⟩⟩
  have R_int : ∀ m : Nat, Kj.Ready l.prog w K mg base (m + 4) "_law_int" ["draw", "columns", "deep"] (Kj.spInt m) := fun m => by
    induction m with
    | zero => exact ⟨⟨f41, _, no_int, b41, m41, k41⟩⟩
    | succ m ih => exact ⟨⟨f41, _, Kj.ok_int F41 m_len R_next R_pick ih, b41, m41, k41⟩⟩
  have R_map : Kj.Ready l.prog w K mg base 8 "_law_map" ["draw", "columns", "at"] Kj.spMap := ⟨⟨f42, _, Kj.ok_map F42 m_range m_str m_tuple R_next R_pick (R_int 3), b42, m42, k42⟩⟩
  have R_fold : Kj.Ready l.prog w K mg base 8 "_law_fold" ["draw", "columns"] Kj.spFold := ⟨⟨f43, _, Kj.ok_fold F43 m_range m_str m_tuple m_list m_len m_set R_next R_pick (R_int 2), b43, m43, k43⟩⟩
  have R_join : Kj.Ready l.prog w K mg base 5 "_law_join" ["draw", "known", "one"] Kj.spJoin := ⟨⟨f44, _, Kj.ok_join F44 m_tuple m_len m_set m_sorted R_next R_pick, b44, m44, k44⟩⟩
  have R_most : Kj.Ready l.prog w K mg base 1 "_law_most" ["draw", "step"] Kj.spMost := ⟨⟨f45, _, Kj.ok_most F45 m_sum m_min, b45, m45, k45⟩⟩
  have R_lstep : Kj.Ready l.prog w K mg base 9 "_law_step" ["draw", "known", "name", "one"] Kj.spStep := ⟨⟨f46, _, Kj.ok_step F46 m_tuple m_sorted R_next R_pick (R_int 3) R_map R_fold R_join, b46, m46, k46⟩⟩
  have R_job : Kj.Ready l.prog w K mg base 10 "_law_job" ["draw", "many"] Kj.spJob := ⟨⟨f47, _, Kj.ok_job F47 m_tuple m_sorted m_len m_str m_range R_next R_pick R_lstep R_most, b47, m47, k47⟩⟩
  have R_gap : Kj.Ready l.prog w K mg base 5 "_law_gap" ["draw"] Kj.spGap := ⟨⟨f48, _, Kj.ok_gap F48 R_pick, b48, m48, k48⟩⟩
  have R_told : ∀ m : Nat, Kj.Ready l.prog w K mg base (m + 5) "_law_told" ["draw", "told"] (Kj.spTold m) := fun m => by
    induction m with
    | zero => exact ⟨⟨f49, _, no_told, b49, m49, k49⟩⟩
    | succ m ih => exact ⟨⟨f49, _, Kj.ok_told F49 m_str R_gap ih, b49, m49, k49⟩⟩
  have R_level : Kj.Ready l.prog w K mg base 1 "_law_level" ["told"] Kj.spLevel := ⟨⟨f50, _, Kj.ok_level F50, b50, m50, k50⟩⟩
  have R_flat : ∀ m : Nat, Kj.Ready l.prog w K mg base (2 * m + 8) "_law_flat" ["draw", "told"] (Kj.spFlat m) := fun m => by
    induction m with
    | zero => exact ⟨⟨f52, _, no_flat, b52, m52, k52⟩⟩
    | succ m ih => exact ⟨⟨f52, _, Kj.ok_flat (k := 2 * m + 9) F52 (by omega) R_level R_gap (ready_mono (R_told (m + 1)) (by omega)) ⟨⟨f51, _, Kj.ok_plain (k := 2 * m + 8) F51 (by omega) R_level R_next ih, b51, m51, k51⟩⟩, b52, m52, k52⟩⟩
  have R_plain : Kj.Ready l.prog w K mg base 17 "_law_plain" ["draw", "told", "least"] (Kj.spPlain 4) := ⟨⟨f51, _, Kj.ok_plain (k := 16) F51 (by decide) R_level R_next (R_flat 4), b51, m51, k51⟩⟩
  have R_details : Kj.Ready l.prog w K mg base 18 "_law_details" ["draw", "step"] Kj.spDetails := ⟨⟨f53, _, Kj.ok_details F53 (by decide) m_str (ready_mono (R_told 4) (by decide)) R_plain, b53, m53, k53⟩⟩
  have R_lines : Kj.Ready l.prog w K mg base 19 "_law_lines" ["draw", "job"] Kj.spLines := ⟨⟨f54, _, Kj.ok_lines F54 (by decide) (R_gap) R_details, b54, m54, k54⟩⟩
  exact Kj.ok_law F55 (by decide) (by decide) (by decide) m_range R_next R_pick R_gap R_job R_lines R_rjob
theorem walk {l : PySem.W.OpenLaw} {q : Program} {loose : List Str} {XP : (Str → Option Value) → Heap → Prop} {YP : World → Heap → Prop} {d : DefRec} {K : Params → PySem.W.Frag} (hn : l.most = some 63) (hdf : d.params.defaults = [])
    (hY : ∀ (w : World) (h : Heap), YP w h → (K w.params).In h)
    (F : ∀ (w : World) (mg : Str → Option Value) (fa : Addr) (h : Heap), (K w.params).In h → h.Ns mainGlobals mg → mg d.name = some (.ref fa) →
      ∃ fd : FuncData, (∀ (s : Shared) (u : Value), BindsTo s fd ⟨[u], []⟩ [("script", u)]) ∧ ∀ base : Heap, (K w.params).In base → base.Ns mainGlobals mg → FnOk l.prog w (K w.params) mg base CX0 212 fa fd ["script"] (spLaw (K w.params))) :
    PySem.W.WalkO q loose XP YP l.row.toRowW d [] (fun f vs => PySem.call f vs) :=
  L2.walk_of (n := 63) (k := 212) (x := "script") (CX := fun _ => CX0) (sp := fun w => spLaw (K w.params)) hn (by decide) hdf ⟨rfl, by decide, by decide⟩ hY F (fun _ _ a ns hl _ hS => ⟨a, ns, rfl, hS, fun _ => rfl⟩) fun _ _ _ _ _ z => z
end Kx
open PySem PySem.W PyProof.Rows
set_option maxRecDepth 100000 in
set_option maxHeartbeats 0 in
theorem PySem.Challenge.cw_countedonce_k03_whole_read_holds : PySem.Challenge.rw_countedonce_k03_whole_read.Holds := by
  w_on; o_law; k_head; (case hw => w_witness2)
  k_fill
  refine Kx.walk (l := PySem.Challenge.rw_countedonce_k03_whole_read) rfl rfl (fun w h Y => PySem.W.kIn_of Y) ?F
  case F =>
    intro w mg fa h KX G hmg
    refine' Kx.all_mk KX G hmg ?a1 ?l1 ?c1 ?k1 ?a2 ?l2 ?c2 ?k2 ?a3 ?l3 ?c3 ?k3 ?a4 ?l4 ?c4 ?k4 ?a5 ?l5 ?c5 ?k5 ?a6 ?l6 ?c6 ?k6 ?a7 ?l7 ?c7 ?k7 ?a8 ?l8 ?c8 ?k8 ?a9 ?l9 ?c9 ?k9 ?a10 ?l10 ?c10 ?k10 ?a11 ?l11 ?c11 ?k11 ?a12 ?l12 ?c12 ?k12 ?a13 ?l13 ?c13 ?k13 ?a14 ?l14 ?c14 ?k14 ?a15 ?l15 ?c15 ?k15 ?a16 ?l16 ?c16 ?k16 ?a17 ?l17 ?c17 ?k17 ?a18 ?l18 ?c18 ?k18 ?a19 ?l19 ?c19 ?k19 ?a20 ?l20 ?c20 ?k20 ?a21 ?l21 ?c21 ?k21 ?a22 ?l22 ?c22 ?k22 ?a23 ?l23 ?c23 ?k23 ?a24 ?l24 ?c24 ?k24 ?a25 ?l25 ?c25 ?k25 ?a26 ?l26 ?c26 ?k26 ?a27 ?l27 ?c27 ?k27 ?a28 ?l28 ?c28 ?k28 ?a29 ?l29 ?c29 ?k29 ?a30 ?l30 ?c30 ?k30 ?a31 ?l31 ?c31 ?k31 ?a32 ?l32 ?c32 ?k32 ?a33 ?l33 ?c33 ?k33 ?a34 ?l34 ?c34 ?k34 ?a35 ?l35 ?c35 ?k35 ?a36 ?l36 ?c36 ?k36 ?a37 ?l37 ?c37 ?k37 ?a38 ?l38 ?c38 ?k38 ?a39 ?l39 ?c39 ?k39 ?a40 ?l40 ?c40 ?k40 ?a41 ?l41 ?c41 ?k41 ?a42 ?l42 ?c42 ?k42 ?a43 ?l43 ?c43 ?k43 ?a44 ?l44 ?c44 ?k44 ?a45 ?l45 ?c45 ?k45 ?a46 ?l46 ?c46 ?k46 ?a47 ?l47 ?c47 ?k47 ?a48 ?l48 ?c48 ?k48 ?a49 ?l49 ?c49 ?k49 ?a50 ?l50 ?c50 ?k50 ?a51 ?l51 ?c51 ?k51 ?a52 ?l52 ?c52 ?k52 ?a53 ?l53 ?c53 ?k53 ?a54 ?l54 ?c54 ?k54 ?a55 ?l55 ?c55 ?k55 ?z1 ?z2 ?z3 ?z4 ?z5 ?z6 ?z7 ?z8 ?z9 ?z10 ?z11 ?z12 ?z13 ?g1 ?g2 ?g3 ?g4 ?g5 ?g6 ?g7 ?g8 ?g9 ?aL ?ma1 ?mi1 ?ml1 ?mc1 ?mk1 ?ma2 ?mi2 ?ml2 ?mc2 ?mk2 ?ma3 ?mi3 ?ml3 ?mc3 ?mk3 ?ma4 ?mi4 ?ml4 ?mc4 ?mk4 ?ma5 ?mi5 ?ml5 ?mc5 ?mk5 ?ma6 ?mi6 ?ml6 ?mc6 ?mk6 ?ma7 ?mi7 ?ml7 ?mc7 ?mk7 ?ma8 ?mi8 ?ml8 ?mc8 ?mk8 ?ma9 ?mi9 ?ml9 ?mc9 ?mk9 ?aC ?xL ?sa ?gat ?gg ?nb ?nw ?ai ?ti ?li ?ci ?kC ?eC ?tyC ?hC ?iC ?sC ?gD ?lD ?o1 ?o2 ?o3 ?o4 ?o5 ?o6 ?o7 ?o8 ?o9 ?o10 ?o11 ?o12 ?o13 ?x1 ?x2 ?x3 ?x4 ?x5 ?x6 ?x7 ?x8 ?x9 ?x10 ?x11 ?x12 ?x13 ?x14 ?x15 ?x16 ?x17 ?x18 ?x19 ?x20 ?x21 ?x22 ?x23 ?x24 ?x25 ?x26 ?x27 ?x28 ?x29 ?x30 ?gK ?lw ?gO ?lO ?vO ?gG ?lG ?vG ?gS ?gR ?lR ?p1 ?p2 ?p3 ?p4 ?p5 ?p6 ?p7 ?gKR ?hR ?lwR ?pgL ?hdL ?poL ?saL ?mkL ?kcL ?y1 ?y2 ?y3
    (case a1 => k_is)
    (case l1 => k_is)
    (case c1 => k_is)
    (case k1 => k_is)
    (case a2 => k_is)
    (case l2 => k_is)
    (case c2 => k_is)
    (case k2 => k_is)
    (case a3 => k_is)
    (case l3 => k_is)
    (case c3 => k_is)
    (case k3 => k_is)
    (case a4 => k_is)
    (case l4 => k_is)
    (case c4 => k_is)
    (case k4 => k_is)
    (case a5 => k_is)
    (case l5 => k_is)
    (case c5 => k_is)
    (case k5 => k_is)
    (case a6 => k_is)
    (case l6 => k_is)
    (case c6 => k_is)
    (case k6 => k_is)
    (case a7 => k_is)
    (case l7 => k_is)
    (case c7 => k_is)
    (case k7 => k_is)
    (case a8 => k_is)
    (case l8 => k_is)
    (case c8 => k_is)
    (case k8 => k_is)
    (case a9 => k_is)
    (case l9 => k_is)
    (case c9 => k_is)
    (case k9 => k_is)
    (case a10 => k_is)
    (case l10 => k_is)
    (case c10 => k_is)
    (case k10 => k_is)
    (case a11 => k_is)
    (case l11 => k_is)
    (case c11 => k_is)
    (case k11 => k_is)
    (case a12 => k_is)
    (case l12 => k_is)
    (case c12 => k_is)
    (case k12 => k_is)
    (case a13 => k_is)
    (case l13 => k_is)
    (case c13 => k_is)
    (case k13 => k_is)
    (case a14 => k_is)
    (case l14 => k_is)
    (case c14 => k_is)
    (case k14 => k_is)
    (case a15 => k_is)
    (case l15 => k_is)
    (case c15 => k_is)
    (case k15 => k_is)
    (case a16 => k_is)
    (case l16 => k_is)
    (case c16 => k_is)
    (case k16 => k_is)
    (case a17 => k_is)
    (case l17 => k_is)
    (case c17 => k_is)
    (case k17 => k_is)
    (case a18 => k_is)
    (case l18 => k_is)
    (case c18 => k_is)
    (case k18 => k_is)
    (case a19 => k_is)
    (case l19 => k_is)
    (case c19 => k_is)
    (case k19 => k_is)
    (case a20 => k_is)
    (case l20 => k_is)
    (case c20 => k_is)
    (case k20 => k_is)
    (case a21 => k_is)
    (case l21 => k_is)
    (case c21 => k_is)
    (case k21 => k_is)
    (case a22 => k_is)
    (case l22 => k_is)
    (case c22 => k_is)
    (case k22 => k_is)
    (case a23 => k_is)
    (case l23 => k_is)
    (case c23 => k_is)
    (case k23 => k_is)
    (case a24 => k_is)
    (case l24 => k_is)
    (case c24 => k_is)
    (case k24 => k_is)
    (case a25 => k_is)
    (case l25 => k_is)
    (case c25 => k_is)
    (case k25 => k_is)
    (case a26 => k_is)
    (case l26 => k_is)
    (case c26 => k_is)
    (case k26 => k_is)
    (case a27 => k_is)
    (case l27 => k_is)
    (case c27 => k_is)
    (case k27 => k_is)
    (case a28 => k_is)
    (case l28 => k_is)
    (case c28 => k_is)
    (case k28 => k_is)
    (case a29 => k_is)
    (case l29 => k_is)
    (case c29 => k_is)
    (case k29 => k_is)
    (case a30 => k_is)
    (case l30 => k_is)
    (case c30 => k_is)
    (case k30 => k_is)
    (case a31 => k_is)
    (case l31 => k_is)
    (case c31 => k_is)
    (case k31 => k_is)
    (case a32 => k_is)
    (case l32 => k_is)
    (case c32 => k_is)
    (case k32 => k_is)
    (case a33 => k_is)
    (case l33 => k_is)
    (case c33 => k_is)
    (case k33 => k_is)
    (case a34 => k_is)
    (case l34 => k_is)
    (case c34 => k_is)
    (case k34 => k_is)
    (case a35 => k_is)
    (case l35 => k_is)
    (case c35 => k_is)
    (case k35 => k_is)
    (case a36 => k_is)
    (case l36 => k_is)
    (case c36 => k_is)
    (case k36 => k_is)
    (case a37 => k_is)
    (case l37 => k_is)
    (case c37 => k_is)
    (case k37 => k_is)
    (case a38 => k_is)
    (case l38 => k_is)
    (case c38 => k_is)
    (case k38 => k_is)
    (case a39 => k_is)
    (case l39 => k_is)
    (case c39 => k_is)
    (case k39 => k_is)
    (case a40 => k_is)
    (case l40 => k_is)
    (case c40 => k_is)
    (case k40 => k_is)
    (case a41 => k_is)
    (case l41 => k_is)
    (case c41 => k_is)
    (case k41 => k_is)
    (case a42 => k_is)
    (case l42 => k_is)
    (case c42 => k_is)
    (case k42 => k_is)
    (case a43 => k_is)
    (case l43 => k_is)
    (case c43 => k_is)
    (case k43 => k_is)
    (case a44 => k_is)
    (case l44 => k_is)
    (case c44 => k_is)
    (case k44 => k_is)
    (case a45 => k_is)
    (case l45 => k_is)
    (case c45 => k_is)
    (case k45 => k_is)
    (case a46 => k_is)
    (case l46 => k_is)
    (case c46 => k_is)
    (case k46 => k_is)
    (case a47 => k_is)
    (case l47 => k_is)
    (case c47 => k_is)
    (case k47 => k_is)
    (case a48 => k_is)
    (case l48 => k_is)
    (case c48 => k_is)
    (case k48 => k_is)
    (case a49 => k_is)
    (case l49 => k_is)
    (case c49 => k_is)
    (case k49 => k_is)
    (case a50 => k_is)
    (case l50 => k_is)
    (case c50 => k_is)
    (case k50 => k_is)
    (case a51 => k_is)
    (case l51 => k_is)
    (case c51 => k_is)
    (case k51 => k_is)
    (case a52 => k_is)
    (case l52 => k_is)
    (case c52 => k_is)
    (case k52 => k_is)
    (case a53 => k_is)
    (case l53 => k_is)
    (case c53 => k_is)
    (case k53 => k_is)
    (case a54 => k_is)
    (case l54 => k_is)
    (case c54 => k_is)
    (case k54 => k_is)
    (case a55 => k_is)
    (case l55 => k_is)
    (case c55 => k_is)
    (case k55 => k_is)
    (case z1 => k_is)
    (case z2 => k_is)
    (case z3 => k_is)
    (case z4 => k_is)
    (case z5 => k_is)
    (case z6 => k_is)
    (case z7 => k_is)
    (case z8 => k_is)
    (case z9 => k_is)
    (case z10 => k_is)
    (case z11 => k_is)
    (case z12 => k_is)
    (case z13 => k_is)
    (case g1 => k_is)
    (case g2 => k_is)
    (case g3 => k_is)
    (case g4 => k_is)
    (case g5 => k_is)
    (case g6 => k_is)
    (case g7 => k_is)
    (case g8 => k_is)
    (case g9 => k_is)
    (case aL => k_is)
    (case ma1 => k_is)
    (case mi1 => k_is)
    (case ml1 => k_is)
    (case mc1 => k_is)
    (case mk1 => k_is)
    (case ma2 => k_is)
    (case mi2 => k_is)
    (case ml2 => k_is)
    (case mc2 => k_is)
    (case mk2 => k_is)
    (case ma3 => k_is)
    (case mi3 => k_is)
    (case ml3 => k_is)
    (case mc3 => k_is)
    (case mk3 => k_is)
    (case ma4 => k_is)
    (case mi4 => k_is)
    (case ml4 => k_is)
    (case mc4 => k_is)
    (case mk4 => k_is)
    (case ma5 => k_is)
    (case mi5 => k_is)
    (case ml5 => k_is)
    (case mc5 => k_is)
    (case mk5 => k_is)
    (case ma6 => k_is)
    (case mi6 => k_is)
    (case ml6 => k_is)
    (case mc6 => k_is)
    (case mk6 => k_is)
    (case ma7 => k_is)
    (case mi7 => k_is)
    (case ml7 => k_is)
    (case mc7 => k_is)
    (case mk7 => k_is)
    (case ma8 => k_is)
    (case mi8 => k_is)
    (case ml8 => k_is)
    (case mc8 => k_is)
    (case mk8 => k_is)
    (case ma9 => k_is)
    (case mi9 => k_is)
    (case ml9 => k_is)
    (case mc9 => k_is)
    (case mk9 => k_is)
    (case aC => k_is)
    (case xL => k_is)
    (case sa => k_is)
    (case gat => k_is)
    (case gg => k_is)
    (case nb => k_is)
    (case nw => k_is)
    (case ai => k_is)
    (case ti => k_is)
    (case li => k_is)
    (case ci => k_is)
    (case kC => k_is)
    (case eC => k_is)
    (case tyC => k_is)
    (case hC => k_is)
    (case iC => k_is)
    (case gD => k_is)
    (case lD => k_is)
    (case o1 => k_is)
    (case o2 => k_is)
    (case o3 => k_is)
    (case o4 => k_is)
    (case o5 => k_is)
    (case o6 => k_is)
    (case o7 => k_is)
    (case o8 => k_is)
    (case o9 => k_is)
    (case o10 => k_is)
    (case o11 => k_is)
    (case o12 => k_is)
    (case o13 => k_is)
    (case x1 => k_is)
    (case x2 => k_is)
    (case x3 => k_is)
    (case x4 => k_is)
    (case x5 => k_is)
    (case x6 => k_is)
    (case x7 => k_is)
    (case x8 => k_is)
    (case x9 => k_is)
    (case x10 => k_is)
    (case x11 => k_is)
    (case x12 => k_is)
    (case x13 => k_is)
    (case x14 => k_is)
    (case x15 => k_is)
    (case x16 => k_is)
    (case x17 => k_is)
    (case x18 => k_is)
    (case x19 => k_is)
    (case x20 => k_is)
    (case x21 => k_is)
    (case x22 => k_is)
    (case x23 => k_is)
    (case x24 => k_is)
    (case x25 => k_is)
    (case x26 => k_is)
    (case x27 => k_is)
    (case x28 => k_is)
    (case x29 => k_is)
    (case x30 => k_is)
    (case gO => k_is)
    (case lO => k_is)
    (case gG => k_is)
    (case lG => k_is)
    (case gS => k_is)
    (case gR => k_is)
    (case lR => k_is)
    (case p1 => k_is)
    (case p2 => k_is)
    (case p3 => k_is)
    (case p4 => k_is)
    (case p5 => k_is)
    (case p6 => k_is)
    (case p7 => k_is)
    (case pgL => k_is)
    (case hdL => k_is)
    (case poL => k_is)
    (case saL => k_is)
    (case mkL => k_is)
    (case kcL => k_is)
    (case y1 => k_is)
    (case y2 => k_is)
    (case y3 => k_is)
    (case sC => first | rfl | k_is)
    (case gK => repeat (first | exact True.intro | refine ⟨⟨_, _, rfl, rfl⟩, ?_⟩))
    (case lw => first | rfl | decide +kernel | k_is)
    (case vO => repeat (first | exact .nil | refine .cons ⟨_, rfl⟩ ?_))
    (case vG => repeat (first | exact .nil | refine .cons ⟨_, rfl⟩ ?_))
    (case gKR => repeat (first | exact True.intro | refine ⟨⟨_, _, rfl, rfl⟩, ?_⟩))
    (case hR => rfl)
    (case lwR => first | rfl | decide +kernel | k_is)
#print axioms PySem.Challenge.cw_countedonce_k03_whole_read_holds

