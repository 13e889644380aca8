import PyProof.Rows.All
import Wide.All
import OpenK.AllK
import Wide.FinOn
import HandS.Base
import HandS.Call
import HandS.List
import HandS.Comp
import HandS.Text
import HandS.Walk
import HandS.Ends
import HandS.Words
import HandS.WordsList
import HandS.Wide
import HandS.TupAny
import KE.Datum
import HandS.Style
import HandS.ForSpec
import KE.KExcInit
import HandS.ExcInit
import HandS.Exc
import HandS.TryElse
import HandS.More
import HandS.IsInst
import HandS.StrMore
import HandS.Codes
import HandS.Small
import HandS.HeadHook3
import PyProof.StrOps2
import HandS.Deep
import PySem.Challenge.RW_countedonce_k13_whole_deep_texts
set_option Elab.async false
set_option linter.all false
set_option maxRecDepth 100000
set_option maxHeartbeats 4000000
namespace Kx
open PySem PySem.Spec PyProof.Rows L2 TL
/-! ### texts: words, lines, figures -/
def mkS (l : List Nat) : Str := ⟨l.toArray⟩
theorem tl_mkS (l : List Nat) : tl (mkS l) = l := rfl
def wordsOf (z : Str) : List Str := (spl [32] 0 [] (tl z)).map mkS
def linesOf (z : Str) : List Str := (spl [10] 0 [] (tl z)).map mkS
theorem map_mkS (ls : List (List Nat)) : (ls.map mkS).map tl = ls := by
  rw [List.map_map]
  exact (List.map_congr_left fun a _ => rfl).trans (List.map_id ls)
theorem tl_blank : tl (" " : Str) = [32] := by decide +kernel
theorem tl_feed : tl ("\n" : Str) = [10] := by decide +kernel
theorem low_blank : (" " : Str).cps.all (· < 256) = true := by decide +kernel
theorem low_feed : ("\n" : Str).cps.all (· < 256) = true := by decide +kernel
theorem split_words (z : Str) : Txt.split z " " = wordsOf z := by
  refine map_tl_inj ?_
  rw [split_spl _ _ (by rw [tl_blank]; simp) (kind_ok low_blank), tl_blank]
  exact (map_mkS _).symm
theorem split_lines (z : Str) : Txt.split z "\n" = linesOf z := by
  refine map_tl_inj ?_
  rw [split_spl _ _ (by rw [tl_feed]; simp) (kind_ok low_feed), tl_feed]
  exact (map_mkS _).symm
theorem spl_ne (S : List Nat) : ∀ (k : Nat) (acc l : List Nat), spl S k acc l ≠ []
  | k, acc, [] => by cases k <;> simp [spl]
  | 0, acc, c :: r => by
    unfold spl
    split
    · simp
    · exact spl_ne S 0 _ r
  | k + 1, acc, _ :: r => by
    unfold spl
    exact spl_ne S k acc r
theorem wordsOf_ne (z : Str) : wordsOf z ≠ [] := fun e => spl_ne _ _ _ _ (List.map_eq_nil_iff.mp e)
theorem linesOf_ne (z : Str) : linesOf z ≠ [] := fun e => spl_ne _ _ _ _ (List.map_eq_nil_iff.mp e)
theorem spl_sum (s : Nat) : ∀ (acc l : List Nat), ((spl [s] 0 acc l).map List.length).sum + (spl [s] 0 acc l).length = acc.length + l.length + 1
  | acc, [] => by simp [spl]
  | acc, c :: r => by
    unfold spl
    split
    · show acc.length + ((spl [s] 0 [] r).map List.length).sum + ((spl [s] 0 [] r).length + 1) = _
      have := spl_sum s [] r
      simp only [List.length_cons, List.length_nil] at this ⊢
      omega
    · have := spl_sum s (acc ++ [c]) r
      simp only [List.length_append, List.length_cons, List.length_nil] at this ⊢
      omega
theorem len_mkS (l : List Nat) : (mkS l).length = l.length := by rw [len_tl, tl_mkS]
theorem words_sum (z : Str) : ((wordsOf z).map (·.length)).sum + (wordsOf z).length = z.length + 1 := by
  have h := spl_sum 32 [] (tl z)
  unfold wordsOf
  rw [List.map_map, List.length_map, len_tl]
  have e : (spl [32] 0 [] (tl z)).map ((·.length) ∘ mkS) = (spl [32] 0 [] (tl z)).map List.length := List.map_congr_left fun a _ => len_mkS a
  rw [e]
  simpa using h
theorem lines_sum (z : Str) : ((linesOf z).map (·.length)).sum + (linesOf z).length = z.length + 1 := by
  have h := spl_sum 10 [] (tl z)
  unfold linesOf
  rw [List.map_map, List.length_map, len_tl]
  have e : (spl [10] 0 [] (tl z)).map ((·.length) ∘ mkS) = (spl [10] 0 [] (tl z)).map List.length := List.map_congr_left fun a _ => len_mkS a
  rw [e]
  simpa using h
theorem mem_sum {z : Str} {ws : List Str} (h : z ∈ ws) : z.length ≤ (ws.map (·.length)).sum := by
  induction ws with
  | nil => cases h
  | cons a r ih =>
    rw [List.map_cons, List.sum_cons]
    rcases List.mem_cons.mp h with rfl | h
    · omega
    · have := ih h
      omega
theorem lt_one (a b : Nat) : decide (([a] : List Nat) < [b]) = decide (a < b) := by
  by_cases h : a < b
  · rw [decide_eq_true h]
    exact decide_eq_true (by simpa [List.cons_lt_cons_iff] using h)
  · rw [decide_eq_false h]
    exact decide_eq_false (by simpa [List.cons_lt_cons_iff] using h)
def isFig (c : Nat) : Bool := decide (48 ≤ c) && decide (c ≤ 57)
def numS (n : Nat) : Str := Str.ofString (toString (n : Int))
theorem tl_numS (n : Nat) : tl (numS n) = numL n := tl_num n
theorem numL_head {n : Nat} (h : 0 < n) : (numL n).head? ≠ some 48 := by
  induction n using Nat.strongRecOn with
  | ind n ih =>
    by_cases hn : n < 10
    · rw [numL_lt hn]
      simp
      omega
    · rw [numL_step (by omega)]
      have h1 : 0 < n / 10 := by omega
      have := ih (n / 10) (by omega) h1
      cases e : numL (n / 10) with
      | nil => exact absurd e (numL_ne _)
      | cons a r =>
        rw [e] at this
        exact this
theorem numL_figs (n : Nat) : (numL n).all isFig = true := by
  refine List.all_eq_true.mpr fun c hc => ?_
  unfold isFig
  by_cases h : c < 48 ∨ 57 < c
  · exact absurd hc (numL_free h)
  · have h1 : 48 ≤ c := by omega
    have h2 : c ≤ 57 := by omega
    simp [h1, h2]
end Kx

namespace Kx
open PySem PySem.Spec PyProof.Rows L2 TL
theorem Same.sqT {K : PySem.W.Frag} {H H' : Hp} (h : Same H H') {a : Addr} {xs : List V} (q : SqT K H a xs) : SqT K H' a xs := by
  rcases q with (q | ⟨o, q⟩) | q
  · exact .inl (.inl (h _ _ q))
  · exact .inl (.inr ⟨o, h _ _ q⟩)
  · exact .inr q
theorem Same.sqL {K : PySem.W.Frag} {H H' : Hp} (h : Same H H') {a : Addr} {xs : List V} (q : SqL K H a xs) : SqL K H' a xs := by
  rcases q with (q | ⟨o, q⟩) | q
  · exact .inl (.inl (h _ _ q))
  · exact .inl (.inr ⟨o, h _ _ q⟩)
  · exact .inr q
theorem same_none {H H' : Hp} {b : Addr} (h : Same H H') (e : H' b = none) : H b = none := by
  cases k : H b with
  | none => rfl
  | some o => rw [h _ _ k] at e; cases e
/-- t[lo:hi]: somewhere stands the part -/
theorem cut_any {K : PySem.W.Frag} {H : Hp} {a : Addr} {xs ys : List V} {lo hi : Option Int} {Q : VK} (ha : SqT K H a xs) (e : cutV xs lo hi = ys) (q : ∀ p H', Same H H' → SqT K H' p ys → Q (.ref p) H') : rSlA K (.ref a) lo hi H Q := by
  refine ⟨a, xs, rfl, ha, fun h => ?_, fun _ p hp => ?_⟩
  · refine q a H (fun _ _ h => h) ?_
    have : ys = xs := by
      rw [← e]
      unfold cutV
      rw [h.1, h.2, List.drop_zero, Nat.sub_zero, List.take_length]
    rw [this]
    exact ha
  · subst e
    refine q p _ (fun b x e => ?_) (SqT.of upd_same)
    rw [upd_ne (ne_of_none e hp)]
    exact e
theorem take_cut (xs : List V) (k : Nat) : cutV xs none (some (k : Int)) = xs.take k := by
  unfold cutV
  rw [HT.sIx_none, HT.sIx_nat, List.drop_zero, Nat.sub_zero]
  by_cases h : k ≤ xs.length
  · rw [Nat.min_eq_left h]
  · rw [Nat.min_eq_right (by omega), List.take_of_length_le (Nat.le_refl _), List.take_of_length_le (by omega)]
theorem drop_cut (xs : List V) (k : Nat) : cutV xs (some (k : Int)) none = xs.drop k := by
  unfold cutV
  rw [HT.sIx_none, HT.sIx_nat]
  by_cases h : k ≤ xs.length
  · rw [Nat.min_eq_left h, List.take_of_length_le (by rw [List.length_drop]; omega)]
  · rw [Nat.min_eq_right (by omega), Nat.sub_self, List.take_zero, List.drop_eq_nil_of_le (by omega)]
theorem dp_strs {K : PySem.W.Frag} {H : Hp} : ∀ ws : List Str, DpAll K H (ws.map V.str) (ws.map PyData.str)
  | [] => .nil
  | z :: r => .cons (.str z) (dp_strs r)
theorem lay_strs : ∀ {ws : List Str}, (∀ z ∈ ws, PyData.strOk z = true) → PyData.canLayAll0 (ws.map PyData.str) = true
  | [], _ => by simp [PyData.canLayAll0]
  | z :: r, h => by
    rw [List.map_cons, PyData.canLayAll0, lay_strs fun y hy => h y (List.mem_cons_of_mem _ hy), Bool.and_true, PyData.canLay0]
    exact h z List.mem_cons_self
theorem depth_strs : ∀ ws : List Str, PyData.depthAll (ws.map PyData.str) = 0
  | [] => by simp [PyData.depthAll]
  | z :: r => by rw [List.map_cons, PyData.depthAll, depth_strs r, PyData.depth]; rfl
theorem shaped_strs {ws : List Str} (h : ∀ z ∈ ws, PyData.strOk z = true) : SeqAt.shaped (.list (ws.map PyData.str)) = true := by
  unfold SeqAt.shaped
  rw [PyData.canLay0, lay_strs h, PyData.depth, depth_strs]
  rfl
theorem eqv_strs (a b : List Str) : PyData.eqv (.list (a.map PyData.str)) (.list (b.map PyData.str)) = decide (a = b) := PySem.W.eqvAll_map (α := Str) a b
/-! ### texts whose signs are signs -/
def okL (l : List Nat) : Bool := l.all (· < 0x110000)
theorem strOk_tl (z : Str) : PyData.strOk z = okL (tl z) := by
  unfold PyData.strOk okL
  first
    | exact Array.all_toList.symm
    | simp
theorem okL_spl (S : List Nat) : ∀ (k : Nat) (acc l : List Nat), okL acc = true → okL l = true → ∀ p ∈ spl S k acc l, okL p = true
  | k, acc, [], h, _, p, hp => by
    rw [spl_nil] at hp
    rw [List.mem_singleton.mp hp]
    exact h
  | 0, acc, c :: r, h, hl, p, hp => by
    have hr : okL r = true := by
      unfold okL at hl ⊢
      rw [List.all_cons, Bool.and_eq_true] at hl
      exact hl.2
    have hc : okL (acc ++ [c]) = true := by
      unfold okL at hl h ⊢
      rw [List.all_cons, Bool.and_eq_true] at hl
      rw [List.all_append, h, List.all_cons, hl.1]
      rfl
    unfold spl at hp
    split at hp
    · rcases List.mem_cons.mp hp with e | hp
      · rw [e]
        exact h
      · exact okL_spl S _ [] r rfl hr p hp
    · exact okL_spl S 0 _ r hc hr p hp
  | k + 1, acc, c :: r, h, hl, p, hp => by
    have hr : okL r = true := by
      unfold okL at hl ⊢
      rw [List.all_cons, Bool.and_eq_true] at hl
      exact hl.2
    unfold spl at hp
    exact okL_spl S k acc r h hr p hp
theorem ok_words {z : Str} (h : PyData.strOk z = true) : ∀ y ∈ wordsOf z, PyData.strOk y = true := fun y hy => by
  obtain ⟨p, hp, rfl⟩ := List.mem_map.mp hy
  rw [strOk_tl, tl_mkS]
  exact okL_spl _ 0 [] (tl z) rfl (by rw [← strOk_tl]; exact h) p hp
theorem ok_lines {z : Str} (h : PyData.strOk z = true) : ∀ y ∈ linesOf z, PyData.strOk y = true := fun y hy => by
  obtain ⟨p, hp, rfl⟩ := List.mem_map.mp hy
  rw [strOk_tl, tl_mkS]
  exact okL_spl _ 0 [] (tl z) rfl (by rw [← strOk_tl]; exact h) p hp
theorem len_append (a b : Str) : (a ++ b).length = a.length + b.length := by rw [len_tl, tl_append, List.length_append, len_tl, len_tl]
theorem okL_append {a b : List Nat} (h : okL a = true) (k : okL b = true) : okL (a ++ b) = true := by
  unfold okL at *
  rw [List.all_append, h, k]
  rfl
theorem ok_append {a b : Str} (h : PyData.strOk a = true) (k : PyData.strOk b = true) : PyData.strOk (a ++ b) = true := by
  rw [strOk_tl] at *
  rw [tl_append]
  exact okL_append h k
theorem ok_numS (n : Nat) : PyData.strOk (numS n) = true := by
  rw [strOk_tl, tl_numS]
  refine List.all_eq_true.mpr fun c hc => ?_
  have h := List.all_eq_true.mp (numL_figs n) c hc
  unfold isFig at h
  have h2 : c ≤ 57 := by
    have := (Bool.and_eq_true_iff.mp h).2
    exact of_decide_eq_true this
  exact decide_eq_true (by omega)
end Kx

namespace Kx
open PySem PySem.Spec PyProof.Rows L2
def topS (i : Nat) : Stmt := PySem.Challenge.pw_countedonce_k13_whole_deep_texts.main.body.getD i (.Pass ⟨0, 0, 0, 0⟩)
abbrev sCell : Stmt := topS 58
abbrev sDraw : Stmt := topS 59
abbrev sNumb : Stmt := topS 60
abbrev sNext : Stmt := topS 61
abbrev sPick : Stmt := topS 62
section
variable {P : Program} {w : World} {K : PySem.W.Frag} {mg : Str → Option Value} {base : Heap}
/-- a def of the top that keeps a promise, and may be called by its name -/
structure Ready (P : Program) (w : World) (K : PySem.W.Frag) (mg : Str → Option Value) (base : Heap) (k : Nat) (x : Str) (ps : List Str) (sp : Sp) : Prop where
  ex : ∃ f fd, FnOk P w K mg base CX0 k f fd ps sp ∧ Binds K fd ps [] ∧ mg x = some (.ref f) ∧ PySem.W.keepIn K (.ref f) = true
end
theorem pe_fn {X : Cx} {k : Nat} {x : Str} {ps : List Str} {sp : Sp} {p pos : Pos} {e : Expr} {es : List Expr} {t : TA} (G : Ready X.prog X.w X.K X.mg X.base k x ps sp) (hr : Room k X.A) (ha : PA X (e :: es) t) (hg : Gl X x := by rfl)
    (hdb : (x == ("__debug__" : Str)) = false := by decide) (he : starEach (e :: es) X.env = (false, eval e X.env) :: starEach es X.env := by rfl) (hpl : (backTo pos (starEach es X.env)).any (·.1) = false := by rfl) :
    PE X (.Call (.Name x p) (e :: es) [] pos) (tCall sp [] E0 t) := by
  obtain ⟨f, fd, h, hb, hm, hk⟩ := G.ex
  exact pe_call h hr hg hm hk hb .nil pass0 ha hdb he hpl
/-- all that was tracked is as it was, but what stands at d -/
def But (d : Addr) (H H' : Hp) : Prop := ∀ b o, b ≠ d → H b = some o → H' b = some o
theorem But.refl (d : Addr) (H : Hp) : But d H H := fun _ _ _ h => h
theorem But.trans {d : Addr} {H H1 H2 : Hp} (a : But d H H1) (b : But d H1 H2) : But d H H2 := fun c o n h => b c o n (a c o n h)
theorem same_but {d : Addr} {H H' : Hp} (a : Same H H') : But d H H' := fun c o _ h => a c o h
theorem same_upd {H : Hp} {p : Addr} {o : HO} (h : H p = none) : Same H (upd H p o) := fun b x e => by
  rw [upd_ne (ne_of_none e h)]
  exact e
section
variable {P : Program} {w : World} {K : PySem.W.Frag} {mg : Str → Option Value} {base : Heap}
/-! ### the law's draws -/
def spCell (K : PySem.W.Frag) : Sp := fun vs H Q _ => ∃ (a : Addr) (ns : List Int) (k : Int), vs = [.ref a, .int k] ∧ SqL K H a (ns.map V.int) ∧ 0 ≤ k ∧ ∀ c : Int, Q (.int c) H
theorem sc_cell : FnScope ["script", "k"] ["script", "k"] (defScope sCell) := ⟨rfl, rfl, rfl, by decide +kernel, rfl, by decide +kernel, by decide +kernel⟩
theorem ok_cell {f : Addr} {fd : FuncData} (F : Fun K "_law_cell_at" "_law_cell_at" sCell f fd) (m_len : mg "len" = none) : FnOk P w K mg base CX0 1 f fd ["script", "k"] (spCell K) := by
  refine F.ok sc_cell (fun vs H Q E h => ?_) (fun cdv A outer s H vs Q E hr h => ?_)
  · obtain ⟨a, ns, k, rfl, _⟩ := h
    rfl
  obtain ⟨a, ns, k, rfl, hS, h0, q⟩ := h
  refine ⟨_, pss_cons (ps_if (pt_cmpR op_lt (pv 1) (pe_callB call_len_seq (by rfl) m_len PySem.boot_len (pa_cons (pv 0) pa_nil)) (nomark _)) (pss_one (ps_ret (pe_ix ix_list (pv 0) (pv 1) (fun _ _ => rfl)))) (pss_nil))
      (pss_one (ps_ret pe_int)), ?_⟩
  refine ⟨_, rfl, _, rfl, a, _, rfl, .inl hS, _, _, rfl, rfl, _, rfl, ?_⟩
  refine ite2 (fun c => ?_) (fun c => q 0)
  have c' : k < ((ns.map V.int).length : Int) := of_decide_eq_true c
  have ek : k = ((k.toNat : Nat) : Int) := by omega
  have hk : k.toNat < ns.length := by rw [List.length_map] at c'; omega
  have ha : atI (ns.map V.int) ((k.toNat : Nat) : Int) = some (.int ns[k.toNat]) := atI_nat (by rw [List.getElem?_map, List.getElem?_eq_getElem hk] <;> rfl)
  rw [← ek] at ha
  exact ⟨_, rfl, _, rfl, a, _, _, _, rfl, rfl, hS, ha, q _⟩
def spDraw : Sp := fun vs H Q _ => ∃ (c k b : Int), vs = [.int c, .int k, .int b] ∧ 0 < b ∧ ∀ (r : Int) (H' : Hp), 0 ≤ r → r < b → Same H H' → Q (.int r) H'
theorem sc_draw : FnScope ["cell", "k", "bound", "primes"] ["cell", "k", "bound"] (defScope sDraw) := ⟨rfl, rfl, rfl, by decide +kernel, rfl, by decide +kernel, by decide +kernel⟩
def primesL : List Int := [1000003, 1000033, 1000037, 1000039, 1000081, 1000099, 1000117, 1000121, 1000133, 1000151, 1000159, 1000171, 1000183, 1000187, 1000193, 1000199]
theorem primes_at {i : Int} (h0 : 0 ≤ i) (h : i < 16) : ∃ p : Int, 0 < p ∧ atI (primesL.map V.int) i = some (.int p) := by
  have ei : i = ((i.toNat : Nat) : Int) := by omega
  have hk : i.toNat < primesL.length := by show i.toNat < 16; omega
  refine ⟨primesL[i.toNat], ?_, ?_⟩
  · have : ∀ x ∈ primesL, (0 : Int) < x := by decide
    exact this _ (List.getElem_mem hk)
  · have q : atI (primesL.map V.int) ((i.toNat : Nat) : Int) = some (.int primesL[i.toNat]) := atI_nat (by rw [List.getElem?_map, List.getElem?_eq_getElem hk] <;> rfl)
    rw [← ei] at q
    exact q
theorem ok_draw {f : Addr} {fd : FuncData} (F : Fun K "_law_draw" "_law_draw" sDraw f fd) (m_int : mg "int" = none) : FnOk P w K mg base CX0 1 f fd ["cell", "k", "bound"] spDraw := by
  refine F.ok sc_draw (fun vs H Q E h => ?_) (fun cdv A outer s H vs Q E hr h => ?_)
  · obtain ⟨c, k, b, rfl, _⟩ := h
    rfl
  obtain ⟨c, k, b, rfl, hb, q⟩ := h
  have nd := sc_draw.nd
  refine ⟨_, pss_cons (ps_set (i := 3) nd rfl (.inl rfl) (pe_tup (pa_cons pe_int (pa_cons pe_int (pa_cons pe_int (pa_cons pe_int (pa_cons pe_int (pa_cons pe_int (pa_cons pe_int (pa_cons pe_int (pa_cons pe_int (pa_cons pe_int (pa_cons pe_int (pa_cons pe_int (pa_cons pe_int (pa_cons pe_int (pa_cons pe_int (pa_cons pe_int pa_nil))))))))))))))))))
      (pss_one (ps_ret (pe_op op_mod (pe_op op_mod (pe_callTy call_int1 (by rfl) m_int boot_int (pa_cons (pe_op op_add (pe_op op_mul (pv 0) pe_int) (pe_op op_mul (pv 1) pe_int)) pa_nil)) (pe_ix ix_tup (pv 3) (pe_op op_mod (pe_callTy call_int1 (by rfl) m_int boot_int (pa_cons (pv 1) pa_nil)) pe_int) (fun _ _ => rfl))) (pv 2)))), ?_⟩
  refine ⟨by show 16 ≤ sizeLine; decide, fun t ht => ?_⟩
  obtain ⟨p, hp, hat⟩ := primes_at (i := k % 16) (by omega) (by omega)
  refine ⟨_, rfl, _, _, rfl, rfl, .inr (by show _ ∧ _; decide), _, rfl, _, _, rfl, rfl, .inr (by show _ ∧ _; decide), _, _, rfl, rfl, .inl ⟨_, rfl, ?_⟩⟩
  refine ⟨_, rfl, _, rfl, .inl ⟨_, rfl, _, _, rfl, rfl, (by show (0 : Int) < 16; decide), ?_⟩⟩
  refine ⟨t, primesL.map V.int, _, _, rfl, rfl, SqT.of upd_same, hat, _, _, rfl, rfl, hp, _, rfl, _, _, rfl, rfl, hb, ?_⟩
  exact q _ _ (Int.emod_nonneg _ (by omega)) (Int.emod_lt_of_pos _ hb) (same_upd ht)
end
end Kx

namespace Kx
open PySem PySem.Spec PyProof.Rows L2
section
variable {P : Program} {w : World} {K : PySem.W.Frag} {mg : Str → Option Value} {base : Heap}
theorem pow_lt : ∀ i : Nat, i < 24 → (1009 ^ i : Nat) < 2 ^ 240 := by decide +kernel
theorem sc_numb : FnScope ["cell", "k", "bound", "power", "lap", "remains", "small"] ["cell", "k", "bound"] (defScope sNumb) := ⟨rfl, rfl, rfl, by decide +kernel, rfl, by decide +kernel, by decide +kernel⟩
def spNumb : Sp := fun vs H Q _ => ∃ (c k b : Int), vs = [.int c, .int k, .int b] ∧ 0 ≤ k ∧ k ≤ 100 ∧ 0 < b ∧ ∀ (r : Int) (H' : Hp), 0 ≤ r → r < b → Same H H' → Q (.int r) H'
theorem ok_numb {f : Addr} {fd : FuncData} (F : Fun K "_law_number" "_law_number" sNumb f fd) (m_int : mg "int" = none) (m_range : mg "range" = none) (G_law_draw : Ready P w K mg base 1 "_law_draw" ["cell", "k", "bound"] spDraw) :
    FnOk P w K mg base CX0 2 f fd ["cell", "k", "bound"] spNumb := by
  refine F.ok sc_numb (fun vs H Q E h => ?_) (fun cdv A outer s H vs Q E hr h => ?_)
  · obtain ⟨c, k, b, rfl, _⟩ := h
    rfl
  obtain ⟨c, k, b, rfl, k0, k1, hb, q⟩ := h
  have nd := sc_numb.nd
  refine ⟨_, pss_cons (ps_set (i := 3) nd rfl (.inl rfl) pe_int)
      (pss_cons (ps_for PassesOwn.never rfl (pi_range1 rfl m_range (pa_cons (pe_op op_mod (pe_callTy call_int1 (by rfl) m_int boot_int (pa_cons (pv 1) pa_nil)) pe_int) pa_nil)) (pg_name (i := 4) nd rfl (.inl rfl)) (pss_one (ps_set (i := 3) nd rfl (.inl rfl) (pe_op op_mul (pv 3) pe_int))))
      (pss_cons (ps_set (i := 5) nd rfl (.inl rfl) (pe_op op_fdivW (pe_op op_sub (pv 0) (pe_op op_pow pe_int pe_int)) (pv 3)))
      (pss_cons (ps_if (pt_cmpR op_gt (pv 5) pe_int (nomark _)) (pss_one (ps_ret (pe_op op_mod (pe_op op_mod (pe_callTy call_int1 (by rfl) m_int boot_int (pa_cons (pv 5) pa_nil)) pe_int) (pv 2)))) (pss_nil))
      (pss_cons (ps_set (i := 6) nd rfl (.inl rfl) (pe_op op_mod (pe_callTy call_int1 (by rfl) m_int boot_int (pa_cons (pv 0) pa_nil)) pe_int))
      (pss_one (ps_ret (pe_op op_mod (pe_fn (G_law_draw) (hr.mono (by decide)) (pa_cons (pe_op op_mul (pe_op op_add (pv 6) (pe_op op_mul pe_int (pv 1))) (pe_op op_add (pe_op op_add (pv 6) (pe_op op_mul pe_int (pv 1))) pe_int)) (pa_cons (pe_op op_add (pe_op op_mod (pe_callTy call_int1 (by rfl) m_int boot_int (pa_cons (pv 1) pa_nil)) pe_int) pe_int) (pa_cons pe_int pa_nil)))) (pv 2)))))))), ?_⟩
  refine ⟨_, rfl, .inl ⟨_, rfl, _, _, rfl, rfl, (by show (0 : Int) < 24; decide), _, rfl, by omega, by omega, ?_⟩⟩
  have m0 : 0 ≤ k % 24 := Int.emod_nonneg _ (by omega)
  have m1 : k % 24 < 24 := Int.emod_lt_of_pos _ (by omega)
  refine for_range (fun i σ H' => ∃ y4, σ = [some (.int c), some (.int k), some (.int b), some (.int ((1009 ^ i : Nat) : Int)), y4, none, none] ∧ H' = H) ⟨none, rfl, rfl⟩ ?_ ?_
  · rintro i σ H' hi ⟨y4, rfl, rfl⟩
    refine ⟨_, rfl, _, _, rfl, rfl, .inr (by show _ ∧ _; decide), ?_⟩
    refine ⟨some (.int (0 + (i : Nat))), ?_, rfl⟩
    rw [Nat.pow_succ, Int.natCast_mul]
    rfl
  · rintro σ H' ⟨y4, rfl, rfl⟩
    have hj : (k % 24).toNat < 24 := by omega
    have hp := pow_lt _ hj
    have hp0 : 0 < (1009 ^ (k % 24).toNat : Nat) := Nat.pow_pos (by decide)
    generalize (1009 ^ (k % 24).toNat : Nat) = pw at hp hp0
    refine ⟨_, rfl, _, _, rfl, rfl, (by show _ ∧ _ ∧ _; decide), _, _, rfl, rfl, _, rfl, _, _, rfl, rfl, wide_div (b := 240) (by omega) (by omega) (by decide) (by decide), ?_⟩
    refine ⟨_, rfl, _, _, rfl, rfl, _, rfl, ?_⟩
    refine ite2 (fun _ => ?_) (fun _ => ?_)
    · refine ⟨_, rfl, .inl ⟨_, rfl, _, _, rfl, rfl, (by show (0 : Int) < 1009; decide), _, rfl, _, _, rfl, rfl, hb, ?_⟩⟩
      exact q _ _ (Int.emod_nonneg _ (by omega)) (Int.emod_lt_of_pos _ hb) (Same.refl _)
    · refine ⟨_, rfl, .inl ⟨_, rfl, _, _, rfl, rfl, (by show (0 : Int) < 1000003; decide), ?_⟩⟩
      have s0 : 0 ≤ c % 1000003 := Int.emod_nonneg _ (by omega)
      have s1 : c % 1000003 < 1000003 := Int.emod_lt_of_pos _ (by omega)
      refine ⟨_, rfl, _, rfl, _, _, rfl, rfl, .inl (by show _ ∧ _; decide), _, _, rfl, rfl, ?_⟩
      refine ⟨_, rfl, _, rfl, _, _, rfl, rfl, .inl (by show _ ∧ _; decide), _, _, rfl, rfl, _, _, rfl, rfl, _, _, rfl, rfl, .inl (by show _ ∧ _; omega), ?_⟩
      refine ⟨_, rfl, .inl ⟨_, rfl, _, _, rfl, rfl, (by show (0 : Int) < 9; decide), _, _, rfl, rfl, _, _, _, rfl, by decide, fun r H2 r0 r1 sm => ?_⟩⟩
      refine ⟨_, rfl, _, _, rfl, rfl, hb, ?_⟩
      exact q _ _ (Int.emod_nonneg _ (by omega)) (Int.emod_lt_of_pos _ hb) sm
/-- the three things of a draw: the script's first cells, where it begins, how many were drawn -/
structure DrawAt (H : Hp) (d s : Addr) (ns : List Int) (n : Int) : Prop where
  at_d : H d = some (.lst [.ref s, .int 0, .int n])
  at_s : H s = some (.lst (ns.map V.int))
  n0 : 0 ≤ n
theorem DrawAt.ne {H : Hp} {d s : Addr} {ns : List Int} {n : Int} (D : DrawAt H d s ns n) : s ≠ d := fun e => by
  have a := D.at_s
  rw [e, D.at_d] at a
  cases ns with
  | nil => cases a
  | cons x r => cases a
theorem DrawAt.keep {H H' : Hp} {d s : Addr} {ns : List Int} {n : Int} (D : DrawAt H d s ns n) (h : Same H H') : DrawAt H' d s ns n := ⟨h _ _ D.at_d, h _ _ D.at_s, D.n0⟩
def spNext : Sp := fun vs H Q _ => ∃ (d s : Addr) (ns : List Int) (n b : Int), vs = [.ref d, .int b] ∧ DrawAt H d s ns n ∧ 0 < b ∧ ∀ (r : Int) (H' : Hp), 0 ≤ r → r < b → But d H H' → DrawAt H' d s ns (n + 1) → Q (.int r) H'
theorem sc_next : FnScope ["draw", "bound", "at", "cell"] ["draw", "bound"] (defScope sNext) := ⟨rfl, rfl, rfl, by decide +kernel, rfl, by decide +kernel, by decide +kernel⟩
theorem ok_next {f : Addr} {fd : FuncData} (F : Fun K "_law_next" "_law_next" sNext f fd) (m_int : mg "int" = none) (G_law_cell_at : Ready P w K mg base 1 "_law_cell_at" ["script", "k"] (spCell K)) (G_law_number : Ready P w K mg base 2 "_law_number" ["cell", "k", "bound"] spNumb) :
    FnOk P w K mg base CX0 3 f fd ["draw", "bound"] spNext := by
  refine F.ok sc_next (fun vs H Q E h => ?_) (fun cdv A outer s H vs Q E hr h => ?_)
  · obtain ⟨d, s, ns, n, b, rfl, _⟩ := h
    rfl
  obtain ⟨d, s, ns, n, b, rfl, D, hb, q⟩ := h
  have nd := sc_next.nd
  refine ⟨_, pss_cons (ps_asg (pe_op op_add (pe_ix ix_list (pv 0) pe_int (fun _ _ => rfl)) pe_int) (pg_sub (pv 0) pe_int set_list))
      (pss_cons (ps_set (i := 2) nd rfl (.inl rfl) (pe_op op_fdiv (pe_ix ix_list (pv 0) pe_int (fun _ _ => rfl)) pe_int))
      (pss_cons (ps_set (i := 3) nd rfl (.inl rfl) (pe_op op_add (pe_fn (G_law_cell_at) (hr.mono (by decide)) (pa_cons (pe_ix ix_list (pv 0) pe_int (fun _ _ => rfl)) (pa_cons (pe_op op_add (pe_ix ix_list (pv 0) pe_int (fun _ _ => rfl)) (pv 2)) pa_nil))) (pe_op op_mul pe_int (pv 2))))
      (pss_one (ps_ret (pe_fn (G_law_number) (hr.mono (by decide)) (pa_cons (pv 3) (pa_cons (pe_op op_add (pe_op op_mod (pe_callTy call_int1 (by rfl) m_int boot_int (pa_cons (pe_ix ix_list (pv 0) pe_int (fun _ _ => rfl)) pa_nil)) pe_int) pe_int) (pa_cons (pv 1) pa_nil)))))))), ?_⟩
  refine ⟨_, rfl, d, _, 2, _, rfl, rfl, SqL.of D.at_d, rfl, _, _, rfl, rfl, _, rfl, d, _, _, _, rfl, rfl, D.at_d, rfl, ?_⟩
  have D1 : DrawAt (upd H d (.lst [.ref s, .int 0, .int (n + 1)])) d s ns (n + 1) := ⟨upd_same, by rw [upd_ne D.ne]; exact D.at_s, by have := D.n0; omega⟩
  have b1 : But d H (upd H d (.lst [.ref s, .int 0, .int (n + 1)])) := fun c o hc e => by rw [upd_ne hc]; exact e
  have n0 := D1.n0
  refine ⟨_, rfl, d, _, 2, _, rfl, rfl, SqL.of D1.at_d, rfl, _, _, rfl, rfl, (by show _ ∧ _; decide), ?_⟩
  refine ⟨_, rfl, d, _, 0, _, rfl, rfl, SqL.of D1.at_d, rfl, _, rfl, d, _, 1, _, rfl, rfl, SqL.of D1.at_d, rfl, _, rfl, _, _, rfl, rfl, s, ns, _, rfl, SqL.of D1.at_s, by omega, fun c => ?_⟩
  refine ⟨_, rfl, _, _, rfl, rfl, .inl (by show _ ∧ _; decide), _, _, rfl, rfl, ?_⟩
  refine ⟨_, rfl, _, rfl, d, _, 2, _, rfl, rfl, SqL.of D1.at_d, rfl, .inl ⟨_, rfl, _, _, rfl, rfl, (by show (0 : Int) < 12; decide), _, _, rfl, rfl, _, rfl, ?_⟩⟩
  refine ⟨_, _, _, rfl, by omega, by omega, hb, fun r H' r0 r1 sm => ?_⟩
  exact q r H' r0 r1 (b1.trans (same_but sm)) (D1.keep sm)
/-- a list or a tuple of values -/
def Seq (K : PySem.W.Frag) (H : Hp) (a : Addr) (xs : List V) : Prop := SqL K H a xs ∨ SqT K H a xs
theorem nth {xs : List V} {r : Int} (h0 : 0 ≤ r) (h1 : r < (xs.length : Int)) : ∃ v, v ∈ xs ∧ atI xs r = some v := by
  have er : r = ((r.toNat : Nat) : Int) := by omega
  have hk : r.toNat < xs.length := by omega
  have q : atI xs ((r.toNat : Nat) : Int) = some xs[r.toNat] := atI_nat (List.getElem?_eq_getElem hk)
  rw [← er] at q
  exact ⟨_, List.getElem_mem hk, q⟩
theorem But.sqT {H H' : Hp} {d a : Addr} {xs : List V} (h : But d H H') (hd : ∃ l, H d = some (.lst l)) (q : SqT K H a xs) : SqT K H' a xs := by
  rcases q with (q | ⟨o, q⟩) | q
  · refine .inl (.inl (h _ _ (fun e => ?_) q))
    obtain ⟨l, hl⟩ := hd
    rw [e, hl] at q
    cases q
  · refine .inl (.inr ⟨o, h _ _ (fun e => ?_) q⟩)
    obtain ⟨l, hl⟩ := hd
    rw [e, hl] at q
    cases q
  · exact .inr q
def spPick (K : PySem.W.Frag) : Sp := fun vs H Q _ => ∃ (d s t : Addr) (ns : List Int) (n : Int) (xs : List V), vs = [.ref d, .ref t] ∧ DrawAt H d s ns n ∧ t ≠ d ∧ Seq K H t xs ∧ xs ≠ [] ∧ ∀ (v : V) (H' : Hp), v ∈ xs → But d H H' → DrawAt H' d s ns (n + 1) → Q v H'
theorem sc_pick : FnScope ["draw", "things"] ["draw", "things"] (defScope sPick) := ⟨rfl, rfl, rfl, by decide +kernel, rfl, by decide +kernel, by decide +kernel⟩
theorem But.seq {H H' : Hp} {d a : Addr} {xs : List V} (h : But d H H') (hd : a ≠ d) (q : Seq K H a xs) : Seq K H' a xs := by
  rcases q with ((q | ⟨o, q⟩) | q) | ((q | ⟨o, q⟩) | q)
  · exact .inl (.inl (.inl (h _ _ hd q)))
  · exact .inl (.inl (.inr ⟨o, h _ _ hd q⟩))
  · exact .inl (.inr q)
  · exact .inr (.inl (.inl (h _ _ hd q)))
  · exact .inr (.inl (.inr ⟨o, h _ _ hd q⟩))
  · exact .inr (.inr q)
theorem ok_pick {f : Addr} {fd : FuncData} (F : Fun K "_law_pick" "_law_pick" sPick f fd) (m_len : mg "len" = none) (G_law_next : Ready P w K mg base 3 "_law_next" ["draw", "bound"] spNext) :
    FnOk P w K mg base CX0 4 f fd ["draw", "things"] (spPick K) := by
  refine F.ok sc_pick (fun vs H Q E h => ?_) (fun cdv A outer s H vs Q E hr h => ?_)
  · obtain ⟨d, s, t, ns, n, xs, rfl, _⟩ := h
    rfl
  obtain ⟨d, s, t, ns, n, xs, rfl, D, td, hS, hne, q⟩ := h
  have nd := sc_pick.nd
  refine ⟨_, pss_one (ps_ret (pe_ix ix_seq (pv 1) (pe_fn (G_law_next) (hr.mono (by decide)) (pa_cons (pv 0) (pa_cons (pe_callB call_len_seq (by rfl) m_len PySem.boot_len (pa_cons (pv 1) pa_nil)) pa_nil))) (fun _ _ => rfl))), ?_⟩
  have hl : 0 < (xs.length : Int) := by
    have := List.length_pos_iff.mpr hne
    omega
  refine ⟨_, rfl, _, rfl, _, rfl, t, xs, rfl, hS, d, s, ns, n, _, rfl, D, hl, fun r H' r0 r1 bt D' => ?_⟩
  obtain ⟨v, hv, hat⟩ := nth r0 r1
  rcases bt.seq td hS with hL | hT
  · exact .inl ⟨t, xs, _, _, rfl, rfl, hL, hat, q _ _ hv bt D'⟩
  · exact .inr (.inl ⟨t, xs, _, _, rfl, rfl, hT, hat, q _ _ hv bt D'⟩)
end
end Kx

namespace PySem
namespace BadY
open PySem.W PySem.Calls PyProof.Rows PySem.HandSPX
/-! ### self.thing = v on an exception that has no dict yet -/
abbrev exT : List Value := [.type "Exception", .type "BaseException", .type "object"]
section
open Builtin Builtin.ObjectAttr
variable {prog : Program} {w : World} {A : Around} {R : Result → Shared → Prop} {hp : Heap} {g : Array GenState} {d : Drawn} {t : Nat} {os : OsState}
theorem osa_first {K : Frag} {name : Str} {tk : Tok} {v : Value} {x C : Addr} {fv : Array Value} {cd : ClassData} {bm : List Value}
    (X : K.In hp) (ho : hp.get? x = some { cls := .ref C, data := .fields fv }) (hc : clsIn K C = some cd) (ht : excTail exT bm = true) (hm : cd.mro = .ref C :: bm) (hh : cd.hasDict = true) (hn : findIn K (.ref C) name = some none)
    (q : ∀ h' tk' dx, (∀ b o, b ≠ x → hp.get? b = some o → h'.get? b = some o) → hp.objs.size ≤ dx → dx ≠ x → h'.get? x = some { cls := .ref C, dict := some dx, data := .fields fv } → h'.Ns1 dx (fun y => if y = name then some v else none) → R (.ok (.ret .none)) ⟨h', g, d, tk', os⟩) :
    codeAny (model prog w) A (.call (.builtin "object.__setattr__") ⟨[.ref x, .str name tk, v], []⟩) R ⟨hp, g, d, t, os⟩ := by
  have over : excOver K C exT = true := by
    unfold excOver
    rw [hc]
    show (match cd.mro with | .ref C' :: bm => C' == C && excTail exT bm | _ => false) = true
    rw [hm]
    show (C == C && excTail exT bm) = true
    rw [ht, beq_self_eq_true] <;> rfl
  have free : takerIn K C name = some none := by
    unfold takerIn
    rw [hn] <;> rfl
  have apart : hp.objs.size ≠ x := fun z => absurd (Heap.lt_size ho) (by rw [z]; exact Nat.lt_irrefl _)
  refine osa_openX (s := ⟨hp, g, d, t, os⟩) F.store_Exception X (ox := { cls := .ref C, data := .fields fv }) (od := none) ⟨ho, rfl, rfl, trivial⟩ over free fun b => ?_
  have look : Looks (model prog w) hp (classData C) cd := looks_clsIn X hc
  obtain ⟨c1, c2, c3, c4, c5, c6, c7, c8, c9, c10, c11⟩ := cd
  dsimp only at hh
  subst hh
  show wpAny _ _ (storeInOwnDict (.ref x) (.ref C) (.str name tk) name v b) _ _ _
  unfold storeInOwnDict ownDictForStores
  repeat (first | with_reducible refine look.at ?_ | with_reducible refine wpAny_loadPart_at ho ?_ | with_reducible refine store_in_new ?_ ?_ | wp_step)
  · exact ⟨_, #[], _, (Heap.get?_update_ne _ _ _ _ apart).trans (Heap.get?_push_at rfl rfl), rfl, (by intro e he; simp at he), (fun _ => rfl)⟩
  intro h2 tk2 n2 sb
  have mid : (hp.push { cls := .type "dict", data := .dict #[] }).get? x = some { cls := .ref C, data := .fields fv } := Heap.get?_push_of_some _ ho
  refine q h2 tk2 _ (fun c o hc e => ?_) (Nat.le_refl _) apart ((sb.2 x apart.symm).trans (Heap.get?_update_self _ mid rfl)) n2
  have far : c ≠ hp.objs.size := fun z => absurd (Heap.lt_size e) (by rw [z]; exact Nat.lt_irrefl _)
  rw [sb.2 c far, Heap.get?_update_ne _ _ _ _ hc]
  exact Heap.get?_push_of_some _ e
theorem osa_second {K : Frag} {name : Str} {tk : Tok} {v : Value} {x C dx : Addr} {fv : Array Value} {cd : ClassData} {bm : List Value} {m0 : Str → Option Value} {nl : List Str}
    (X : K.In hp) (ho : hp.get? x = some { cls := .ref C, dict := some dx, data := .fields fv }) (hns : hp.Ns1 dx m0) (hw : Within m0 nl) (hz : nl.length ≤ 1000) (hc : clsIn K C = some cd) (ht : excTail exT bm = true) (hm : cd.mro = .ref C :: bm) (hh : cd.hasDict = true) (hn : findIn K (.ref C) name = some none)
    (q : ∀ h' tk', (∀ b o, b ≠ dx → hp.get? b = some o → h'.get? b = some o) → h'.Ns1 dx (fun y => if y = name then some v else m0 y) → R (.ok (.ret .none)) ⟨h', g, d, tk', os⟩) :
    codeAny (model prog w) A (.call (.builtin "object.__setattr__") ⟨[.ref x, .str name tk, v], []⟩) R ⟨hp, g, d, t, os⟩ := by
  have over : excOver K C exT = true := by
    unfold excOver
    rw [hc]
    show (match cd.mro with | .ref C' :: bm => C' == C && excTail exT bm | _ => false) = true
    rw [hm]
    show (C == C && excTail exT bm) = true
    rw [ht, beq_self_eq_true] <;> rfl
  have free : takerIn K C name = some none := by
    unfold takerIn
    rw [hn] <;> rfl
  obtain ⟨oD, esD, epD, hoD, hdD, _⟩ := hns.count hw
  refine osa_openX (s := ⟨hp, g, d, t, os⟩) F.store_Exception X (ox := { cls := .ref C, dict := some dx, data := .fields fv }) (od := some oD) ⟨ho, rfl, rfl, hoD⟩ over free fun b => ?_
  have look : Looks (model prog w) hp (classData C) cd := looks_clsIn X hc
  obtain ⟨c1, c2, c3, c4, c5, c6, c7, c8, c9, c10, c11⟩ := cd
  dsimp only at hh
  subst hh
  show wpAny _ _ (storeInOwnDict (.ref x) (.ref C) (.str name tk) name v b) _ _ _
  unfold storeInOwnDict ownDictForStores
  repeat (first | with_reducible refine OEX.store_in_old hns hw hz ?_ | with_reducible refine wpAny_loadPart_at ho ?_ | with_reducible refine look.at ?_ | wp_step)
  intro h2 tk2 n2 sb
  exact q h2 tk2 (fun b o hb e => (sb.2 b hb).trans e) n2
end
/-! ### the text of __init__ -/
def iA (p1 p2 p3 : Pos) : Arguments := { posonlyargs := [], args := [{ arg := "self", annotation := none, pos := p1 }, { arg := "line", annotation := none, pos := p2 }, { arg := "column", annotation := none, pos := p3 }], vararg := none, kwonlyargs := [], kw_defaults := [], kwarg := none, defaults := [] }
def iB (q1 q2 q3 q4 q5 q6 q7 q8 : Pos) : List Stmt := [.Assign [.Attribute (.Name "self" q1) "line" q2] (.Name "line" q3) q4, .Assign [.Attribute (.Name "self" q5) "column" q6] (.Name "column" q7) q8]
def iS : Scope := { kind := .function, names := [(PySem.Str.ofString "self", .local), (PySem.Str.ofString "line", .local), (PySem.Str.ofString "column", .local)], isGenerator := false, isCoroutine := false, more := [] }
/-- what the written part says of BadThing, at C, and of its __init__, at fI -/
structure BadTxt (K : Frag) (mg : Str → Option Value) (C fI : Addr) : Prop where
  gC : mg "BadText" = some (.ref C)
  cls : ∃ nm q N bs bm sn sub ab col dd k0 k1 k2 k3 k5, K.lookup C = some (excClassObj nm q C N bs bm true sn sub ab col dd k0 k1 k2 k3 k5 "Exception.__new__") ∧ excTail exT bm = true
  sa : findIn K (.ref C) "__setattr__" = some (some (.builtin "object.__setattr__"))
  ga : findIn K (.ref C) "__getattribute__" = some (some (.builtin "BaseException.__getattribute__"))
  gg : findIn K (.ref C) "__getattr__" = some none
  noN : findIn K (.ref C) "line" = some none
  noW : findIn K (.ref C) "column" = some none
  iC : findIn K (.ref C) "__init__" = some (some (.ref fI))
  tC : typeIn K (.ref fI) = some (.type "function")
  kC : keepIn K (.ref C) = true
  exC : subIn K (.ref C) (.type "BaseException") = some true
  tyC : typeIn K (.ref C) = some (.type "type")
  hdC : hasDictIn K C = true
  te : exmOne K (.ref C) (.ref C) = some true
  fn : ∃ (oc : Value) (od : Option Addr) (doc pm : Value) (an : Option Addr) (cdv ct : Value) (osl : Array (Option Value)) (p1 p2 p3 q1 q2 q3 q4 q5 q6 q7 q8 : Pos),
    K.lookup fI = some ⟨oc, od, .func (fnOf "__init__" "BadText.__init__" (iA p1 p2 p3) (iB q1 q2 q3 q4 q5 q6 q7 q8) iS .none .none doc pm an cdv ct), osl⟩ ∧ codeIn K cdv "BadText.__init__" = true
theorem two_size (v u : Value) : [v, u].length ≤ sizeLine := by
  rw [sizeLine_eq]
  exact (by decide : 2 ≤ 16777216)
theorem kept_but {K : Frag} {h h' : Heap} {x : Addr} (X : K.In h) (hx : K.lookup x = none) (k : ∀ b o, b ≠ x → h.get? b = some o → h'.get? b = some o) : K.In h' := fun a o e =>
  k a o (fun z => by rw [z, hx] at e; cases e) (X a o e)
theorem ldC {M : Model} {s : Shared} {name : Str} {scope : Scope} {L a : Addr} {cd : Value} {m : Str → Option Value} {x : Str} {pos : Pos} {v : Value} {Q : Value → Shared → Prop} {A : Around} {E : Value → Shared → Prop} (hn : s.heap.Ns L m) (hv : m x = some v) (h : Q v s)
    (hk : scope.kind = .function := by rfl) (hl : (envOfC name scope L a cd).kindOf x = some .local := by rfl) (hd : (x == ("__debug__" : Str)) = false := by decide) :
    wpAny M A (eval (.Name x pos) (envOfC name scope L a cd)) Q E s := wpAny_Name (wpAny_loadName_local hk hl hn hv h) hd
/-- what __init__ leaves of a fresh exception at x -/
structure InitEnd (h h' : Heap) (x C dx t1 : Addr) (v u : Value) : Prop where
  keep : ∀ b o, b ≠ x → h.get? b = some o → h'.get? b = some o
  obj : h'.get? x = some { cls := .ref C, dict := some dx, data := .fields #[.ref t1, .none, .none, .none, .bool false, .none] }
  dbig : h.objs.size ≤ dx
  dne : dx ≠ x
  ns : h'.Ns1 dx (fun y => if y = "column" then some u else if y = "line" then some v else none)
/-- a made BadThing -/
structure OwnMade (h h' : Heap) (e C d : Addr) (v u : Value) : Prop where
  keep : ∀ b o, h.get? b = some o → h'.get? b = some o
  new : h.objs.size ≤ e
  obj : ∃ oe vs, h'.get? e = some oe ∧ oe.cls = .ref C ∧ oe.dict = some d ∧ oe.data = .fields vs ∧ vs[1]? = some .none
  dbig : h.objs.size ≤ d
  dne : d ≠ e
  ns : h'.Ns1 d (fun y => if y = "column" then some u else if y = "line" then some v else none)
section
variable {prog : Program} {w : World} {A : Around} {E : Value → Shared → Prop} {R : Result → Shared → Prop} {s : Shared} {K : Frag} {mg : Str → Option Value} {C fI : Addr}
theorem within_one {v : Value} : Within (fun y => if y = ("line" : Str) then some v else none) ["line"] := fun y hy => by
  by_cases h : y = ("line" : Str)
  · rw [h]
    exact List.mem_cons_self
  · exact absurd (if_neg h) hy
theorem bad_init (T : BadTxt K mg C fI) {x t0 : Addr} {v u : Value} (X : K.In s.heap) (hlim : s.heap.NoLimit) (hx : s.heap.get? x = some (excO C t0)) (hnx : K.lookup x = none) (hroom : A.depth < recursionLimit)
    (hq : ∀ h' tk dx, InitEnd s.heap h' x C dx t0 v u → R (.ok (.ret .none)) { s with heap := h', toks := tk }) :
    codeAny (model prog w) A (.call (.ref fI) ⟨[.ref x, v, u], []⟩) R s := by
  obtain ⟨oc, od, doc, pm, an, cdv, ct, osl, p1, p2, p3, q1, q2, q3, q4, q5, q6, q7, q8, ho, hcd⟩ := T.fn
  obtain ⟨nm, q, N, bs, bm, sn, sub, ab, col, dd, k0, k1, k2, k3, k5, hC, hbm⟩ := T.cls
  have hcl : clsIn K C = some { name := nm, bases := bs, mro := .ref C :: bm, ns := N, qualname := q, hasDict := true, slotNames := sn, subclasses := sub, abstract := ab, collection := col, hasDel := false } := by unfold clsIn; rw [hC] <;> rfl
  refine Att.call_fn (binds := [("self", .ref x), ("line", v), ("column", u)]) X hlim ho hcd hroom (BindsTo.of_eq (by first | rfl | with_unfolding_all rfl)) (by first | rfl | decide | with_unfolding_all rfl) (fun s₁ IC => ?_) rfl rfl rfl
  obtain ⟨h₁, tk₁, rfl⟩ := IC.toInCall.same
  have k : ∀ b o, s.heap.get? b = some o → h₁.get? b = some o := IC.toInCall.keep
  have hn := IC.toInCall.ns
  have hxL : s.heap.objs.size ≠ x := Nat.ne_of_gt (Heap.lt_size hx)
  have X₁ : K.In h₁ := X.keeps k
  have hx₁ := k _ _ hx
  -- self.by = by
  show wpAny _ _ (execs _ _) _ _ _
  refine wpAny_execs_cons (plainObj_wpAny_Assign_Attribute ?_)
  refine ldC (v := v) hn (by first | rfl | with_unfolding_all rfl | kernel_rfl) (ldC (v := .ref x) hn (by first | rfl | with_unfolding_all rfl | kernel_rfl) ?_)
  refine set_plain X₁ (ox := excO C t0) (od := none) ⟨hx₁, rfl, rfl, trivial⟩ T.sa ?_
  refine osa_first X₁ hx₁ hcl (show excTail exT bm = true from hbm) rfl rfl T.noN (fun h₃ tk₃ dx k₃ dn dne hx₃ hn₃ => ?_)
  have xL : s.heap.objs.size ≠ x := hxL
  have z : s.heap.objs.size < h₁.objs.size := hn.lt
  have X₃ : K.In h₃ := kept_but X₁ hnx k₃
  have hn₃' := hn.at fun o e => k₃ _ o xL e
  -- self.why = why
  show wpAny _ _ (execs _ _) _ _ _
  refine wpAny_execs_cons (plainObj_wpAny_Assign_Attribute ?_)
  refine ldC (v := u) hn₃' (by first | rfl | with_unfolding_all rfl | kernel_rfl) (ldC (v := .ref x) hn₃' (by first | rfl | with_unfolding_all rfl | kernel_rfl) ?_)
  have cnt : Within (fun y => if y = "line" then some v else none) ["line"] := within_one
  obtain ⟨oD, esD, epD, hoD, hdD, _⟩ := hn₃.count cnt
  refine set_plain X₃ (ox := { cls := .ref C, dict := some dx, data := .fields #[.ref t0, .none, .none, .none, .bool false, .none] }) (od := some oD) ⟨hx₃, rfl, rfl, hoD⟩ T.sa ?_
  refine osa_second X₃ hx₃ hn₃ cnt (by decide) hcl (show excTail exT bm = true from hbm) rfl rfl T.noW (fun h₄ tk₄ k₄ hn₄ => ?_)
  show wpAny _ _ (execs _ _) _ _ _
  have hdx : s.heap.objs.size ≤ dx := Nat.le_of_lt (Nat.lt_of_lt_of_le z dn)
  exact wpAny_execs_nil (hq h₄ tk₄ dx ⟨fun b o hb e => k₄ b o (Nat.ne_of_lt (Nat.lt_of_lt_of_le (Heap.lt_size e) hdx)) (k₃ b o hb (k b o e)), k₄ _ _ (Ne.symm dne) hx₃, hdx, dne, hn₄⟩)
theorem bad_made (T : BadTxt K mg C fI) {v u : Value} (X : K.In s.heap) (hlim : s.heap.NoLimit) (hroom : A.depth + 1 < recursionLimit)
    (hq : ∀ h' tk e d, OwnMade s.heap h' e C d v u → R (.ok (.ret (.ref e))) { s with heap := h', toks := tk }) :
    codeAny (model prog w) A (.call (.ref C) ⟨[v, u], []⟩) R s := by
  obtain ⟨nm, q, N, bs, bm, sn, sub, ab, col, dd, k0, k1, k2, k3, k5, hC, hbm⟩ := T.cls
  obtain ⟨hp, g, dr, tk, os⟩ := s
  have k : ∀ b o, hp.get? b = some o → ((hp.push (kdv_tup [v, u])).push (excO C hp.objs.size)).get? b = some o := fun b o e => Heap.get?_push_of_some _ (Heap.get?_push_of_some _ e)
  have hget : ((hp.push (kdv_tup [v, u])).push (excO C hp.objs.size)).get? (hp.objs.size + 1) = some (excO C hp.objs.size) := by heap_get
  have hnx : K.lookup (hp.objs.size + 1) = none := by
    cases e : K.lookup (hp.objs.size + 1) with
    | none => rfl
    | some o =>
      have z : hp.get? (hp.objs.size + 1) = some o := X _ _ e
      exact absurd (Nat.lt_of_succ_lt (Heap.lt_size z)) (Nat.lt_irrefl _)
  refine call_own F.excBase_Exception (fun X => excTail_contains X bm hbm) (X _ _ hC) (looks_findIn X T.iC) (fun self => bind_fn X self T.tC) (two_size v u) ?_
  refine bad_init (s := ⟨(hp.push (kdv_tup [v, u])).push (excO C hp.objs.size), g, dr, tk, os⟩) T (X.keeps k) (hlim.keeps k) hget hnx ?_ fun h' tk' dx ⟨k', hx, dn, dne, hns⟩ => ?_
  · show A.depth + 1 < recursionLimit
    exact hroom
  · have old : ∀ b o, hp.get? b = some o → h'.get? b = some o := fun b o e => k' b o (Nat.ne_of_lt (Nat.lt_succ_of_lt (Heap.lt_size e))) (k b o e)
    have z : hp.objs.size + 1 + 1 ≤ dx := by
      first
        | (simpa only [Heap.size_push] using dn)
        | exact dn
        | (have q := dn; rw [Heap.size_push, Heap.size_push] at q; exact q)
    exact ⟨rfl, hq h' tk' (hp.objs.size + 1) dx ⟨old, Nat.le_succ _, ⟨_, _, hx, rfl, rfl, rfl, rfl⟩, Nat.le_trans (Nat.le_trans (Nat.le_succ _) (Nat.le_succ _)) z, dne, hns⟩⟩
end
end BadY
end PySem
namespace Kx
open PySem PySem.Spec PyProof.Rows L2
theorem relO_bad {v u : V} {v' u' : Value} (r : RelV v v') (ru : RelV u u') (f : Str) : RelO (List.lookup f [(("line" : Str), v), ("column", u)]) (if f = "column" then some u' else if f = "line" then some v' else none) := by
  by_cases hw : f = "column"
  · subst hw
    rw [if_pos rfl]
    exact ru
  · rw [if_neg hw]
    by_cases hn : f = "line"
    · subst hn
      rw [if_pos rfl]
      exact r
    · rw [if_neg hn]
      have q1 : (f == ("line" : Str)) = false := by simpa using hn
      have q2 : (f == ("column" : Str)) = false := by simpa using hw
      have q3 : List.lookup f [(("line" : Str), v), ("column", u)] = none := by simp [List.lookup, q1, q2]
      rw [q3]
      trivial
section
variable {X : Cx} {C fI : Addr}
/-- BadText(e, f) -/
def tMkBad2 (C : Addr) (ta : TA) : L2.St → Hp → XK → Prop := fun σ H Q => ta σ H fun vs H1 => ∃ v u, vs = [v, u] ∧ ∀ d, H1 d = none → Q (.ref C) (some d) (upd H1 d (.xd [(("line" : Str), v), ("column", u)]))
theorem pmk_bad2 {a b : Expr} {ta : TA} {p pos : Pos} {k : Nat} (T : PySem.BadY.BadTxt X.K X.mg C fI) (hr : Room k X.A) (ha : PA X [a, b] ta) (hg : Gl X "BadText" := by rfl)
    (he : starEach (a :: [b]) X.env = (false, eval a X.env) :: starEach [b] X.env := by rfl) (hpl : (backTo pos (starEach [b] X.env)).any (·.1) = false := by rfl) :
    PMk X (.Call (.Name "BadText" p) [a, b] [] pos) (tMkBad2 C ta) := by
  intro pins s σ H Q I h
  refine wpAny_Call_Name_kw (ld_glob I hg T.gC ?_)
  refine PySem.W.callWith_K (h₀ := X.base) I.ok.mod.kin T.kC (thn (ha.run pos pins s σ H _ I h) fun us s1 hh => ?_) he hpl
  obtain ⟨vs, H1, I1, r1, v, u, ev, q1⟩ := hh
  subst ev
  refine ⟨I1.kIn, ?_⟩
  cases r1 with
  | cons rv rn =>
    rename_i v' us'
    cases rn with
    | cons ru rn =>
      rename_i u' us2
      cases rn
      show wpAny _ _ (call (.ref C) [v', u']) _ _ _
      have hlim := I1.nolimit
      obtain ⟨hp, g, dr, tk, os⟩ := s1
      refine wpAny_call (PySem.BadY.bad_made T I1.kIn hlim (by have := hr.dp; omega) fun h' tk' e d M => ?_)
      show MkP X pins σ Q (.ref e) ⟨h', g, dr, tk', os⟩
      obtain ⟨oe, fv, hoe, hc, hd, hdat, h1⟩ := M.obj
      have hns := M.ns
      obtain ⟨G', g1, g2⟩ := restrict h' fun b => decide (b ≠ e)
      have gk : ∀ b, b ≠ e → G'.get? b = h'.get? b := fun b hb => g1 b (decide_eq_true hb)
      have ge : G'.get? e = none := g2 e (by simp)
      have old : ∀ b o, hp.get? b = some o → G'.get? b = some o := fun b o q => (gk b (Nat.ne_of_lt (Nat.lt_of_lt_of_le (Heap.lt_size q) M.new))).trans (M.keep b o q)
      have ob : ObjOk X.prog X.w (upd H1 d (.xd [(("line" : Str), v), ("column", u)])) G' d (.xd [(("line" : Str), v), ("column", u)]) :=
        ⟨_, hns.at (fun o q => (gk d M.dne).trans q), fun f => relO_bad rv ru f⟩
      have J : Inv X pins σ (upd H1 d (.xd [(("line" : Str), v), ("column", u)])) ⟨G', g, dr, tk', os⟩ := I1.laid (t' := tk') old M.dbig ob
      refine ⟨e, oe, fv, ⟨G', g, dr, tk', os⟩, _, .ref C, some d, rfl, J, fun b o q => ?_, ge, hoe, ⟨hc, hd⟩, hdat, h1, ?_, rfl, I1.bare, raises_own T.exC T.tyC, q1 d (I1.hok.fresh M.dbig)⟩
      · by_cases hb : b = e
        · have q' : G'.get? b = some o := q
          rw [hb, ge] at q'; cases q'
        · exact (gk b hb).symm.trans q
      · rw [upd_ne (Ne.symm M.dne)]
        exact I1.hok.fresh M.new
/-- raise BadText(e, f) -/
def tRaiseBad2 (C : Addr) (W : WX) (ta : TA) : TS := fun _ σ H => tMkBad2 C ta σ H fun cls d H' => W cls d σ H'
theorem ps_raiseBad2 {a b : Expr} {ta : TA} {W : WX} {p pos pos2 : Pos} {k : Nat} (hc : X.calm = true) (T : PySem.BadY.BadTxt X.K X.mg C fI) (hr : Room k X.A) (tk : Takes X W) (ha : PA X [a, b] ta) (hg : Gl X "BadText" := by rfl)
    (he : starEach (a :: [b]) X.env = (false, eval a X.env) :: starEach [b] X.env := by rfl) (hpl : (backTo pos (starEach [b] X.env)).any (·.1) = false := by rfl) :
    PS X (.Raise (some (.Call (.Name "BadText" p) [a, b] [] pos)) none pos2) (tRaiseBad2 C W ta) := ps_raise hc tk (pmk_bad2 T hr ha hg he hpl)
/-- error.name, low the exception that the suite holds (at a; its class cls, its dict d) -/
def tByName (C : Addr) (a : Addr) (cls : Value) (d : Option Addr) (te : TE) : TE := fun σ H Q => te σ H fun x H1 => x = .ref a ∧ cls = .ref C ∧ ∃ (dd : Addr) (v u : V), d = some dd ∧ H1 dd = some (.xd [(("line" : Str), v), ("column", u)]) ∧ Q v H1
theorem pe_byName {a : Addr} {oe : Obj} {cls : Value} {d : Option Addr} {pn : List (Addr × Obj)} {e : Expr} {te : TE} {pos : Pos} (T : PySem.BadY.BadTxt X.K X.mg C fI) (hz : Zc cls d oe) (hf : ∃ vs, oe.data = .fields vs) (he : PE (X.suite a ((a, oe) :: pn)) e te)
    (hb : attributeBase e "line" X.env (eval e X.env) = eval e X.env := by rfl) :
    PE (X.suite a ((a, oe) :: pn)) (.Attribute e "line" pos) (tByName C a cls d te) := by
  refine ⟨fun pins s σ H Q I h => ?_⟩
  refine attr_of hb (thn (he.run pins s σ H _ I h) fun ue s1 hh => ?_)
  obtain ⟨x, H1, I1, rx, ex, ec, dd, v, u, ed, ea, q⟩ := hh
  subst ex
  obtain rfl : ue = Value.ref a := rx
  subst ec
  subst ed
  obtain ⟨ha, _⟩ := I1.pin (a, oe) (List.mem_append_left _ List.mem_cons_self)
  obtain ⟨vs, hd⟩ := hf
  have hx : ObjOk X.prog X.w H1 s1.heap dd (.xd [(("line" : Str), v), ("column", u)]) := I1.hok dd _ ea
  obtain ⟨mA, hns, hr⟩ := hx
  obtain ⟨od, ho, hl⟩ := lookIn_ns hns
  have l : List.lookup ("line" : Str) [(("line" : Str), v), ("column", u)] = some v := by simp [List.lookup]
  obtain ⟨u1, hu, ru⟩ := RelO.some_of (v := v) (o := mA "line") (by rw [← l]; exact hr "line")
  have J : PySem.W.InstAt s1.heap a oe C (some od) := ⟨ha, hz.1, by unfold PySem.W.notCls; rw [hd] <;> rfl, by rw [hz.2]; exact ho⟩
  exact HandSPX.exc_get I1.kIn J T.ga T.gg T.exC (PySem.W.findObj_own T.hdC T.noN rfl (by rw [hl, hu])) (handed_of ru) ⟨v, H1, I1.tok _, ru, q⟩
/-- error.name, low the exception that the suite holds (at a; its class cls, its dict d) -/
def tByColumn (C : Addr) (a : Addr) (cls : Value) (d : Option Addr) (te : TE) : TE := fun σ H Q => te σ H fun x H1 => x = .ref a ∧ cls = .ref C ∧ ∃ (dd : Addr) (v u : V), d = some dd ∧ H1 dd = some (.xd [(("line" : Str), v), ("column", u)]) ∧ Q u H1
theorem pe_byColumn {a : Addr} {oe : Obj} {cls : Value} {d : Option Addr} {pn : List (Addr × Obj)} {e : Expr} {te : TE} {pos : Pos} (T : PySem.BadY.BadTxt X.K X.mg C fI) (hz : Zc cls d oe) (hf : ∃ vs, oe.data = .fields vs) (he : PE (X.suite a ((a, oe) :: pn)) e te)
    (hb : attributeBase e "column" X.env (eval e X.env) = eval e X.env := by rfl) :
    PE (X.suite a ((a, oe) :: pn)) (.Attribute e "column" pos) (tByColumn C a cls d te) := by
  refine ⟨fun pins s σ H Q I h => ?_⟩
  refine attr_of hb (thn (he.run pins s σ H _ I h) fun ue s1 hh => ?_)
  obtain ⟨x, H1, I1, rx, ex, ec, dd, v, u, ed, ea, q⟩ := hh
  subst ex
  obtain rfl : ue = Value.ref a := rx
  subst ec
  subst ed
  obtain ⟨ha, _⟩ := I1.pin (a, oe) (List.mem_append_left _ List.mem_cons_self)
  obtain ⟨vs, hd⟩ := hf
  have hx : ObjOk X.prog X.w H1 s1.heap dd (.xd [(("line" : Str), v), ("column", u)]) := I1.hok dd _ ea
  obtain ⟨mA, hns, hr⟩ := hx
  obtain ⟨od, ho, hl⟩ := lookIn_ns hns
  have l : List.lookup ("column" : Str) [(("line" : Str), v), ("column", u)] = some u := by
    have q1 : (("column" : Str) == ("line" : Str)) = false := by decide +kernel
    simp [List.lookup, q1]
  obtain ⟨u1, hu, ru⟩ := RelO.some_of (v := u) (o := mA "column") (by rw [← l]; exact hr "column")
  have J : PySem.W.InstAt s1.heap a oe C (some od) := ⟨ha, hz.1, by unfold PySem.W.notCls; rw [hd] <;> rfl, by rw [hz.2]; exact ho⟩
  exact HandSPX.exc_get I1.kIn J T.ga T.gg T.exC (PySem.W.findObj_own T.hdC T.noW rfl (by rw [hl, hu])) (handed_of ru) ⟨u, H1, I1.tok _, ru, q⟩
end
end Kx


namespace Kx
open PySem PySem.Spec PyProof.Rows L2
/-! ### a list comprehension whose item may raise -/
section
variable {M : Model} {A : Around} {E : Value → Shared → Prop} {s : Shared} {env : Env}
/-- behind the block: as the library's, but the frame of the block's names is told -/
def cpX (M : Model) (A : Around) (E : Value → Shared → Prop) (use : Option (Value → Sem Unit)) (Q : Value → Shared → Prop) (acc : Value) (cenv : Env) (r : Result) (s' : Shared) : Prop :=
  match r, use with
  | .ok _, none => ∃ m, s'.heap.Ns cenv.locals m ∧ ∀ h', Heap.SameBut cenv.locals s'.heap h' → Q acc { s' with heap := h' }
  | .ok _, some u => wpAny M A (u acc) (fun _ s'' => ∃ m, s''.heap.Ns cenv.locals m ∧ ∀ h', Heap.SameBut cenv.locals s''.heap h' → Q .none { s'' with heap := h' }) E s'
  | .error x, _ => ∃ m, s'.heap.Ns cenv.locals m ∧ ∀ h', Heap.SameBut cenv.locals s'.heap h' → ∀ e' : Env, e'.frame = cenv.frame → wpAny M A (passOn "comprehension.variables-let-go" x e' : Sem Value) (fun _ _ => False) E { s' with heap := h' }
theorem comprehension_X {e : Expr} {scope : Scope} {pos : Pos} {newAcc first : Sem Value} {g : Comprehension} {gs : List Comprehension} {cl : List (Str × Addr)} {use : Option (Value → Sem Unit)}
    {Q : Value → Shared → Prop}
    (hcl : clausesOf e = g :: gs) (hs : ∀ x, foldedSetIterable g.iter env x = pure x) (hclos : closureFor scope env = pure cl)
    (hkind : scope.kind = .function) (hnames : ∀ x ∈ scope.names, x.2 = .local → scope.names.lookup x.1 = some .local)
    (h : wpAny M A first (fun x s₁ => wpAny M A (pyIter x) (fun it s₂ => wpAny M A newAcc (fun acc s₃ =>
      wpAny M A (newFunctionEnv scope env.globals cl [] env.qual none .none (some env)) (fun cenv s₄ =>
        codeAny M A (.compStart e 0 it acc { cenv with scope := relabel scope env }) (cpX M A E use Q acc cenv) s₄) E s₃) E s₂) E s₁) E s) :
    wpAny M A (comprehension e scope env pos newAcc false first use) Q E s := by
  unfold comprehension
  rw [hclos, hcl]
  refine wpAny_bind (wpAny_mono h (fun x s₁ h₁ => wpAny_bind (wpAny_standAt (wpAny_bind (wpAny_of_eq (hs x) (wpAny_bind (wpAny_holding (wpAny_mono h₁ (fun it s₂ h₂ =>
    wpAny_standIf (wpAny_bind (wpAny_mono h₂ (fun acc s₃ h₃ => wpAny_bind (wpAny_pure (wpAny_bind (wpAny_mono h₃ (fun cenv s₄ h₄ => ?_) fun _ _ h' => h')))) fun _ _ h' => h')))
      fun _ _ h' => h'))))))) fun _ _ h' => h')
  dsimp only
  have hv : ∀ x ∈ (scope.names.filter fun x => (x.2 == .local || x.2 == .cell) && x.1 != (".0" : Str)).reverse, x.2 = .local →
      Env.kindOf { cenv with scope := relabel scope env } x.1 = some .local := fun x hx hl => lookup_relabel_local (hnames x (List.mem_filter.mp (List.mem_reverse.mp hx)).1 hl)
  have hv' : ∀ x ∈ (scope.names.filter fun x => (x.2 == .local || x.2 == .cell) && x.1 != (".0" : Str)).reverse.drop 1 ++ (scope.names.filter fun x => (x.2 == .local || x.2 == .cell) && x.1 != (".0" : Str)).reverse.take 1,
      x.2 = .local → Env.kindOf { cenv with scope := relabel scope env } x.1 = some .local := fun x hx hl => by
    rcases List.mem_append.mp hx with h1 | h1
    · exact hv x (List.mem_of_mem_drop h1) hl
    · exact hv x (List.mem_of_mem_take h1) hl
  refine wpAny_holding (wpAny_bind (wpAny_attempt (wpAny_holding (wpAny_run (codeAny_mono h₄ fun r s' hr => ?_)))))
  cases r with
  | ok f =>
    cases use with
    | none =>
      obtain ⟨m, hn, hr⟩ := hr
      exact wpAny_bind (wpAny_holding (wpAny_comp_letGo (cenv := { cenv with scope := relabel scope env }) hkind _ s' m hv hn fun h' m' _ hs' => wpAny_pure (hr h' hs')))
    | some u =>
      refine wpAny_bind (wpAny_rule (wpAny_bind (wpAny_holding (wpAny_mono hr (fun _ s'' hr' => ?_) fun _ _ h' => h'))))
      obtain ⟨m, hn, hr'⟩ := hr'
      exact wpAny_bind (wpAny_comp_letGo (cenv := { cenv with scope := relabel scope env }) hkind _ s'' m hv' hn fun h' m' _ hs' => wpAny_pure (hr' h' hs'))
  | error x =>
    have hr' : ∃ m, s'.heap.Ns cenv.locals m ∧ ∀ h', Heap.SameBut cenv.locals s'.heap h' → ∀ e' : Env, e'.frame = cenv.frame → wpAny M A (passOn "comprehension.variables-let-go" x e' : Sem Value) (fun _ _ => False) E { s' with heap := h' } := by cases use <;> exact hr
    obtain ⟨m, hn, hr⟩ := hr'
    exact wpAny_bind (wpAny_holding (wpAny_comp_letGo (cenv := { cenv with scope := relabel scope env }) hkind _ s' m hv hn fun h' m' _ hs' => wpAny_mono (hr h' hs' _ rfl) (fun _ _ f => f.elim) fun _ _ y => y))
/-- noting depends on the frame alone -/
theorem note_frame {e : Value} {env' : Env} (h : env'.frame = env.frame) : noteFrame e env' = noteFrame e env := by
  unfold noteFrame PySem.frameOf
  rw [h]
theorem frames_but {B B' h h' : Heap} {C : Addr} (k : ∀ b, b ≠ C → h'.get? b = h.get? b) (g : ∀ b, B.get? b = none → B'.get? b = none) : ∀ {l : List Env}, (∀ L ∈ frs l, L ≠ C) → h.FunFrames B l → h'.FunFrames B' l
  | [], _, _ => trivial
  | env :: l, hn, hl => by
    obtain ⟨hk, ⟨L, o, hf, hb, ho, hd⟩, hr⟩ := hl
    exact ⟨hk, ⟨L, o, hf, g L hb, (k L (hn L (List.mem_filterMap.mpr ⟨env, List.mem_cons_self, hf⟩))).trans ho, hd⟩,
      frames_but k g (fun b hb => by
        obtain ⟨e, he, q⟩ := List.mem_filterMap.mp hb
        exact hn b (List.mem_filterMap.mpr ⟨e, List.mem_cons_of_mem _ he, q⟩)) hr⟩
theorem frames_up {B h h' : Heap} (up : h.UpToSlots h') : ∀ {l : List Env}, h.FunFrames B l → h'.FunFrames B l
  | [], _ => trivial
  | env :: l, hl => by
    obtain ⟨hk, ⟨L, o, hf, hb, ho, hd⟩, hr⟩ := hl
    obtain ⟨sl, e⟩ := up L o ho hd
    exact ⟨hk, ⟨L, _, hf, hb, e, hd⟩, frames_up up hr⟩
end
section
variable {X : Cx}
/-- what a block lets out: an exception of a call in it -/
abbrev bxe (X : Cx) (s : Shared) (H : Hp) (scope : Scope) (cenv : Env) (fp : List Addr) (E : XK) : Value → Shared → Prop := fun u s' =>
  ∃ σ9 H9 s9, Inv (X.blk s H scope cenv fp) [] σ9 H9 s9 ∧ CX X.prog X.w X.stack H9 s9 E u s'
abbrev blkX (X : Cx) (s : Shared) (H : Hp) (scope : Scope) (cenv : Env) (fp : List Addr) (E : XK) : Cx := (X.blk s H scope cenv fp).tr [] (bxe X s H scope cenv fp E)
theorem toX {pins : List (Addr × Obj)} {σ : L2.St} {H H1 : Hp} {s s1 : Shared} {scope : Scope} {cenv : Env} {fp : List Addr} {E : XK} (I : Inv (X.blk s H scope cenv fp) [] σ H1 s1) : Inv (blkX X s H scope cenv fp E) [] σ H1 s1 := I.toTry _
theorem ofX {pins : List (Addr × Obj)} {σ : L2.St} {H H1 : Hp} {s s1 : Shared} {scope : Scope} {cenv : Env} {fp : List Addr} {E : XK} (I : Inv (blkX X s H scope cenv fp E) pins σ H1 s1) : Inv (X.blk s H scope cenv fp) [] σ H1 s1 :=
  Inv.ofTry (X := X.blk s H scope cenv fp) (pins := []) (pn' := pins) I I.ok.ofTry
/-- a def that may raise, called in such a block -/
theorem passes_blk {s : Shared} {H : Hp} {scope : Scope} {cenv : Env} {fp : List Addr} {E : XK} : Passes (CX X.prog X.w) (blkX X s H scope cenv fp E) E := fun _ σ H1 s1 _ _ I c => ⟨σ, H1, s1, ofX I, c⟩
theorem hide_ne {h : Heap} {C b : Addr} {o : Obj} (n : b ≠ C) (e : h.get? b = some o) : (PySem.W.hideAll h [C]).get? b = some o := PySem.W.hideAll_get _ e fun hm => n (by simpa using hm)
theorem hide_none {h : Heap} {C b : Addr} (e : h.get? b = none) : (PySem.W.hideAll h [C]).get? b = none := by
  cases q : (PySem.W.hideAll h [C]).get? b with
  | none => rfl
  | some o =>
    have z := PySem.W.of_hideAll _ q
    rw [e] at z; cases z
theorem hide_self {h : Heap} {C : Addr} {o : Obj} (e : h.get? C = some o) : (PySem.W.hideAll h [C]).get? C = none := by
  cases q : (PySem.W.hideAll h [C]).get? C with
  | none => rfl
  | some o' => rw [PySem.W.hideAll_none [C] (by simp)] at q; cases q
theorem blk_out {pins : List (Addr × Obj)} {σ : L2.St} {H3 : Hp} {s3 s' : Shared} {scope : Scope} {cenv : Env} {fp : List Addr} {W : WX} {use : Option (Value → Sem Unit)} {Qf : Value → Shared → Prop} {acc u : Value}
    (I3 : Inv X pins σ H3 s3) (hst : X.stack = X.env :: X.outer) (hfl : X.env.frame = some X.env.locals) (tk : Takes X W) (f3 : ∀ b ∈ fp, FpOk X pins H3 b ∧ b < s3.heap.objs.size)
    (cL : cenv.locals = s3.heap.objs.size) (cF : cenv.frame = X.env.frame) (x : bxe X s3 H3 scope cenv fp (fun cls d H' => W cls d σ H') u s') :
    notedBy (model X.prog X.w) X.A cenv (fun e s'' => cpX (model X.prog X.w) X.A X.xe use Qf acc cenv (.error e) s'') u s' := by
  obtain ⟨σ9, H9, s9, I9, a, B, H', cls, d, rfl, fl, hok, ub, na, os, ag, hE⟩ := x
  have I7 : Inv X pins σ H9 s9 := I3.call' (ch := fp) I9.os I9.base I9.hok I9.bare fun b hb => ⟨(f3 b hb).1.2.2.2.1, (f3 b hb).1.2.1, (f3 b hb).1.2.2.2.2.1, (f3 b hb).1.2.2.2.2.2⟩
  have nC : H9 cenv.locals = none := I9.free
  obtain ⟨m, hnC, _⟩ := id I9.loc
  have hnC : s9.heap.Ns cenv.locals m := hnC
  have fC : FpOk X pins H9 cenv.locals := I3.fpOk (Nat.le_of_eq cL.symm) nC
  generalize hCC : cenv.locals = C at nC hnC fC
  obtain ⟨f0, f1, f2, f3', f4, f5⟩ := fC
  have hfr : X.A.frames = some (X.env :: X.outer) := by rw [I3.ok.frames, hst]
  have nCs : C ∉ frs X.stack := fun hm => by
    rcases List.mem_cons.mp (I3.stkSub C hm) with z | z
    · exact f1 z
    · exact f2 z
  show wpAny _ _ (noteFrame (.ref a) cenv) _ _ _
  rw [note_frame cF]
  rw [hst] at fl
  refine HandSPX.looks_onZ Zc.steady hfr hfl fl fun h1 hh1 up1 => ?_
  obtain ⟨oC, esC, epC, hoC, hdC, rC⟩ := id hnC
  have bC : B.get? C = some oC := ub.keep C oC hoC nC nCs
  obtain ⟨k1, k2, k3, k4⟩ := hh1
  have h1C : h1.get? C = some oC := k1 _ _ bC
  have hn1 : h1.Ns C m := hnC.at fun o e => by rw [hoC] at e; cases e; exact h1C
  refine ⟨m, by rw [hCC]; exact hn1, fun h2 sb e' he' => ?_⟩
  rw [hCC] at sb
  have kk : ∀ b, b ≠ C → h2.get? b = h1.get? b := sb.2
  obtain ⟨oe, vs, T, oT, ts, he, hz, hd, hv1, hnT, hTe, hT, hdT, ht3⟩ := k4
  have aC : a ≠ C := fun z => by
    rw [z, h1C] at he; cases he
    rw [hdC] at hd; cases hd
  have TC : T ≠ C := fun z => by
    rw [z, h1C] at hT; cases hT
    rw [hdC] at hdT; cases hdT
  have g1 : ∀ b o, (PySem.W.hideAll B [C]).get? b = some o → B.get? b = some o := fun b o e => PySem.W.of_hideAll _ e
  have g3 : (PySem.W.hideAll B [C]).get? C = none := hide_self bC
  have gn : ∀ b o, (PySem.W.hideAll B [C]).get? b = some o → b ≠ C := fun b o e z => by rw [z, g3] at e; cases e
  have fne : ∀ L ∈ frs (X.env :: X.outer), L ≠ C := fun L hL z => nCs (by rw [hst, ← z]; exact hL)
  have hh2 : HandSPX.HeldZ (PySem.W.hideAll B [C]) (X.env :: X.outer) a (Zc cls d) X.env.locals h2 :=
    ⟨fun b o e => (kk b (gn b o e)).trans (k1 b o (g1 b o e)), hide_none k2, frames_but kk (fun b e => hide_none e) fne k3, ⟨oe, vs, T, oT, ts, (kk a aC).trans he, hz, hd, hv1, hide_none hnT, hTe, (kk T TC).trans hT, hdT, ht3⟩⟩
  have fin : ∀ h4, HandSPX.HeldZ (PySem.W.hideAll B [C]) (X.env :: X.outer) a (Zc cls d) X.env.locals h4 → h2.UpToSlots h4 → X.xe (.ref a) { s' with heap := h4 } := fun h4 hh4 up4 => by
    refine tk _ _ ?_
    have I8 : Inv X pins σ H9 { s9 with heap := PySem.W.hideAll s9.heap [C], toks := s9.toks } := I7.turned (fun b o hb e => hide_ne hb e) nC f1 f3' f4 f5
    obtain ⟨G, r1, r2⟩ := restrict h4 fun b => ((PySem.W.hideAll B [C]).get? b).isSome || decide (b ∈ frs X.stack)
    have st : (PySem.W.hideAll B [C]).StaysIn h4 := hh4.1
    have gB : ∀ b o, (PySem.W.hideAll B [C]).get? b = some o → G.get? b = some o := fun b o e => by
      rw [r1 b (by simp [e])]
      exact st b o e
    have gF : ∀ b, b ∈ frs X.stack → G.get? b = h4.get? b := fun b hb => r1 b (by simp [hb])
    have og : ∀ b o, G.get? b = some o → h4.get? b = some o ∧ (((PySem.W.hideAll B [C]).get? b).isSome = true ∨ b ∈ frs X.stack) := fun b o e => by
      cases q : (((PySem.W.hideAll B [C]).get? b).isSome || decide (b ∈ frs X.stack)) with
      | false => rw [r2 b q] at e; cases e
      | true =>
        rw [r1 b q] at e
        exact ⟨e, by simpa [Bool.or_eq_true] using q⟩
    have s9of : ∀ b o, (PySem.W.hideAll s9.heap [C]).get? b = some o → s9.heap.get? b = some o ∧ b ≠ C := fun b o e => ⟨PySem.W.of_hideAll _ e, fun z => by
      rw [z, hide_self hoC] at e; cases e⟩
    have slots : ∀ b o, s9.heap.get? b = some o → b ∈ frs X.stack → ∃ sl, h4.get? b = some { o with slots := sl } := fun b o e hb => by
      have nb : b ≠ C := fun z => nCs (z ▸ hb)
      obtain ⟨sl, q⟩ := ub.slot b o e hb
      obtain ⟨_, o₀, e₀, hnf⟩ := I7.stack.mem hb
      rw [e] at e₀; cases e₀
      obtain ⟨sl2, q2⟩ := up1 b _ q hnf
      obtain ⟨sl3, q3⟩ := up4 b _ ((kk b nb).trans q2) hnf
      exact ⟨sl3, q3⟩
    have hokB : HOk X.prog X.w H' (PySem.W.hideAll B [C]) := fun b o q => (hok b o q).stay (fun c u hc r => hide_ne (fun z => by
        have nC' : H' C = none := ub.free C oC hoC nC
        rcases hc with hc | hc
        · rw [← hc, z, nC'] at q; cases q
        · rw [z, nC'] at hc; cases hc) r) (fun _ r => r) fun _ _ r => r
    refine ⟨a, PySem.W.hideAll B [C], { s9 with heap := G, gens := s'.gens, drawn := s'.drawn, toks := s'.toks }, pins, σ, H', cls, d, rfl, ?_, fun b o e hb => ?_, Heap.UpToSlots.of_keeps fun b o e => (og b o e).1, .inr (.inr (by rw [hst]; exact hh4)), na, os, ag, hE⟩
    · have un : Un (frs X.stack) [] H9 H' (PySem.W.hideAll s9.heap [C]) G := by
        refine ⟨fun b o e n hb _ => ?_, fun b o e n hb _ => ?_, fun b o e n _ => ub.free b o (s9of b o e).1 n, fun b o e _ => ?_, ub.tups, ub.frzs, ub.tbls⟩
        · obtain ⟨e1, n1⟩ := s9of b o e
          exact gB b o (hide_ne n1 (ub.keep b o e1 n hb))
        · obtain ⟨sl, q⟩ := slots b o (s9of b o e).1 hb
          exact ⟨sl, by rw [gF b hb]; exact q⟩
        · obtain ⟨e1, n1⟩ := s9of b o e
          by_cases hb : b ∈ frs X.stack
          · obtain ⟨sl, q⟩ := slots b o e1 hb
            exact ⟨_, by rw [gF b hb]; exact q⟩
          · obtain ⟨o', q⟩ := ub.there b o e1 hb
            exact ⟨o', gB b o' (hide_ne n1 q)⟩
      have J := I8.call (ch := []) (h' := G) (g' := s'.gens) (t' := s'.toks) (d' := s'.drawn) un (hokB.kept gB) ag (fun _ z => nomatch z)
      exact J
    · obtain ⟨e', h⟩ := og b o e
      rcases h with h | h
      · obtain ⟨o', q⟩ := Option.isSome_iff_exists.mp h
        have z := st b o' q
        rw [e'] at z; cases z
        exact q
      · exact absurd h hb
  unfold PySem.passOn
  refine wpAny_bind (wpAny_field ((kk a aC).trans he) hd hv1 ?_)
  rw [if_neg (show ¬ ((Value.ref T == Value.none) = true) from by simp)]
  rw [he', cF, hfl]
  first
    | exact wpAny_bind (HandSPX.setFlight_onZ hh2 fun h4 hh4 up4 => wpAny_throw (fin h4 hh4 up4))
    | exact wpAny_bind (wpAny_pure (wpAny_bind (HandSPX.setFlight_onZ hh2 fun h4 hh4 up4 => wpAny_throw (fin h4 hh4 up4))))
theorem thnX {α : Type} {t : Sem α} {Q Q' : α → Shared → Prop} {M : Model} {A : Around} {E E' : Value → Shared → Prop} {s : Shared} (e : ∀ u s, E' u s → E u s) (h : wpAny M A t Q E' s) (hQ : ∀ a s, Q a s → Q' a s) : wpAny M A t Q' E s := wpAny_mono h hQ e
theorem lc_coreX {pins : List (Addr × Obj)} {s : Shared} {σ : L2.St} {H : Hp} {Q : VK} {elt tg iter : Expr} {ifs : List Expr} {scope : Scope} {own : List (Str × Nat)} {pos pos' : Pos} {wi : TI} {g : TG} {tt : TT} {te : XK → TE} {Wx : WX} {use : Option (Value → Sem Unit)} {Qf : Value → Shared → Prop}
    (hst : X.stack = X.env :: X.outer) (hfl : X.env.frame = some X.env.locals) (tk : Takes X Wx) (hc : X.calm = true) (hN : X.N.Nodup) (I : Inv X pins σ H s) (hi : PI X tg iter wi) (ok : BlkOk X.N X.env.scope scope own)
    (hg : ∀ (s : Shared) (H : Hp) (C : Addr) (cl : List (Str × Addr)) (fp : List Addr) (E : XK), PG (blkX X s H scope (compEnvC scope cl C X.env) fp E) tg g) (ht : ∀ (s : Shared) (H : Hp) (C : Addr) (cl : List (Str × Addr)) (fp : List Addr) (E : XK), PTs (blkX X s H scope (compEnvC scope cl C X.env) fp E) ifs tt)
    (he : ∀ (s : Shared) (H : Hp) (C : Addr) (cl : List (Str × Addr)) (fp : List Addr) (E : XK), PE (blkX X s H scope (compEnvC scope cl C X.env) fp E) elt (te E)) (hs : ∀ x, foldedSetIterable iter X.env x = pure x)
    (h : tLc wi g tt (te fun cls d H' => Wx cls d σ H') (own.map (·.2)) σ H Q)
    (hRR : ∀ D C s' m H', Inv X pins σ H' s' → Q (.ref D) H' → s'.heap.Ns C m → FpOk X pins H' C → ∀ cenv : Env, cenv.locals = C → cpX (model X.prog X.w) X.A X.xe use Qf (.ref D) cenv (.ok .next) s') :
    wpAny (model X.prog X.w) X.A (comprehension (.ListComp elt [⟨tg, iter, ifs, 0⟩] scope pos) scope X.env pos' (newList []) false (eval iter X.env) use) Qf X.xe s := by
  have hfree : ∀ y ∈ scope.names, y.2 = .free → ∃ c, X.env.cells.lookup y.1 = some c := fun y hy e => by
    rcases ok.free y hy e with k | k
    · exact I.ok.has _ (.inl k)
    · exact I.ok.has _ (.inr k)
  refine comprehension_X (use := use) rfl hs (closure_ok hfree) ok.kind (fun y hy e => by rw [ok.uniq y hy, e])
    (thn (hi.run pins s σ H _ I h) fun xv s1 hx => thn hx fun itv s2 h2 => ?_)
  obtain ⟨it, fp, tn, J, H2, e, I2, T, st2, f2, q⟩ := h2
  subst e
  refine wpAny_newObj_type (newEnv_comp ?_) (by show 0 ≤ sizeLine; decide)
  generalize hD : s2.heap.objs.size = D
  have hDn : H2 D = none := I2.hok.fresh (Nat.le_of_eq hD)
  obtain ⟨W, ⟨m0, w0⟩, turn⟩ := q D hDn
  -- the new list
  generalize hs3 : ({ s2 with heap := s2.heap.push { cls := .type "list", data := .seq ([] : List Value).toArray } } : Shared) = s3
  have I3 : Inv X pins σ (upd H2 D (.lst [])) s3 := by
    rw [← hs3]
    refine I2.laid (t' := s2.toks) (fun b o e => Heap.get?_push_of_some _ e) (Nat.le_of_eq hD) ⟨Nat.zero_le _, [], 0, .nil, ?_⟩
    rw [← hD]
    exact Heap.get?_push_size _ rfl
  have h3 : s3.heap = s2.heap.push { cls := .type "list", data := .seq ([] : List Value).toArray } := by rw [← hs3]
  have sz : ∀ b ∈ fp, b < s2.heap.objs.size := fun b hb => by
    obtain ⟨o, e, _⟩ := T.obj _ _ st2 b hb
    exact Heap.lt_size e
  have f3 : ∀ b ∈ fp, FpOk X pins (upd H2 D (.lst [])) b ∧ b < s3.heap.objs.size := fun b hb => by
    have hlt := sz b hb
    refine ⟨⟨?_, (f2 b hb).2⟩, by rw [h3, Heap.size_push]; exact Nat.lt_succ_of_lt hlt⟩
    rw [upd_ne (by rw [← hD]; exact Nat.ne_of_lt hlt)]
    exact (f2 b hb).1
  have st3 : tn 0 s3.heap := T.keep _ _ _ st2 fun b _ o e => by rw [h3]; exact Heap.get?_push_of_some _ e
  have I4 := toX (pins := pins) (σ := wipe σ (own.map (·.2))) (E := fun cls d H' => Wx cls d σ H') (block_start I3 ok hN f3)
  have pg := hg s3 (upd H2 D (.lst [])) s3.heap.objs.size (cellsFrom (s3.heap.objs.size + 1) scope.names (cloFrom X.env.cells scope.names [])) fp fun cls d H' => Wx cls d σ H'
  have pt := ht s3 (upd H2 D (.lst [])) s3.heap.objs.size (cellsFrom (s3.heap.objs.size + 1) scope.names (cloFrom X.env.cells scope.names [])) fp fun cls d H' => Wx cls d σ H'
  have pe := he s3 (upd H2 D (.lst [])) s3.heap.objs.size (cellsFrom (s3.heap.objs.size + 1) scope.names (cloFrom X.env.cells scope.names [])) fp fun cls d H' => Wx cls d σ H'
  show codeAny _ _ (.compStart (.ListComp elt [⟨tg, iter, ifs, 0⟩] scope pos) 0 (.ref it) (.ref D) (compEnvC scope (cellsFrom (s3.heap.objs.size + 1) scope.names (cloFrom X.env.cells scope.names [])) s3.heap.objs.size X.env)) (cpX (model X.prog X.w) X.A X.xe use Qf (.ref D) (compEnvC scope (cellsFrom (s3.heap.objs.size + 1) scope.names (cloFrom X.env.cells scope.names [])) s3.heap.objs.size X.env)) { s3 with heap := pushCells (s3.heap.push { cls := .type "dict", data := .dict #[] }) scope.names }
  have nfp : ∀ b ∈ fp, (upd H2 D (.lst [])) b = none := fun b hb => (f3 b hb).1.1
  generalize hce : compEnvC scope (cellsFrom (s3.heap.objs.size + 1) scope.names (cloFrom X.env.cells scope.names [])) s3.heap.objs.size X.env = ce at I4 pg pt pe ⊢
  have cL : ce.locals = s3.heap.objs.size := by subst hce; rfl
  have cF : ce.frame = X.env.frame := by subst hce; rfl
  generalize hH3 : upd H2 D (.lst []) = H3 at I3 I4 pg pt pe w0 nfp f3
  generalize hs4 : ({ s3 with heap := pushCells (s3.heap.push { cls := .type "dict", data := .dict #[] }) scope.names } : Shared) = s4 at I4 ⊢
  have st4 : tn 0 s4.heap := T.keep _ _ _ st3 fun b _ o e => by rw [← hs4]; exact pushCells_keeps _ _ _ _ (Heap.get?_push_of_some _ e)
  have stat : ∀ {σ' : L2.St} {H' : Hp} {s' : Shared}, Inv (blkX X s3 H3 scope ce fp fun cls d H' => Wx cls d σ H') [] σ' H' s' → (∀ b ∈ fp, H' b = none) → ∀ b ∈ fp, FpOk (blkX X s3 H3 scope ce fp fun cls d H' => Wx cls d σ H') [] H' b := fun {σ' H' s'} I' hn b hb =>
    ⟨hn b hb, (I'.ok.exf b hb).1, I'.ok.exfs b hb, .inl hb, fun x c e => (I'.ok.exf b hb).2 x c e, fun p hp => absurd (show p ∈ ([] : List (Addr × Obj)) ++ [] from hp) (by simp)⟩
  have err : ∀ u s', bxe X s3 H3 scope ce fp (fun cls d H' => Wx cls d σ H') u s' → notedBy (model X.prog X.w) X.A ce (fun e s'' => cpX (model X.prog X.w) X.A X.xe use Qf (.ref D) ce (.error e) s'') u s' := fun u s' x => blk_out I3 hst hfl tk f3 cL cF x
  have loop : codeAny (model X.prog X.w) X.A (.compLoop (.ListComp elt [⟨tg, iter, ifs, 0⟩] scope pos) 0 (.ref it) (.ref D) ce) (cpX (model X.prog X.w) X.A X.xe use Qf (.ref D) ce) s4 := by
    refine compLoop_any (fun n s' => ∃ i H', Inv (blkX X s3 H3 scope ce fp fun cls d H' => Wx cls d σ H') [] (wipe σ (own.map (·.2))) H' s' ∧ tn i s'.heap ∧ (∀ b ∈ fp, H' b = none) ∧ W i n H') ?_ m0 ⟨0, H3, I4, st4, nfp, w0⟩
    rintro n s5 ⟨i, H5, I5, st5, n5, w5⟩
    rcases turn i n H5 w5 with ⟨stop, qq⟩ | ⟨go, Nx, hNx, step⟩
    · have td := T.done (blkX X s3 H3 scope ce fp fun cls d H' => Wx cls d σ H') rfl rfl rfl hc i [] s5 _ H5 (fun _ _ => False) I5 (stat I5 n5) st5 stop
      refine thnF td fun r s6 ⟨hr, I6⟩ => ?_
      subst hr
      -- back in the def's context
      have I7 : Inv X pins σ H5 s6 := I3.call' (ch := fp) I6.os I6.base I6.hok I6.bare fun b hb => ⟨(f3 b hb).1.2.2.2.1, (f3 b hb).1.2.1, (f3 b hb).1.2.2.2.2.1, (f3 b hb).1.2.2.2.2.2⟩
      have nC : H5 s3.heap.objs.size = none := by
        have z : H5 ce.locals = none := I6.free
        rw [cL] at z
        exact z
      obtain ⟨m, hn, _⟩ := I6.loc
      have hn : s6.heap.Ns ce.locals m := hn
      rw [cL] at hn
      exact hRR D s3.heap.objs.size s6 m H5 I7 qq hn (I3.fpOk (Nat.le_refl _) nC) ce cL
    · have ti := T.item (blkX X s3 H3 scope ce fp fun cls d H' => Wx cls d σ H') rfl rfl rfl hc i [] s5 _ H5 (fun _ _ => False) I5 (stat I5 n5) st5 go
      refine thnF ti fun r s6 ⟨u, hr, h6⟩ => ?_
      subst hr
      refine thnF h6 fun _ s7 ⟨x, H7, I7, r7, y7, st7, n7⟩ => ?_
      have I7' := I7.pinned (stat I7 n7) (T.obj _ _ st7)
      refine thnX err (pg.run _ s7 _ H7 x u _ I7' r7 (step x H7 y7)) fun _ s8 ⟨σ8, H8, I8, hw8, q8⟩ => ?_
      refine thnX err (pt.run _ s8 σ8 H8 _ I8 q8) fun b s9 ⟨H9, I9, q9⟩ => ?_
      -- the turn's end
      have fin : ∀ {s' : Shared} {H' : Hp}, Inv (blkX X s3 H3 scope ce fp fun cls d H' => Wx cls d σ H') ([] ++ pinsAt fp s7.heap) σ8 H' s' → Nx H' → ∃ m, m < n ∧ ∃ i H', Inv (blkX X s3 H3 scope ce fp fun cls d H' => Wx cls d σ H') [] (wipe σ (own.map (·.2))) H' s' ∧ tn i s'.heap ∧ (∀ b ∈ fp, H' b = none) ∧ W i m H' := fun {s' H'} I' nx => by
        obtain ⟨m', hm, w'⟩ := hNx H' nx
        have pin' : ∀ b ∈ fp, ∀ o, s7.heap.get? b = some o → s'.heap.get? b = some o ∧ H' b = none := fun b hb o e =>
          let z := I'.pin (b, o) (List.mem_append_right _ (List.mem_append_right _ (mem_pinsAt hb e)))
          ⟨z.1, z.2.1⟩
        have hl : (wipe σ (own.map (·.2))).length = σ8.length := by rw [← hw8, wipe_length]
        refine ⟨m', hm, i + 1, H', (I'.unpinned (pins := [])).weak hl (fun j v e => ?_), T.keep _ _ _ st7 fun b hb o e => (pin' b hb o e).1, fun b hb => ?_, w'⟩
        · rw [← hw8] at e
          exact (wipe_some e).1
        · obtain ⟨o, e, _⟩ := T.obj _ _ st7 b hb
          exact (pin' b hb o e).2
      cases b with
      | false =>
        simp only [Bool.false_eq_true, if_false] at q9 ⊢
        exact fin I9 q9
      | true =>
        simp only [if_true] at q9 ⊢
        refine thnX err (pe.run _ s9 σ8 H9 _ I9 q9) fun z s10 ⟨yv, H10, I10, r10, acc, hD10, hz10, nx⟩ => ?_
        exact app_ok (X := blkX X s3 H3 scope ce fp fun cls d H' => Wx cls d σ H') I10 hD10 hz10 r10 fun s11 I11 => fin I11 nx
  exact codeAny_compStart_list loop (T.self X.A 0 _ _ _ st4 loop)
/-- [e for x in xs if ..], where e may raise; te tells what e asks, given what is wished of an exception -/
theorem pe_lcX {elt tg iter : Expr} {ifs : List Expr} {scope : Scope} {own : List (Str × Nat)} {pos : Pos} {wi : TI} {g : TG} {tt : TT} {te : XK → TE} {Wx : WX} (hst : X.stack = X.env :: X.outer) (hfl : X.env.frame = some X.env.locals) (tk : Takes X Wx) (hc : X.calm = true) (hN : X.N.Nodup) (hi : PI X tg iter wi) (ok : BlkOk X.N X.env.scope scope own)
    (hg : ∀ (s : Shared) (H : Hp) (C : Addr) (cl : List (Str × Addr)) (fp : List Addr) (E : XK), PG (blkX X s H scope (compEnvC scope cl C X.env) fp E) tg g) (ht : ∀ (s : Shared) (H : Hp) (C : Addr) (cl : List (Str × Addr)) (fp : List Addr) (E : XK), PTs (blkX X s H scope (compEnvC scope cl C X.env) fp E) ifs tt)
    (he : ∀ (s : Shared) (H : Hp) (C : Addr) (cl : List (Str × Addr)) (fp : List Addr) (E : XK), PE (blkX X s H scope (compEnvC scope cl C X.env) fp E) elt (te E)) (hs : ∀ x, foldedSetIterable iter X.env x = pure x := by intro _; rfl) :
    PE X (.ListComp elt [⟨tg, iter, ifs, 0⟩] scope pos) (fun σ H Q => tLc wi g tt (te fun cls d H' => Wx cls d σ H') (own.map (·.2)) σ H Q) := by
  refine ⟨fun pins s σ H Q I h => ?_⟩
  rw [eval_ListComp]
  refine lc_coreX hst hfl tk hc hN I hi ok hg ht he hs h fun D C s' m H' I' q hn f cenv cl => ⟨m, by rw [cl]; exact hn, fun h'' sb => ?_⟩
  rw [cl] at sb
  obtain ⟨f0, f1, f2, f3, f4, f5⟩ := f
  exact ⟨.ref D, H', I'.turned (t' := s'.toks) (fun b o hb e => (sb.2 b hb).trans e) f0 f1 f3 f4 f5, rfl, q⟩
/-- name = [..] on one line, the name a local -/
theorem ps_setLcX {i : Nat} {y : Str} {py : Pos} {elt tg iter : Expr} {ifs : List Expr} {scope : Scope} {own : List (Str × Nat)} {pos spos : Pos} {wi : TI} {g : TG} {tt : TT} {te : XK → TE} {Wx : WX} (hst : X.stack = X.env :: X.outer) (hfl : X.env.frame = some X.env.locals) (tk : Takes X Wx) (hc : X.calm = true) (hN : X.N.Nodup) (hy : X.N[i]? = some y) (hyl : X.env.scope.names.lookup y = some .local)
    (hsw : swapsWith (.ListComp elt [⟨tg, iter, ifs, 0⟩] scope pos) (some (.Name y py)) spos.line X.env = pure true) (hi : PI X tg iter wi) (ok : BlkOk X.N X.env.scope scope own)
    (hg : ∀ (s : Shared) (H : Hp) (C : Addr) (cl : List (Str × Addr)) (fp : List Addr) (E : XK), PG (blkX X s H scope (compEnvC scope cl C X.env) fp E) tg g) (ht : ∀ (s : Shared) (H : Hp) (C : Addr) (cl : List (Str × Addr)) (fp : List Addr) (E : XK), PTs (blkX X s H scope (compEnvC scope cl C X.env) fp E) ifs tt)
    (he : ∀ (s : Shared) (H : Hp) (C : Addr) (cl : List (Str × Addr)) (fp : List Addr) (E : XK), PE (blkX X s H scope (compEnvC scope cl C X.env) fp E) elt (te E)) (hs : ∀ x, foldedSetIterable iter X.env x = pure x := by intro _; rfl) :
    PS X (.Assign [.Name y py] (.ListComp elt [⟨tg, iter, ifs, 0⟩] scope pos) spos) (tAsg (fun σ H Q => tLc wi g tt (te fun cls d H' => Wx cls d σ H') (own.map (·.2)) σ H Q) (gName i)) := by
  refine ⟨fun pins s σ H D I h => ?_⟩
  rw [exec_Assign_Name_used _ _ _ _ hsw]
  refine wpAny_bind (wpAny_standAt (wpAny_bind ?_))
  show wpAny _ X.A (do let _ ← comprehension (.ListComp elt [⟨tg, iter, ifs, 0⟩] scope pos) scope X.env (firstIterPos [⟨tg, iter, ifs, 0⟩] pos) (newList []) false (eval iter X.env) (some (assign (.Name y py) X.env))) _ _ s
  have h : tLc wi g tt (te fun cls d H' => Wx cls d σ H') (own.map (·.2)) σ H (fun x H1 => gName i x σ H1 D.nx) := h
  refine wpAny_bind (thn (lc_coreX (Qf := fun _ s' => SP X pins D .next s') hst hfl tk hc hN I hi ok hg ht he hs h fun L C s' m H' I' q hn f cenv cl => ?_) fun _ s' hq => wpAny_pure (wpAny_pure hq))
  show wpAny _ _ (assign (.Name y py) X.env (.ref L)) _ _ _
  refine wpAny_assign_Name (store_ok2 (v := V.ref L) I' hN hy (.inl hyl) rfl (fun s2 I2 ⟨a, sb, ha⟩ => ?_) (.inr hyl))
  obtain ⟨f0, f1, f2, f3, f4, f5⟩ := f
  have haC : C ≠ a := by
    rcases ha with z | z
    · rw [z]; exact f1
    · exact fun e => f4 y a z e.symm
  refine ⟨m, by rw [cl]; exact hn.sameBut sb haC, fun h3 sb3 => ?_⟩
  rw [cl] at sb3
  exact ⟨_, H', I2.turned (t' := s2.toks) (fun b o hb e => (sb3.2 b hb).trans e) f0 f1 f3 f4 f5, q⟩
end
end Kx

namespace Kx
open PySem PySem.Spec PyProof.Rows L2
/-! ### try: .. except C as n: .. else: .., every error of the body being C's -/
/-- behind the suite the name is gone -/
def bare (D : Ends) (i : Nat) : Ends := { nx := fun τ G => D.nx (τ.set i none) G, rt := D.rt, bk := fun τ G => D.bk (τ.set i none) G, ct := fun τ G => D.ct (τ.set i none) G }
def wAll (K : PySem.W.Frag) (c : Value) (i : Nat) (ts : Addr → Value → Option Addr → TS) (D : Ends) : WX := fun cls d σ H => PySem.W.exmOne K cls c = some true ∧ ∀ a, H a = none → ts a cls d (bare D i) (σ.set i (some (.ref a))) H
section
variable {X : Cx} {x n : Str} {c : Value} {i : Nat} {body suite orelse : List Stmt} {b₀ : Stmt} {np pos pos' : Pos} {tb : WX → TS} {ts : Addr → Value → Option Addr → TS} {u : TS}
/-- an object of an exception is no frame's -/
theorem no_frame {B h : Heap} {l : List Env} {a : Addr} {o : Obj} {vs : Array Value} (F : h.FunFrames B l) (e : h.get? a = some o) (k : o.data = .fields vs) : a ∉ frs l := fun m => by
  obtain ⟨_, o2, e2, no⟩ := F.mem m
  rw [e] at e2
  cases e2
  exact no _ k
theorem ps_try_asE (ho : PSs X orelse u) (hst : X.stack = X.env :: X.outer) (hfl : X.env.frame = some X.env.locals) (hnd : X.N.Nodup) (hix : X.N[i]? = some n) (hlc : X.env.kindOf n = some .local) (hnm : Names X x c)
    (hbd : ∀ (W : WX) (pn : List (Addr × Obj)) (xe : Value → Shared → Prop), Takes (X.tr pn xe) W → PassesOwn (model X.prog X.w) X.A X.env xe → PSs (X.tr pn xe) body (tb W))
    (hsu : ∀ (a : Addr) (oe : Obj) (cls : Value) (d : Option Addr) (pn : List (Addr × Obj)), Zc cls d oe → (∃ vs, oe.data = .fields vs) → PSs (X.suite a ((a, oe) :: pn)) (b₀ :: suite) (ts a cls d)) :
    PS X (.Try body [.ExceptHandler (some (.Name x np)) (some n) (b₀ :: suite) pos'] orelse [] pos) (fun D σ H => tb (wAll X.K c i ts D) { D with nx := u D } σ H) := by
  constructor
  intro pins s σ H D I h
  have okX := I.ok
  have frames : X.A.frames = some (X.env :: X.outer) := okX.frames.trans (congrArg some hst)
  -- what is done with an error of the body
  let land : Value → Shared → Prop := fun e t1 => wpAny (model X.prog X.w) X.A (noteFrame e X.env) (fun _ t2 => wpAny (model X.prog X.w) X.A (setFlight e none) (fun _ t3 =>
    wpAny (model X.prog X.w) X.A (handleBy e X.env [.ExceptHandler (some (.Name x np)) (some n) (b₀ :: suite) pos']) (SP X pins D) X.xe t3) X.xe t2) X.xe t1
  have caught : Takes (X.tr (X.pn ++ pins) land) (wAll X.K c i ts D) := by
    rintro e t ⟨a, B, sI, ps, τ, G, cls, d, rfl, J0, nb, up, sky, na, os, ag, isC, go⟩
    have J := J0.ofTry okX
    have sky2 : Sky B (X.env :: X.outer) a (Zc cls d) X.env.locals t.heap := hst ▸ sky
    refine Sky.land Zc.steady frames hfl sky2 fun g1 f1 u1 => ?_
    have J1 : Inv X pins τ G { t with heap := g1 } := J.landed nb f1.1 (up.trans u1) os ag
    obtain ⟨o1, v1, e1, z1', d1⟩ := f1.there
    have far := no_frame f1.2.2.1 e1 d1
    have farL : a ≠ X.env.locals := fun z => far (List.mem_filterMap.mpr ⟨X.env, List.mem_cons_self, hfl.trans (congrArg some z.symm)⟩)
    have farF : a ∉ X.fs := fun m => by
      obtain ⟨y, hy, k⟩ := List.mem_filterMap.mp m
      exact far (List.mem_filterMap.mpr ⟨y, List.mem_cons_of_mem _ hy, k⟩)
    have S1 := J1.suite e1 d1 na farL farF
    have kind : PySem.W.Looks (model X.prog X.w) g1 (typeOf (.ref a)) cls := fun A Q E t' k q => wpAny_typeOf_ref (k _ _ e1) (z1'.1 ▸ q)
    have named : ∀ {Q E : Value → Shared → Prop}, Q c { t with heap := g1 } → wpAny (model X.prog X.w) (X.A.mark (some (.ref a))) (eval (.Name x np) X.env) Q E { t with heap := g1 } := fun {Q E} q => by
      rcases hnm with ⟨gl, nod, own | ⟨non, bt, nn⟩⟩
      · exact ld_glob (X := X.suite a ((a, o1) :: (X.pn ++ pins))) S1 gl own q nod
      · exact ld_blt (X := X.suite a ((a, o1) :: (X.pn ++ pins))) S1 gl non bt q nn nod
    refine wpAny_handleBy_cons (codeAny_handlers_test (named ((PySem.W.exm_one (M := model X.prog X.w) J1.kIn kind isC).here ?_))) (by intro z; cases z)
    refine codeAny_handlers_suite_as (HandSPX.lands_againZ f1 fun g2 f2 u2 => ?_)
    have J2 : Inv X pins τ G { t with heap := g2 } := J.landed nb f2.1 ((up.trans u1).trans u2) os ag
    obtain ⟨o2, v2, e2, z2', d2⟩ := f2.there
    refine store_ok (X := X.suite a ((a, o2) :: (X.pn ++ pins))) (v := .ref a) (J2.suite e2 d2 na farL farF) hnd hix (.inl hlc) rfl (fun t5 I5 => ?_) (.inr hlc)
    refine wpAny_mono ((hsu a o2 cls d (X.pn ++ pins) z2' ⟨_, d2⟩).run [] t5 _ G _ I5 (go a na)) (fun fl t6 r => ?_) fun _ _ z => z.elim
    have drop : ∀ {τ6 : L2.St} {G6 : Hp} {Q : Shared → Prop}, Inv (X.suite a ((a, o2) :: (X.pn ++ pins))) [] τ6 G6 t6 → (∀ t7, Inv X pins (τ6.set i none) G6 t7 → Q t7) →
        wpAny (model X.prog X.w) X.A (do bindName X.env n .none; unbindBehindTheSuite X.env n pos') (fun _ t7 => Q t7) X.xe t6 := fun k q => gone_ok (k.unsuite okX) hnd hix hlc q
    rcases fl with _ | _ | _ | v
    · obtain ⟨τ6, G6, K6, r⟩ := r
      exact drop K6 fun t7 J7 => ⟨_, _, J7, r⟩
    · obtain ⟨τ6, G6, K6, r⟩ := r
      exact drop K6 fun t7 J7 => ⟨_, _, J7, r⟩
    · obtain ⟨τ6, G6, K6, r⟩ := r
      exact drop K6 fun t7 J7 => ⟨_, _, J7, r⟩
    · obtain ⟨w6, τ6, G6, K6, r6, r⟩ := r
      exact drop K6 fun t7 J7 => ⟨_, _, _, J7, r6, r⟩
  refine wpAny_Try_except (wpAny_mono ((hbd _ _ land caught PassesOwn.looking).run [] s σ H { D with nx := u D } (I.toTry _) h) (fun fl t1 r => ?_) fun _ _ z => z)
  rcases fl with _ | _ | _ | v
  · obtain ⟨τ, G, J, r⟩ := r
    exact ho.run pins t1 τ G D (J.ofTry okX) r
  · obtain ⟨τ, G, J, r⟩ := r
    exact ⟨τ, G, J.ofTry okX, r⟩
  · obtain ⟨τ, G, J, r⟩ := r
    exact ⟨τ, G, J.ofTry okX, r⟩
  · obtain ⟨v1, τ, G, J, r1, r⟩ := r
    exact ⟨v1, τ, G, J.ofTry okX, r1, r⟩
end
end Kx

namespace Kx
open PySem PySem.Spec PyProof.Rows L2 TL
structure ReadyX (P : Program) (w : World) (K : PySem.W.Frag) (mg : Str → Option Value) (base : Heap) (k : Nat) (x : Str) (ps : List Str) (sp : Sp) : Prop where
  ex : ∃ f fd, FnOk P w K mg base (L2.CX P w) k f fd ps sp ∧ Binds K fd ps [] ∧ mg x = some (.ref f) ∧ PySem.W.keepIn K (.ref f) = true
theorem pe_fnX {X : Cx} {W : WX} {k : Nat} {x : Str} {ps : List Str} {sp : Sp} {p pos : Pos} {e : Expr} {es : List Expr} {t : TA} (G : ReadyX X.prog X.w X.K X.mg X.base k x ps sp) (hr : Room k X.A) (tk : Takes X W) (ha : PA X (e :: es) t) (hg : Gl X x := by rfl)
    (hdb : (x == ("__debug__" : Str)) = false := by decide) (he : starEach (e :: es) X.env = (false, eval e X.env) :: starEach es X.env := by rfl) (hpl : (backTo pos (starEach es X.env)).any (·.1) = false := by rfl) :
    PE X (.Call (.Name x p) (e :: es) [] pos) (tCallS sp (WE W) t) := by
  obtain ⟨f, fd, h, hb, hm, hk⟩ := G.ex
  exact pe_callS h hr hg hm hk hb (fun σ => passAt tk σ) ha hdb he hpl
/-- where what is raised is not told of the slots -/
theorem pe_fnE {X : Cx} {E : XK} {k : Nat} {x : Str} {ps : List Str} {sp : Sp} {p pos : Pos} {e : Expr} {es : List Expr} {t : TA} (G : ReadyX X.prog X.w X.K X.mg X.base k x ps sp) (hr : Room k X.A) (hx : Passes (L2.CX X.prog X.w) X E) (ha : PA X (e :: es) t) (hg : Gl X x := by rfl)
    (hdb : (x == ("__debug__" : Str)) = false := by decide) (he : starEach (e :: es) X.env = (false, eval e X.env) :: starEach es X.env := by rfl) (hpl : (backTo pos (starEach es X.env)).any (·.1) = false := by rfl) :
    PE X (.Call (.Name x p) (e :: es) [] pos) (tCall sp [] E t) := by
  obtain ⟨f, fd, h, hb, hm, hk⟩ := G.ex
  exact pe_call h hr hg hm hk hb .nil hx ha hdb he hpl
/-- in a block of a comprehension -/
theorem pe_fnB {X : Cx} {k : Nat} {x : Str} {ps : List Str} {sp : Sp} {p pos : Pos} {e : Expr} {es : List Expr} {t : TA} {s : Shared} {H : Hp} {scope : Scope} {cenv : Env} {fp : List Addr} {E : XK} (G : ReadyX X.prog X.w X.K X.mg X.base k x ps sp) (hr : Room k X.A)
    (ha : PA (blkX X s H scope cenv fp E) (e :: es) t) (hg : Gl (blkX X s H scope cenv fp E) x)
    (hdb : (x == ("__debug__" : Str)) = false := by decide) (he : starEach (e :: es) cenv = (false, eval e cenv) :: starEach es cenv := by rfl) (hpl : (backTo pos (starEach es cenv)).any (·.1) = false := by rfl) :
    PE (blkX X s H scope cenv fp E) (.Call (.Name x p) (e :: es) [] pos) (tCall sp [] E t) := by
  obtain ⟨f, fd, h, hb, hm, hk⟩ := G.ex
  exact pe_call (X := blkX X s H scope cenv fp E) h hr hg hm hk hb .nil passes_blk ha hdb he hpl
/-- a def that may raise, called where it does not -/
theorem pe_fnN {X : Cx} {k : Nat} {x : Str} {ps : List Str} {sp : Sp} {p pos : Pos} {e : Expr} {es : List Expr} {t : TA} (G : ReadyX X.prog X.w X.K X.mg X.base k x ps sp) (hr : Room k X.A) (ha : PA X (e :: es) t) (hg : Gl X x := by rfl)
    (hdb : (x == ("__debug__" : Str)) = false := by decide) (he : starEach (e :: es) X.env = (false, eval e X.env) :: starEach es X.env := by rfl) (hpl : (backTo pos (starEach es X.env)).any (·.1) = false := by rfl) :
    PE X (.Call (.Name x p) (e :: es) [] pos) (tCall sp [] E0 t) := by
  obtain ⟨f, fd, h, hb, hm, hk⟩ := G.ex
  exact pe_call h hr hg hm hk hb .nil (fun _ _ _ _ _ _ _ ⟨_, _, _, _, _, _, _, _, _, _, _, _, z⟩ => z.elim) ha hdb he hpl
/-- a method of the class at C -/
structure ReadyM (P : Program) (w : World) (K : PySem.W.Frag) (mg : Str → Option Value) (base : Heap) (C : Addr) (k : Nat) (m : Str) (ps : List Str) (sp : Sp) : Prop where
  ex : ∃ f fd, FnOk P w K mg base (L2.CX P w) k f fd ps sp ∧ Binds K fd ps [] ∧ Meth K C m f
theorem pe_m {X : Cx} {E : XK} {C : Addr} {k : Nat} {m : Str} {ps : List Str} {sp : Sp} {apos pos : Pos} {o e : Expr} {es : List Expr} {ta : TE} {t : TA} {pl : Sem Bool} (G : ReadyM X.prog X.w X.K X.mg X.base C k m ps sp) (c : Cls X.K C) (hr : Room k X.A) (hx : Passes (L2.CX X.prog X.w) X E) (he : PE X o ta) (ha : PA X (e :: es) t)
    (hst : starEach (e :: es) X.env = (false, eval e X.env) :: starEach es X.env := by rfl) (hpl : (backTo pos (starEach es X.env)).any (·.1) = false := by rfl)
    (ht : eval (.Call (.Attribute o m apos) (e :: es) [] pos) X.env = (do
      let ov ← eval o X.env
      standAt apos.atName
      let (f, first) ← holding [ov] (getMethod ov m pl)
      callWith pos f first (backTo pos (starEach (e :: es) X.env)) (backToKw pos (keywordEach [] X.env))) := by rfl) :
    PE X (.Call (.Attribute o m apos) (e :: es) [] pos) (tMeth C m sp [] E ta t) := by
  obtain ⟨f, fd, F, hb, hm⟩ := G.ex
  exact pe_meth he c hm F hr hb .nil hx ha hst hpl ht
theorem pe_m0' {X : Cx} {E : XK} {C : Addr} {k : Nat} {m : Str} {ps : List Str} {sp : Sp} {apos pos : Pos} {o : Expr} {ta : TE} {pl : Sem Bool} (G : ReadyM X.prog X.w X.K X.mg X.base C k m ps sp) (c : Cls X.K C) (hr : Room k X.A) (hx : Passes (L2.CX X.prog X.w) X E) (he : PE X o ta)
    (ht : eval (.Call (.Attribute o m apos) [] [] pos) X.env = (do
      let ov ← eval o X.env
      standAt apos.atName
      let (f, first) ← holding [ov] (getMethod ov m pl)
      callWith pos f first (backTo pos (starEach [] X.env)) (backToKw pos (keywordEach [] X.env))) := by rfl) :
    PE X (.Call (.Attribute o m apos) [] [] pos) (tMeth C m sp [] E ta tNil) := by
  obtain ⟨f, fd, F, hb, hm⟩ := G.ex
  exact pe_meth0 he c hm F hr hb .nil hx ht
/-- the errors of a def's own calls go on -/
theorem onward {X : Cx} {E : XK} (tk : Takes X (fun cls d _ H => E cls d H)) : Passes (L2.CX X.prog X.w) X E := passes_call tk fun _ _ _ _ h => h
theorem cut_map (xs : List Int) (lo hi : Option Int) : ∃ ys : List Int, cutV (xs.map V.int) lo hi = ys.map V.int := by
  unfold cutV
  rw [← List.map_drop, ← List.map_take]
  exact ⟨_, rfl⟩
theorem iteNB {c : Bool} {A B : Prop} (h : c = true) (q : B) : if (!c) = true then A else B := by
  rw [h]
  exact q
theorem next_it {nx : L2.St → Hp → Prop} {rt : VK} {bk ct : L2.St → Hp → Prop} {σ : L2.St} {H : Hp} (h : nx σ H) : tNext ⟨nx, rt, bk, ct⟩ σ H := h
theorem seq_set {te : TE} {i : Nat} {u : TS} {D : Ends} {σ : L2.St} {H : Hp} (h : te σ H fun x H1 => u D (σ.set i (some x)) H1) : tSeq (tAsg te (gName i)) u D σ H := h
theorem seq_it {t : TS} {u : TS} {D : Ends} {σ : L2.St} {H : Hp} (h : t { D with nx := fun σ2 H2 => u D σ2 H2 } σ H) : tSeq t u D σ H := h
mutual
theorem Dp.same' {K : PySem.W.Frag} {H H' : Hp} (h : Same H H') : ∀ {v : V} {d : PyData}, Dp K H v d → Dp K H' v d
  | _, _, .non => .non
  | _, _, .bl b => .bl b
  | _, _, .int i => .int i
  | _, _, .str x => .str x
  | _, _, .lst q r => .lst (Same.sqL h q) (DpAll.same' h r)
  | _, _, .tup q r => .tup (Same.sqT h q) (DpAll.same' h r)
theorem DpAll.same' {K : PySem.W.Frag} {H H' : Hp} (h : Same H H') : ∀ {vs : List V} {ds : List PyData}, DpAll K H vs ds → DpAll K H' vs ds
  | _, _, .nil => .nil
  | _, _, .cons q r => .cons (Dp.same' h q) (DpAll.same' h r)
end
theorem refl_of {d : PyData} (h : SeqAt.shaped d = true) : PyData.eqv d d = true := SeqAt.eqv_refl d (SeqAt.canLay_of_shaped h)
theorem join_len (s : Nat) : ∀ ps : List (List Nat), (joinL [s] ps).length ≤ (ps.map List.length).sum + ps.length
  | [] => Nat.zero_le _
  | [p] => by simp [joinL]
  | p :: q :: r => by
    have := join_len s (q :: r)
    show (p ++ ([s] ++ joinL [s] (q :: r))).length ≤ _
    simp only [List.length_append, List.length_cons, List.map_cons, List.sum_cons, List.length_nil] at this ⊢
    omega
theorem tl_joinB (ws : List Str) : tl (Txt.join " " ws) = joinL [32] (ws.map tl) := by rw [join_eq, tl_join, tl_blank]
theorem tl_joinF (ws : List Str) : tl (Txt.join "\n" ws) = joinL [10] (ws.map tl) := by rw [join_eq, tl_join, tl_feed]
theorem map_mk_tl (ws : List Str) : (ws.map tl).map mkS = ws := by
  rw [List.map_map]
  exact (List.map_congr_left fun a _ => mk_tl a).trans (List.map_id' ws)
theorem lines_join {ws : List Str} (hne : ws ≠ []) (h : ∀ z ∈ ws, 10 ∉ tl z) : linesOf (Txt.join "\n" ws) = ws := by
  unfold linesOf
  rw [tl_joinF, spl_join (fun e => hne (List.map_eq_nil_iff.mp e)) (fun p hp => by
    obtain ⟨z, hz, rfl⟩ := List.mem_map.mp hp
    exact h z hz), map_mk_tl]
theorem joinL_mem {s c : Nat} : ∀ {ps : List (List Nat)}, c ∈ joinL [s] ps → c = s ∨ ∃ p ∈ ps, c ∈ p
  | [], h => by cases h
  | [p], h => .inr ⟨p, List.mem_cons_self, h⟩
  | p :: q :: r, h => by
    have h : c ∈ p ++ ([s] ++ joinL [s] (q :: r)) := h
    rcases List.mem_append.mp h with h | h
    · exact .inr ⟨p, List.mem_cons_self, h⟩
    · rcases List.mem_append.mp h with h | h
      · exact .inl (List.mem_singleton.mp h)
      · rcases joinL_mem h with h | ⟨x, hx, h⟩
        · exact .inl h
        · exact .inr ⟨x, List.mem_cons_of_mem _ hx, h⟩
theorem sum_le {α : Type} {g : α → Nat} {c : Nat} : ∀ {l : List α}, (∀ x ∈ l, g x ≤ c) → (l.map g).sum ≤ l.length * c
  | [], _ => by simp
  | x :: r, h => by
    have h1 := h x List.mem_cons_self
    have h2 := sum_le (l := r) fun y hy => h y (List.mem_cons_of_mem _ hy)
    rw [List.map_cons, List.sum_cons, List.length_cons, Nat.succ_mul]
    omega
end Kx

namespace Kx
open PySem PySem.Spec PyProof.Rows L2 TL
/-! ### pieces, as the program cuts them -/
def isLet (c : Nat) : Bool := (decide (97 ≤ c) && decide (c ≤ 122)) || decide (c = 95)
def isRun (c : Nat) : Bool := isLet c || isFig c
def runLen (l : List Nat) : Nat := (l.takeWhile isRun).length
def owns : List Str := ["read", "filter", "where", "map", "to", "as", "fold", "by", "join", "union", "unlike", "sort", "first", "up", "down", "answer", "and", "or", "not", "mod", "length", "int", "text", "count", "sum", "least", "greatest", "mean"]
def longs : List Str := ["!=", "<=", ">="]
def shorts : List Nat := [40, 41, 44, 61, 60, 62, 43, 45, 42, 47, 58]
def isNumB (l : List Nat) : Bool := decide (l = [48]) || (decide (l.length ≤ 18) && decide (l.head? ≠ some 48) && l.all isFig)
inductive PV where
  | tx (z : Str)
  | nm (n : Nat)
  deriving DecidableEq
structure Pc where
  kind : Str
  val : PV
  col : Nat
  deriving DecidableEq
/-- the piece that begins a text: its kind, its value, how many signs it has -/
def pcAt (l : List Nat) : Option (Str × PV × Nat) :=
  match l with
  | [] => none
  | c :: r =>
    if isLet c = true then
      (if mkS (l.takeWhile isRun) ∈ owns then some ("own", .tx (mkS (l.takeWhile isRun)), runLen l) else some ("name", .tx (mkS (l.takeWhile isRun)), runLen l))
    else if isFig c = true then
      (if isNumB (l.takeWhile isRun) = true then some ("number", .nm (NumText.digitsVal (l.takeWhile isRun)), runLen l) else none)
    else if c = 34 then
      (if 34 ∈ r then some ("quoted", .tx (mkS (r.takeWhile fun x => decide (x ≠ 34))), (r.takeWhile fun x => decide (x ≠ 34)).length + 2) else none)
    else if mkS (l.take 2) ∈ longs then some ("own", .tx (mkS (l.take 2)), 2)
    else if c ∈ shorts then some ("own", .tx (mkS [c]), 1)
    else none
def isBr (k : Str) (v : PV) : Bool := decide (k = "own") && (decide (v = .tx "(") || decide (v = .tx ")"))
/-- the pieces of what is left of a line: at tells how many signs stand ahead, many how many pieces but brackets, all how many signs the line has -/
def pcs (all : Nat) : Nat → Nat → Nat → List Nat → Except Nat (List Pc)
  | 0, _, _, _ => .ok []
  | f + 1, at_, many, l => match l with
    | [] => .ok [⟨"end", .tx "", all + 1⟩]
    | c :: r =>
      if c = 35 then .ok [⟨"end", .tx "", all + 1⟩]
      else if c = 32 then pcs all f (at_ + 1) many r
      else match pcAt (c :: r) with
        | none => .error (at_ + 1)
        | some (k, v, n) =>
          if 300 < (if isBr k v = true then many else many + 1) then .error (at_ + 1)
          else match pcs all f (at_ + n) (if isBr k v = true then many else many + 1) ((c :: r).drop n) with
            | .error e => .error e
            | .ok ps => .ok (⟨k, v, at_ + 1⟩ :: ps)
def piecesOf (z : Str) : Except Nat (List Pc) := pcs z.length (z.length + 1) 0 0 (tl z)
theorem runLen_pos {c : Nat} {r : List Nat} (h : isRun c = true) : 0 < runLen (c :: r) := by
  unfold runLen
  rw [List.takeWhile_cons, h]
  exact Nat.succ_pos _
theorem runLen_le (l : List Nat) : runLen l ≤ l.length := by
  unfold runLen
  exact (List.takeWhile_prefix _).length_le
theorem pcAt_pos {l : List Nat} {k : Str} {v : PV} {n : Nat} (h : pcAt l = some (k, v, n)) : 0 < n ∧ n ≤ l.length + 1 := by
  unfold pcAt at h
  match l with
  | [] => cases h
  | c :: r =>
    simp only at h
    split at h
    · rename_i hc
      have hp := runLen_pos (c := c) (r := r) (by unfold isRun; rw [hc]; rfl)
      have hl := runLen_le (c :: r)
      split at h <;> (obtain ⟨-, -, rfl⟩ := (by simpa using h : _ ∧ _ ∧ _); omega)
    · split at h
      · rename_i hc
        have hp := runLen_pos (c := c) (r := r) (by unfold isRun; rw [hc]; simp)
        have hl := runLen_le (c :: r)
        split at h
        · obtain ⟨-, -, rfl⟩ := (by simpa using h : _ ∧ _ ∧ _)
          omega
        · cases h
      · split at h
        · split at h
          · rename_i hm
            have hl := (List.takeWhile_prefix (p := fun x => decide (x ≠ 34)) (l := r)).length_le
            obtain ⟨-, -, rfl⟩ := (by simpa using h : _ ∧ _ ∧ _)
            simp only [List.length_cons]
            simp only [ne_eq] at hl
            constructor
            · omega
            · simp only [decide_not] at hl ⊢
              omega
          · cases h
        · split at h
          · rename_i hl
            obtain ⟨-, -, rfl⟩ := (by simpa using h : _ ∧ _ ∧ _)
            simp only [List.length_cons]
            omega
          · split at h
            · obtain ⟨-, -, rfl⟩ := (by simpa using h : _ ∧ _ ∧ _)
              simp only [List.length_cons]
              omega
            · cases h
example : piecesOf "a = b (12, \"x y\") # z" = .ok [⟨"name", .tx "a", 1⟩, ⟨"own", .tx "=", 3⟩, ⟨"name", .tx "b", 5⟩, ⟨"own", .tx "(", 7⟩, ⟨"number", .nm 12, 8⟩, ⟨"own", .tx ",", 10⟩, ⟨"quoted", .tx "x y", 12⟩, ⟨"own", .tx ")", 17⟩, ⟨"end", .tx "", 22⟩] := by rfl
end Kx

namespace Kx
open PySem PySem.Spec PyProof.Rows L2 TL
abbrev s_is_figure : Stmt := topS 28
abbrev s_is_letter : Stmt := topS 29
abbrev s_run_end : Stmt := topS 30
abbrev s_is_number : Stmt := topS 31
section
variable {P : Program} {w : World} {K : PySem.W.Frag} {mg : Str → Option Value} {base : Heap}
def spFig : Sp := fun vs H Q _ => ∃ c : Nat, vs = [.str ⟨#[c]⟩] ∧ Q (.bl (isFig c)) H
theorem sc_figure : FnScope ["sign"] ["sign"] (defScope s_is_figure) := ⟨rfl, rfl, rfl, by decide +kernel, rfl, by decide +kernel, by decide +kernel⟩
theorem not_lt_one (a b : Nat) : (!decide (([a] : List Nat) < [b])) = decide (b ≤ a) := by
  rw [lt_one]
  by_cases h : b ≤ a
  · have h2 : ¬ a < b := by omega
    simp [h, h2]
  · have h2 : a < b := by omega
    simp [h, h2]
theorem ok_figure {f : Addr} {fd : FuncData} (F : Fun K "is_figure" "is_figure" s_is_figure f fd) : FnOk P w K mg base CX0 1 f fd ["sign"] spFig := by
  refine F.ok sc_figure (fun vs H Q E h => ?_) (fun cdv A outer s H vs Q E hr h => ?_)
  · obtain ⟨c, rfl, _⟩ := h
    rfl
  obtain ⟨c, rfl, q⟩ := h
  refine ⟨_, pss_one (ps_ret (pe_chain op_le_str op_le_str pe_str (pv 0) pe_str)), ?_⟩
  have e1 : ((Str.ofString "0").cps.toList) = [48] := by decide +kernel
  have e2 : ((Str.ofString "9").cps.toList) = [57] := by decide +kernel
  refine ⟨_, rfl, _, _, rfl, rfl, _, rfl, ?_⟩
  rw [e1]
  show (if (!decide (([c] : List Nat) < [48])) = true then _ else _)
  rw [not_lt_one]
  unfold isFig at q
  refine ite2 (fun h => ⟨_, _, rfl, rfl, ?_⟩) (fun h => ?_)
  · rw [e2]
    show Q (.bl (!decide (([57] : List Nat) < [c]))) H
    rw [not_lt_one]
    rw [decide_eq_true (of_decide_eq_true h), Bool.true_and] at q
    exact q
  · rw [Bool.eq_false_iff.mpr h, Bool.false_and] at q
    exact q
def spLet : Sp := fun vs H Q _ => ∃ c : Nat, vs = [.str ⟨#[c]⟩] ∧ Q (.bl (isLet c)) H
theorem sc_letter : FnScope ["sign"] ["sign"] (defScope s_is_letter) := ⟨rfl, rfl, rfl, by decide +kernel, rfl, by decide +kernel, by decide +kernel⟩
theorem one_sign (c d : Nat) : decide (V.str ⟨#[c]⟩ = V.str ⟨#[d]⟩) = decide (c = d) := by
  by_cases h : c = d
  · rw [h, decide_eq_true rfl, decide_eq_true rfl]
  · rw [decide_eq_false h]
    refine decide_eq_false fun e => h ?_
    injection e with e
    injection e with e
    simpa using congrArg Array.toList e
theorem ok_letter {f : Addr} {fd : FuncData} (F : Fun K "is_letter" "is_letter" s_is_letter f fd) : FnOk P w K mg base CX0 1 f fd ["sign"] spLet := by
  refine F.ok sc_letter (fun vs H Q E h => ?_) (fun cdv A outer s H vs Q E hr h => ?_)
  · obtain ⟨c, rfl, _⟩ := h
    rfl
  obtain ⟨c, rfl, q⟩ := h
  refine ⟨_, pss_one (ps_ret (pe_or (pe_chain op_le_str op_le_str pe_str (pv 0) pe_str) (pe_one (pe_cmpR op_eq (pv 0) pe_str (nomark _))))), ?_⟩
  have e1 : ((Str.ofString "a").cps.toList) = [97] := by decide +kernel
  have e2 : ((Str.ofString "z").cps.toList) = [122] := by decide +kernel
  have e3 : (Str.ofString "_") = ⟨#[95]⟩ := by decide +kernel
  unfold isLet at q
  have fin : ∀ b, b = (decide (97 ≤ c) && decide (c ≤ 122)) → ∃ k, V.bl b = .bl k ∧ if k = true then Q (.bl true) H else tOp rEq (tVar 0) (tC (V.str (Str.ofString "_"))) (L2.start ["sign"] [V.str ⟨#[c]⟩]) H Q := fun b hb => by
    refine ⟨b, rfl, ?_⟩
    rw [← hb] at q
    cases b with
    | true =>
      rw [Bool.true_or] at q
      exact iteT q
    | false =>
      rw [Bool.false_or, ← one_sign] at q
      refine iteF ⟨_, rfl, rfl, ?_⟩
      rw [e3]
      exact q
  refine ⟨_, rfl, _, _, rfl, rfl, _, rfl, ?_⟩
  rw [e1]
  show (if (!decide (([c] : List Nat) < [97])) = true then _ else _)
  rw [not_lt_one]
  refine ite2 (fun h => ⟨_, _, rfl, rfl, ?_⟩) (fun h => ?_)
  · rw [e2]
    refine fin _ ?_
    show (!decide (([122] : List Nat) < [c])) = _
    rw [not_lt_one, decide_eq_true (of_decide_eq_true h), Bool.true_and]
  · refine fin _ ?_
    rw [Bool.eq_false_iff.mpr h, Bool.false_and]
def spRunEnd : Sp := fun vs H Q _ => ∃ (z : Str) (i : Nat), vs = [.str z, .int (i : Int)] ∧ z.length ≤ 100000 ∧ i ≤ z.length ∧ Q (.int ((i + runLen ((tl z).drop i) : Nat) : Int)) H
theorem sc_runend : FnScope ["text", "at"] ["text", "at"] (defScope s_run_end) := ⟨rfl, rfl, rfl, by decide +kernel, rfl, by decide +kernel, by decide +kernel⟩
theorem at_str {z : Str} {i c : Nat} (h : (tl z)[i]? = some c) : atI z.cps.toList (i : Int) = some c := atI_nat (j := i) h
theorem ok_runend {f : Addr} {fd : FuncData} (F : Fun K "run_end" "run_end" s_run_end f fd) (m_len : mg "len" = none) (G_is_letter : Ready P w K mg base 1 "is_letter" ["sign"] spLet) (G_is_figure : Ready P w K mg base 1 "is_figure" ["sign"] spFig) : FnOk P w K mg base CX0 2 f fd ["text", "at"] spRunEnd := by
  refine F.ok sc_runend (fun vs H Q E h => ?_) (fun cdv A outer s H vs Q E hr h => ?_)
  · obtain ⟨z, i, rfl, _⟩ := h
    rfl
  obtain ⟨z, i, rfl, hz, hi, q⟩ := h
  have nd := sc_runend.nd
  have zl : z.length ≤ sizeLine := Nat.le_trans hz (by decide)
  refine ⟨_, pss_cons (ps_while PassesOwn.never (PW.pt (pw_and (pt_cmpR op_lt (pv 1) (pe_callB call_len_str (by rfl) m_len PySem.boot_len (pa_cons (pv 0) pa_nil)) (nomark _)) (pw_and1 (PW.pt (pw_or (pt_val (pe_fn G_is_letter (hr.mono (by decide)) (pa_cons (pe_ix ix_str (pv 0) (pv 1) (fun _ _ => rfl)) pa_nil))) (pw_or1 (pt_val (pe_fn G_is_figure (hr.mono (by decide)) (pa_cons (pe_ix ix_str (pv 0) (pv 1) (fun _ _ => rfl)) pa_nil))))))))) (pss_one (ps_aug (i := 1) nd rfl (.inl rfl) pe_int ip_add)))
    (pss_one (ps_ret (pv 1))), ?_⟩
  have step : ∀ j : Nat, j + runLen ((tl z).drop j) = i + runLen ((tl z).drop i) → ∀ c, (tl z)[j]? = some c → isRun c = true → (j + 1) + runLen ((tl z).drop (j + 1)) = i + runLen ((tl z).drop i) := fun j e c hc hr => by
    obtain ⟨hj, e2⟩ := List.getElem?_eq_some_iff.mp hc
    have : (tl z).drop j = c :: (tl z).drop (j + 1) := by
      rw [List.drop_eq_getElem_cons hj, e2]
    rw [this] at e
    unfold runLen at e ⊢
    rw [List.takeWhile_cons, hr] at e
    simp only [if_true, List.length_cons] at e
    omega
  have stop : ∀ j : Nat, j + runLen ((tl z).drop j) = i + runLen ((tl z).drop i) → (∀ c, (tl z)[j]? = some c → isRun c = false) → j = i + runLen ((tl z).drop i) := fun j e hc => by
    have h0 : runLen ((tl z).drop j) = 0 := by
      cases hd : (tl z).drop j with
      | nil => rfl
      | cons c r =>
        have : (tl z)[j]? = some c := by
          have := congrArg (·[0]?) hd
          simpa using this
        unfold runLen
        rw [List.takeWhile_cons, hc c this]
        rfl
    omega
  refine ⟨fun m σ H' => ∃ j : Nat, m = z.length - j ∧ σ = [some (.str z), some (.int (j : Int))] ∧ H' = H ∧ j ≤ z.length ∧ j + runLen ((tl z).drop j) = i + runLen ((tl z).drop i), ⟨_, i, rfl, rfl, rfl, hi, rfl⟩, ?_⟩
  rintro m σ H' ⟨j, rfl, rfl, rfl, hj, e⟩
  refine ⟨_, rfl, _, rfl, z, rfl, zl, _, _, rfl, rfl, _, rfl, ite2 (fun c1 => ?_) (fun c1 => ?_)⟩
  · have hlt : j < z.length := by
      have := of_decide_eq_true c1
      omega
    have hlt' : j < (tl z).length := by rw [← len_tl]; exact hlt
    have ec : (tl z)[j]? = some (tl z)[j] := List.getElem?_eq_getElem hlt'
    generalize (tl z)[j] = c at ec
    have next : isRun c = true → ∃ N : L2.St → Hp → Prop, (∀ σ' H2, N σ' H2 → ∃ m', m' < z.length - j ∧ ∃ j : Nat, m' = z.length - j ∧ σ' = [some (.str z), some (.int (j : Int))] ∧ H2 = H' ∧ j ≤ z.length ∧ j + runLen ((tl z).drop j) = i + runLen ((tl z).drop i)) ∧ N [some (.str z), some (.int ((j : Int) + 1))] H' := fun hr =>
      ⟨fun σ' H2 => σ' = [some (.str z), some (.int ((j : Int) + 1))] ∧ H2 = H', fun σ' H2 ⟨e1, e2⟩ => ⟨z.length - (j + 1), by omega, j + 1, rfl, by rw [e1, Int.natCast_add]; rfl, e2, hlt, step j e c ec hr⟩, rfl, rfl⟩
    refine ⟨_, rfl, _, rfl, _, _, c, rfl, rfl, zl, at_str ec, c, rfl, _, rfl, ?_⟩
    cases hl : isLet c with
    | true =>
      obtain ⟨N, n1, n2⟩ := next (by unfold isRun; rw [hl]; rfl)
      refine iteT (iteT ⟨N, n1, _, rfl, _, _, rfl, rfl, n2⟩)
    | false =>
      refine iteF ⟨_, rfl, _, rfl, _, _, c, rfl, rfl, zl, at_str ec, c, rfl, _, rfl, ?_⟩
      cases hf : isFig c with
      | true =>
        obtain ⟨N, n1, n2⟩ := next (by unfold isRun; rw [hl, hf]; rfl)
        exact iteT ⟨N, n1, _, rfl, _, _, rfl, rfl, n2⟩
      | false =>
        refine iteF ⟨_, rfl, ?_⟩
        rw [← stop j e (fun c' hc' => by
          rw [ec] at hc'
          rw [← Option.some.inj hc']
          unfold isRun
          rw [hl, hf]
          rfl)] at q
        exact q
  · refine iteF ⟨_, rfl, ?_⟩
    rw [← stop j e (fun c' hc' => by
      have : j < (tl z).length := (List.getElem?_eq_some_iff.mp hc').1
      rw [← len_tl] at this
      exact absurd (decide_eq_true (by omega)) c1)] at q
    exact q
end
end Kx

namespace Kx
open PySem PySem.Spec PyProof.Rows L2 TL
abbrev s_piece_at : Stmt := topS 32
section
variable {P : Program} {w : World} {K : PySem.W.Frag} {mg : Str → Option Value} {base : Heap}
/-! ### is_number -/
def spNumber : Sp := fun vs H Q _ => ∃ z : Str, vs = [.str z] ∧ z.length ≤ 100000 ∧ tl z ≠ [] ∧ ∀ H', Same H H' → Q (.bl (isNumB (tl z))) H'
abbrev N_is_number : List Str := ["run", "sign"]
theorem sc_number : FnScope N_is_number ["run"] (defScope s_is_number) := ⟨rfl, rfl, rfl, by decide +kernel, rfl, by decide +kernel, by decide +kernel⟩
theorem ok_number {f : Addr} {fd : FuncData} (F : Fun K "is_number" "is_number" s_is_number f fd) (m_len : mg "len" = none) (m_all : mg "all" = none) (m_M : ∃ t, mg "MOST_FIGURES" = some (.int 18 t)) (G_is_figure : Ready P w K mg base 1 "is_figure" ["sign"] spFig) :
    FnOk P w K mg base CX0 2 f fd ["run"] spNumber := by
  refine F.ok sc_number (fun vs H Q E h => ?_) (fun cdv A outer s H vs Q E hr h => ?_)
  · obtain ⟨c, rfl, _⟩ := h
    rfl
  obtain ⟨z, rfl, hz, hne, q⟩ := h
  obtain ⟨tM, m_M⟩ := m_M
  have nd := sc_number.nd
  refine ⟨_, pss_cons (ps_if (pt_cmpR op_eq (pv 0) pe_str (nomark _)) (pss_one (ps_ret pe_bl)) (pss_nil))
      (pss_one (ps_ret (pe_and (pe_cmpR op_le (pe_callB call_len_str (by rfl) m_len PySem.boot_len (pa_cons (pv 0) pa_nil)) (pe_glob (v := .int 18) rfl m_M ⟨_, rfl⟩) (nomark _)) (pe_and (pe_cmpR op_ne (pe_ix ix_str (pv 0) pe_int (fun _ _ => rfl)) pe_str (nomark _)) (pe_one (pe_callB (cr_all rfl) (by rfl) m_all PyProof.Rows.boot_all (pa_cons (pe_lc (own := [("sign", 1)]) (g := gName 1) (tt := tYes) rfl nd (pi_str (pv 0)) (blkOk_by (N := N_is_number) (sc := defScope s_is_number) (by decide +kernel)) (fun _ _ _ _ _ => pg_name (i := 1) nd rfl (Or.inl rfl)) (fun _ _ _ _ _ => pts_nil) (fun _ _ _ _ _ => (pe_fn G_is_figure (hr.mono (by decide)) (pa_cons (pv 1) pa_nil)))) pa_nil))))))), ?_⟩
  have zl : z.length ≤ sizeLine := Nat.le_trans hz (by decide)
  have e0 : ∀ {c : Nat}, (V.str ⟨#[c]⟩ = V.str "0") ↔ c = 48 := fun {c} => by
    have e : ("0" : Str) = ⟨#[48]⟩ := by decide +kernel
    rw [e]
    have h := one_sign c 48
    by_cases hc : c = 48
    · exact ⟨fun _ => hc, fun _ => by rw [hc]⟩
    · rw [decide_eq_false hc] at h
      exact ⟨fun z => absurd z (of_decide_eq_false h), fun z => absurd z hc⟩
  refine ⟨_, rfl, rfl, _, rfl, ite2 (fun c => ?_) (fun c => ?_)⟩
  · have c' : z = "0" := V.str.inj (of_decide_eq_true c)
    have e : isNumB (tl z) = true := by
      rw [c']
      decide +kernel
    rw [e] at q
    exact q _ (Same.refl _)
  have nz : tl z ≠ [48] := fun e => c (decide_eq_true (by
    have e2 : z = ⟨#[48]⟩ := by
      obtain ⟨⟨l⟩⟩ := z
      exact congrArg (fun x : List Nat => (⟨x.toArray⟩ : Str)) e
    rw [e2]
    decide +kernel))
  unfold isNumB at q
  rw [decide_eq_false nz, Bool.false_or] at q
  have hl18 : decide ((z.length : Int) ≤ 18) = decide ((tl z).length ≤ 18) := by
    rw [len_tl]
    exact decide_eq_decide.mpr (by omega)
  obtain ⟨c0, r0, ez⟩ : ∃ c0 r0, tl z = c0 :: r0 := by
    cases e : tl z with
    | nil => exact absurd e hne
    | cons c r => exact ⟨c, r, rfl⟩
  have hd : ((tl z).head? ≠ some 48) = (c0 ≠ 48) := by
    rw [ez]
    exact propext ⟨fun h e => h (by rw [e]; rfl), fun h e => h (Option.some.inj e)⟩
  refine ⟨_, rfl, _, rfl, zl, _, _, rfl, rfl, _, rfl, ?_⟩
  rw [hl18]
  refine ite2 (fun c1 => ?_) (fun c1 => ?_)
  · rw [c1, Bool.true_and] at q
    refine ⟨_, rfl, z, ((0 : Nat) : Int), c0, rfl, rfl, zl, at_str (by rw [ez]; rfl), rfl, _, rfl, ite2 (fun c2 => ?_) (fun c2 => ?_)⟩
    · have h48 : c0 ≠ 48 := fun e => by
        rw [decide_eq_true (e0.mpr e)] at c2
        cases c2
      rw [decide_eq_true (show (tl z).head? ≠ some 48 by rw [hd]; exact h48), Bool.true_and] at q
      refine ⟨_, rfl, _, rfl, fun D hD => ?_⟩
      refine lc_it walk_str (fun i H' => Same H H' ∧ H' D = some (.lst ((((tl z).map isFig).take i).map V.bl))) ⟨same_upd hD, upd_same⟩ (fun _ _ _ _ => trivial) ?_ ?_
      · rintro i v H2 H3 hi ⟨sm, eD⟩ ⟨rfl, ch, ec, rfl⟩
        have ec' : (tl z)[i]? = some ch := by
          rw [← ec]
          exact Array.getElem?_toList
        have hk : ((tl z).map isFig).take (i + 1) = ((tl z).map isFig).take i ++ [isFig ch] := by
          rw [List.take_succ, List.getElem?_map, ec']
          rfl
        refine ⟨rfl, _, rfl, ch, rfl, _, eD, ?_, fun b o e => ?_, ?_⟩
        · rw [List.length_map, List.length_take, List.length_map]
          exact Nat.lt_of_le_of_lt (Nat.min_le_left _ _) (Nat.lt_of_lt_of_le hi zl)
        · rw [upd_ne (ne_of_none e hD)]
          exact sm _ _ e
        · rw [upd_same, hk, List.map_append]
          rfl
      rintro H2 ⟨sm, eD⟩
      have eT : ((tl z).map isFig).take z.cps.size = (tl z).map isFig := by
        apply List.take_of_length_le
        rw [List.length_map]
        exact Nat.le_of_eq (len_tl z).symm
      rw [eT] at eD
      have ea : ((tl z).map isFig).all id = (tl z).all isFig := by
        rw [List.all_map]
        rfl
      refine ⟨D, _, rfl, SqL.of eD, ?_⟩
      rw [ea]
      exact q _ sm
    · have h48 : c0 = 48 := Classical.byContradiction fun z => c2 (by rw [decide_eq_false (fun h => z (e0.mp h))]; rfl)
      rw [decide_eq_false (show ¬ ((tl z).head? ≠ some 48) by rw [hd]; exact fun h => h h48), Bool.false_and] at q
      exact q _ (Same.refl _)
  · rw [Bool.eq_false_iff.mpr c1, Bool.false_and] at q
    exact q _ (Same.refl _)
end
end Kx

namespace Kx
open PySem PySem.Spec PyProof.Rows L2 TL
theorem take_min {l : List Nat} {i n : Nat} (hi : i ≤ l.length) : (l.drop i).take (min (i + n) l.length - i) = (l.drop i).take n := by
  by_cases h : i + n ≤ l.length
  · rw [Nat.min_eq_left h]
    congr 1
    omega
  · rw [Nat.min_eq_right (by omega), List.take_of_length_le (by rw [List.length_drop]; exact Nat.le_refl _), List.take_of_length_le (by rw [List.length_drop]; omega)]
theorem cutS_part {z : Str} {i n : Nat} (h : i ≤ z.length) : cutS z (some (i : Int)) (some ((i + n : Nat) : Int)) = mkS (((tl z).drop i).take n) := by
  unfold cutS mkS
  rw [HT.sIx_nat, HT.sIx_nat, Nat.min_eq_left h, len_tl, take_min (by rw [← len_tl]; exact h)]
theorem take_run (p : Nat → Bool) (l : List Nat) : l.take (l.takeWhile p).length = l.takeWhile p := (List.prefix_iff_eq_take.mp (List.takeWhile_prefix p)).symm
theorem run_int {l : List Nat} (h : isNumB l = true) (hne : l ≠ []) : intText? (mkS l) = some ((NumText.digitsVal l : Nat) : Int) ∧ (mkS l).length ≤ 640 := by
  have hf : l.all isFig = true ∧ l.length ≤ 18 := by
    unfold isNumB at h
    rcases Bool.or_eq_true_iff.mp h with h | h
    · have e := of_decide_eq_true h
      subst e
      exact ⟨by decide, by decide⟩
    · rw [Bool.and_eq_true_iff, Bool.and_eq_true_iff] at h
      exact ⟨h.2, of_decide_eq_true h.1.1⟩
  have hl : (mkS l).length = l.length := by
    unfold mkS Str.length
    simp
  have et : (mkS l).cps.toList = l := by
    unfold mkS
    simp
  refine ⟨?_, by omega⟩
  have h2 := intText_digits (x := mkS l) (fun c hc => ?_) (by rw [et]; exact hne) (by omega)
  · rw [et] at h2
    exact h2
  · rw [et] at hc
    have := List.all_eq_true.mp hf.1 c hc
    unfold isFig at this
    rw [Bool.and_eq_true] at this
    exact ⟨of_decide_eq_true this.1, of_decide_eq_true this.2⟩
theorem tw_at {l : List Nat} {k : Nat} (hk : l[k]? = some 34) (hb : ∀ v, v < k → ∀ c, l[v]? = some c → c ≠ 34) : (l.takeWhile fun x => decide (x ≠ 34)).length = k := by
  induction l generalizing k with
  | nil => cases hk
  | cons a l ih =>
    cases k with
    | zero =>
      have e : a = 34 := by simpa using hk
      subst e
      rfl
    | succ k =>
      have ha : a ≠ 34 := hb 0 (Nat.succ_pos _) a rfl
      rw [List.takeWhile_cons, if_pos (decide_eq_true ha), List.length_cons, ih (by simpa using hk) fun v hv c hc => hb (v + 1) (Nat.succ_lt_succ hv) c (by simpa using hc)]
theorem flat_strs : ∀ l : List Str, (l.map V.str).all flatV = true
  | [] => rfl
  | _ :: l => flat_strs l
theorem inV_str (z : Str) : ∀ l : List Str, inV (.str z) (l.map V.str) = decide (z ∈ l)
  | [] => rfl
  | x :: r => by
    have ih := inV_str z r
    show (x == z || inV (.str z) (r.map V.str)) = _
    rw [ih]
    by_cases h : x = z
    · subst h
      simp
    · have h' : ¬ z = x := fun e => h e.symm
      simp [h, h']
theorem in_strs {z : Str} {l : List Str} {A B : Prop} (h1 : z ∈ l → A) (h2 : z ∉ l → B) : if (if false = true then !inV (.str z) (l.map V.str) else inV (.str z) (l.map V.str)) = true then A else B := by
  rw [if_neg Bool.false_ne_true, inV_str]
  by_cases h : z ∈ l
  · rw [decide_eq_true h]
    exact iteT (h1 h)
  · rw [decide_eq_false h]
    exact iteF (h2 h)
def pvV : PV → V
  | .tx z => .str z
  | .nm n => .int (n : Int)
/-- the program's tables of pieces -/
structure Tbl (K : PySem.W.Frag) (mg : Str → Option Value) : Prop where
  own : ∃ a, mg "OWN_WORDS" = some (.ref a) ∧ ∀ H : Hp, SqT K H a (owns.map V.str)
  lng : ∃ a, mg "LONG_SIGNS" = some (.ref a) ∧ ∀ H : Hp, SqT K H a (longs.map V.str)
  sho : ∃ t, mg "SHORT_SIGNS" = some (.str "(),=<>+-*/:" t)
section
variable {P : Program} {w : World} {K : PySem.W.Frag} {mg : Str → Option Value} {base : Heap}
def spPiece : Sp := fun vs H Q _ => ∃ (z : Str) (i : Nat), vs = [.str z, .int (i : Int)] ∧ z.length ≤ 100000 ∧ i < z.length ∧ (pcAt ((tl z).drop i) = none → ∀ H', Same H H' → Q .non H') ∧
  ∀ k v n, pcAt ((tl z).drop i) = some (k, v, n) → ∀ (p : Addr) (H' : Hp), Same H H' → H' p = some (.tup [.str k, pvV v, .int ((i + n : Nat) : Int)]) → Q (.ref p) H'
abbrev N_piece_at : List Str := ["text", "at", "sign", "end", "run"]
theorem sc_piece : FnScope N_piece_at ["text", "at"] (defScope s_piece_at) := ⟨rfl, rfl, rfl, by decide +kernel, rfl, by decide +kernel, by decide +kernel⟩
theorem ok_piece {f : Addr} {fd : FuncData} (F : Fun K "piece_at" "piece_at" s_piece_at f fd) (T : Tbl K mg) (m_int : mg "int" = none) (G_is_letter : Ready P w K mg base 1 "is_letter" ["sign"] spLet) (G_is_figure : Ready P w K mg base 1 "is_figure" ["sign"] spFig) (G_run_end : Ready P w K mg base 2 "run_end" ["text", "at"] spRunEnd) (G_is_number : Ready P w K mg base 2 "is_number" ["run"] spNumber) : FnOk P w K mg base CX0 3 f fd ["text", "at"] spPiece := by
  refine F.ok sc_piece (fun vs H Q E h => ?_) (fun cdv A outer s H vs Q E hr h => ?_)
  · obtain ⟨z, i, rfl, _⟩ := h
    rfl
  obtain ⟨z, i, rfl, hz, hi, qn, q⟩ := h
  obtain ⟨aO, m_O, tO⟩ := T.own
  obtain ⟨aL, m_L, tL⟩ := T.lng
  obtain ⟨tS, m_S⟩ := T.sho
  have nd := sc_piece.nd
  have hr2 : Room 2 _ := hr
  have hr1 : Room 1 _ := hr.mono (by decide)
  have zl : z.length ≤ sizeLine := Nat.le_trans hz (by decide)
  have z3 : 3 ≤ sizeLine := by decide
  refine ⟨_, pss_cons (ps_set (i := 2) nd rfl (.inl rfl) (pe_ix ix_str (pv 0) (pv 1) (fun _ _ => rfl)))
      (pss_cons (ps_if (pt_val (pe_fn G_is_letter hr1 (pa_cons (pv 2) pa_nil))) (pss_cons (ps_set (i := 3) nd rfl (.inl rfl) (pe_fn G_run_end hr2 (pa_cons (pv 0) (pa_cons (pv 1) pa_nil))))
      (pss_cons (ps_set (i := 4) nd rfl (.inl rfl) (pe_slice sl_str (pv 0) (po_some (pv 1)) (po_some (pv 3))))
      (pss_cons (ps_if (pt_cmpR op_in_seq (pv 4) (pe_glob (v := .ref aO) rfl m_O rfl) rfl) (pss_one (ps_ret (pe_tup (pa_cons pe_str (pa_cons (pv 4) (pa_cons (pv 3) pa_nil)))))) (pss_nil))
      (pss_one (ps_ret (pe_tup (pa_cons pe_str (pa_cons (pv 4) (pa_cons (pv 3) pa_nil))))))))) (pss_nil))
      (pss_cons (ps_if (pt_val (pe_fn G_is_figure hr1 (pa_cons (pv 2) pa_nil))) (pss_cons (ps_set (i := 3) nd rfl (.inl rfl) (pe_fn G_run_end hr2 (pa_cons (pv 0) (pa_cons (pv 1) pa_nil))))
      (pss_cons (ps_set (i := 4) nd rfl (.inl rfl) (pe_slice sl_str (pv 0) (po_some (pv 1)) (po_some (pv 3))))
      (pss_cons (ps_if (pt_val (pe_fn G_is_number hr2 (pa_cons (pv 4) pa_nil))) (pss_one (ps_ret (pe_tup (pa_cons pe_str (pa_cons (pe_callTy call_int_str (by rfl) m_int boot_int (pa_cons (pv 4) pa_nil)) (pa_cons (pv 3) pa_nil)))))) (pss_nil))
      (pss_one (ps_ret pe_non))))) (pss_nil))
      (pss_cons (ps_if (pt_cmpR op_eq (pv 2) pe_str (nomark _)) (pss_cons (ps_set (i := 3) nd rfl (.inl rfl) (pe_bm PySem.F.plainAttrs_str PySem.F.slot_str_find PySem.F.type_str_find mt_find3 (pv 0) (pa_cons pe_str (pa_cons (pe_op op_add (pv 1) pe_int) pa_nil))))
      (pss_cons (ps_if (pt_cmpR op_lt (pv 3) pe_int (nomark _)) (pss_one (ps_ret pe_non)) (pss_nil))
      (pss_one (ps_ret (pe_tup (pa_cons pe_str (pa_cons (pe_slice sl_str (pv 0) (po_some (pe_op op_add (pv 1) pe_int)) (po_some (pv 3))) (pa_cons (pe_op op_add (pv 3) pe_int) pa_nil)))))))) (pss_nil))
      (pss_cons (ps_if (pt_cmpR op_in_seq (pe_slice sl_str (pv 0) (po_some (pv 1)) (po_some (pe_op op_add (pv 1) pe_int))) (pe_glob (v := .ref aL) rfl m_L rfl) rfl) (pss_one (ps_ret (pe_tup (pa_cons pe_str (pa_cons (pe_slice sl_str (pv 0) (po_some (pv 1)) (po_some (pe_op op_add (pv 1) pe_int))) (pa_cons (pe_op op_add (pv 1) pe_int) pa_nil)))))) (pss_nil))
      (pss_cons (ps_if (pt_cmpR op_in_sign (pv 2) (pe_glob (v := .str "(),=<>+-*/:") rfl m_S ⟨_, rfl⟩) rfl) (pss_one (ps_ret (pe_tup (pa_cons pe_str (pa_cons (pv 2) (pa_cons (pe_op op_add (pv 1) pe_int) pa_nil)))))) (pss_nil))
      (pss_one (ps_ret pe_non))))))), ?_⟩
  obtain ⟨c, r, eL⟩ : ∃ c r, (tl z).drop i = c :: r := by
    cases e : (tl z).drop i with
    | nil =>
      have := List.drop_eq_nil_iff.mp e
      rw [← len_tl] at this
      omega
    | cons c r => exact ⟨c, r, rfl⟩
  have ec : (tl z)[i]? = some c := by
    have h := congrArg (·[0]?) eL
    simpa using h
  have hrl : i + runLen ((tl z).drop i) ≤ z.length := by
    have h := runLen_le ((tl z).drop i)
    rw [List.length_drop, ← len_tl] at h
    omega
  have erun : cutS z (some (i : Int)) (some ((i + runLen ((tl z).drop i) : Nat) : Int)) = mkS (((tl z).drop i).takeWhile isRun) := by
    rw [cutS_part (by omega)]
    unfold runLen
    rw [take_run]
  refine ⟨_, rfl, _, rfl, z, _, c, rfl, rfl, zl, at_str ec, ?_⟩
  refine ⟨_, rfl, c, rfl, _, rfl, ?_⟩
  refine ite2 (fun c1 => ?_) (fun c1 => ?_)
  · refine ⟨_, rfl, _, rfl, z, i, rfl, hz, by omega, ?_⟩
    refine ⟨_, rfl, _, rfl, _, rfl, _, rfl, _, rfl, z, rfl, zl, ?_⟩
    rw [erun]
    have e1 : pcAt ((tl z).drop i) = if mkS (((tl z).drop i).takeWhile isRun) ∈ owns then some (("own" : Str), PV.tx (mkS (((tl z).drop i).takeWhile isRun)), runLen ((tl z).drop i)) else some (("name" : Str), PV.tx (mkS (((tl z).drop i).takeWhile isRun)), runLen ((tl z).drop i)) := by
      rw [eL]
      unfold pcAt
      dsimp only
      rw [if_pos c1]
    refine ⟨_, rfl, aO, _, rfl, .inr (tO _), rfl, flat_strs _, _, rfl, in_strs (fun ho => ?_) (fun ho => ?_)⟩
    · rw [if_pos ho] at e1
      exact ⟨_, rfl, _, rfl, z3, fun p hp => q _ _ _ e1 p _ (same_upd hp) upd_same⟩
    · rw [if_neg ho] at e1
      exact ⟨_, rfl, _, rfl, z3, fun p hp => q _ _ _ e1 p _ (same_upd hp) upd_same⟩
  refine ⟨_, rfl, c, rfl, _, rfl, ?_⟩
  refine ite2 (fun c2 => ?_) (fun c2 => ?_)
  · refine ⟨_, rfl, _, rfl, z, i, rfl, hz, by omega, ?_⟩
    refine ⟨_, rfl, _, rfl, _, rfl, _, rfl, _, rfl, z, rfl, zl, ?_⟩
    rw [erun]
    have ne : ((tl z).drop i).takeWhile isRun ≠ [] := by
      rw [eL, List.takeWhile_cons, if_pos (by unfold isRun; rw [c2, Bool.or_true])]
      intro z
      cases z
    have et : tl (mkS (((tl z).drop i).takeWhile isRun)) = ((tl z).drop i).takeWhile isRun := by
      unfold mkS tl
      simp
    have e1 : pcAt ((tl z).drop i) = if isNumB (((tl z).drop i).takeWhile isRun) = true then some (("number" : Str), PV.nm (NumText.digitsVal (((tl z).drop i).takeWhile isRun)), runLen ((tl z).drop i)) else none := by
      rw [eL]
      unfold pcAt
      dsimp only
      rw [if_neg c1, if_pos c2]
    refine ⟨_, rfl, _, rfl, ?_, by rw [et]; exact ne, fun H2 s2 => ?_⟩
    · have h1 : (mkS (((tl z).drop i).takeWhile isRun)).length = (((tl z).drop i).takeWhile isRun).length := by
        unfold mkS Str.length
        simp
      have h2 := (List.takeWhile_prefix (p := isRun) (l := (tl z).drop i)).length_le
      rw [List.length_drop, ← len_tl] at h2
      omega
    rw [et]
    refine ⟨_, rfl, ite2 (fun hn => ?_) (fun hn => ?_)⟩
    · rw [if_pos hn] at e1
      obtain ⟨k1, k2⟩ := run_int hn ne
      exact ⟨_, rfl, _, _, rfl, k1, k2, _, rfl, z3, fun p hp => q _ _ _ e1 p _ (s2.trans (same_upd hp)) upd_same⟩
    · rw [if_neg hn] at e1
      exact qn e1 _ s2
  have e34 : (V.str ⟨#[c]⟩ = V.str "\"") ↔ c = 34 := by
    have e : ("\"" : Str) = ⟨#[34]⟩ := by decide +kernel
    rw [e]
    have h := one_sign c 34
    by_cases hc : c = 34
    · exact ⟨fun _ => hc, fun _ => by rw [hc]⟩
    · rw [decide_eq_false hc] at h
      exact ⟨fun z => absurd z (of_decide_eq_false h), fun z => absurd z hc⟩
  refine ⟨_, rfl, rfl, _, rfl, ite2 (fun c3 => ?_) (fun c3 => ?_)⟩
  · have hc := e34.mp (of_decide_eq_true c3)
    have er : (tl z).drop (i + 1) = r := by
      have h := congrArg (List.drop 1) eL
      rw [List.drop_drop] at h
      simpa using h
    have eq34 : ("\"" : Str) = ⟨#[34]⟩ := by decide +kernel
    have fr : fromIndex z.length ((i : Int) + 1) = i + 1 := by
      unfold fromIndex
      rw [if_neg (by omega)]
      omega
    have gd : ∀ v, z.cps.getD v 0 = ((tl z)[v]?).getD 0 := fun v => by
      rw [Array.getD_eq_getD_getElem?]
      unfold tl
      rw [Array.getElem?_toList]
    have sp := PySem.StrLaws.find3_spec z 34 ((i : Int) + 1)
    rw [fr] at sp
    have e1 : pcAt ((tl z).drop i) = if 34 ∈ r then some (("quoted" : Str), PV.tx (mkS (r.takeWhile fun x => decide (x ≠ 34))), (r.takeWhile fun x => decide (x ≠ 34)).length + 2) else none := by
      rw [eL]
      unfold pcAt
      dsimp only
      rw [if_neg c1, if_neg c2, if_pos hc]
    refine ⟨_, rfl, rfl, _, rfl, _, _, rfl, rfl, z, _, _, rfl, rfl, ?_⟩
    rw [eq34]
    rcases sp with ⟨h1, h2⟩ | ⟨k, h1, h2, h3, h4, h5⟩
    · rw [h1]
      have hn : 34 ∉ r := fun hm => by
        obtain ⟨v, hv⟩ := List.mem_iff_getElem?.mp hm
        rw [← er, List.getElem?_drop] at hv
        have hl := (List.getElem?_eq_some_iff.mp hv).1
        rw [← len_tl] at hl
        refine h2 (i + 1 + v) (by omega) hl ?_
        rw [gd, hv]
        rfl
      rw [if_neg hn] at e1
      exact ⟨_, rfl, _, _, rfl, rfl, _, rfl, iteT (qn e1 _ (Same.refl _))⟩
    · rw [h1]
      have hk : (tl z)[k]? = some 34 := by
        have hl : k < (tl z).length := by rw [← len_tl]; exact h3
        rw [gd, List.getElem?_eq_getElem hl] at h4
        rw [List.getElem?_eq_getElem hl]
        exact congrArg some h4
      have hr2 : r[k - (i + 1)]? = some 34 := by
        rw [← er, List.getElem?_drop]
        rw [show i + 1 + (k - (i + 1)) = k by omega]
        exact hk
      have hm : 34 ∈ r := List.mem_of_getElem? hr2
      have tw := tw_at hr2 fun v hv c' hc' e => by
        rw [← er, List.getElem?_drop] at hc'
        refine h5 (i + 1 + v) (by omega) (by omega) ?_
        rw [gd, hc', e]
        rfl
      rw [if_pos hm] at e1
      have es : cutS z (some ((i : Int) + 1)) (some (k : Int)) = mkS (r.takeWhile fun x => decide (x ≠ 34)) := by
        have h := cutS_part (z := z) (i := i + 1) (n := k - (i + 1)) (by omega)
        rw [show i + 1 + (k - (i + 1)) = k by omega, er] at h
        rw [show ((i : Int) + 1) = ((i + 1 : Nat) : Int) from rfl, h, ← tw, take_run]
      refine ⟨_, rfl, _, _, rfl, rfl, _, rfl, ite2 (fun cc => absurd (of_decide_eq_true cc) (by omega)) (fun _ => ?_)⟩
      refine ⟨_, rfl, _, rfl, _, _, rfl, rfl, _, rfl, _, rfl, _, rfl, z, rfl, zl, ?_⟩
      rw [es]
      refine ⟨_, rfl, _, _, rfl, rfl, z3, fun p hp => q _ _ _ e1 p _ (same_upd hp) ?_⟩
      rw [upd_same]
      have en : ((i + ((r.takeWhile fun x => decide (x ≠ 34)).length + 2) : Nat) : Int) = (k : Int) + 1 := by
        rw [tw]
        omega
      rw [en]
      rfl
  have n34 : ¬ c = 34 := fun e => c3 (decide_eq_true (e34.mpr e))
  have e2 : cutS z (some (i : Int)) (some ((i : Int) + 2)) = mkS (((tl z).drop i).take 2) := cutS_part (z := z) (i := i) (n := 2) (by omega)
  refine ⟨_, rfl, _, rfl, _, rfl, _, rfl, _, _, rfl, rfl, _, rfl, z, rfl, zl, ?_⟩
  rw [e2]
  have e1 : pcAt ((tl z).drop i) = if mkS (((tl z).drop i).take 2) ∈ longs then some (("own" : Str), PV.tx (mkS (((tl z).drop i).take 2)), 2) else if c ∈ shorts then some (("own" : Str), PV.tx (mkS [c]), 1) else none := by
    rw [eL]
    unfold pcAt
    dsimp only
    rw [if_neg c1, if_neg c2, if_neg n34]
  refine ⟨aL, _, rfl, .inr (tL _), rfl, flat_strs _, _, rfl, in_strs (fun ho => ?_) (fun ho => ?_)⟩
  · rw [if_pos ho] at e1
    refine ⟨_, rfl, _, rfl, _, rfl, _, rfl, _, _, rfl, rfl, _, rfl, z, rfl, zl, ?_⟩
    rw [e2]
    exact ⟨_, rfl, _, _, rfl, rfl, z3, fun p hp => q _ _ _ e1 p _ (same_upd hp) upd_same⟩
  rw [if_neg ho] at e1
  have es : (("(),=<>+-*/:" : Str)).cps.toList = shorts := by decide +kernel
  refine ⟨_, rfl, c, _, rfl, rfl, _, rfl, ?_⟩
  rw [es]
  refine ite2 (fun cc => ?_) (fun cc => ?_)
  · rw [if_pos (of_decide_eq_true cc)] at e1
    exact ⟨_, rfl, _, rfl, _, _, rfl, rfl, z3, fun p hp => q _ _ _ e1 p _ (same_upd hp) upd_same⟩
  · rw [if_neg (fun h => cc (decide_eq_true h))] at e1
    exact qn e1 _ (Same.refl _)
end
end Kx

namespace Kx
open PySem PySem.Spec PyProof.Rows L2 TL
abbrev s_is_bracket : Stmt := topS 33
abbrev s_pieces_of : Stmt := topS 34
def BadAt (C : Addr) (n c : Int) (H : Hp) (E : XK) : Prop := ∀ (H' : Hp) (d : Addr), Same H H' → H' d = none → E (.ref C) (some d) (upd H' d (.xd [("line", .int n), ("column", .int c)]))
theorem BadAt.same {C : Addr} {n c : Int} {H H' : Hp} {E : XK} (h : BadAt C n c H E) (s : Same H H') : BadAt C n c H' E := fun H2 d s2 nd => h H2 d (s.trans s2) nd
/-- pieces in the heap -/
def PcsAt (H : Hp) (as : List (Addr × Pc)) : Prop := ∀ p ∈ as, H p.1 = some (.tup [.str p.2.kind, pvV p.2.val, .int (p.2.col : Int)])
theorem PcsAt.keep {H H' : Hp} {as : List (Addr × Pc)} (h : PcsAt H as) (k : ∀ (a : Addr) (xs : List V), H a = some (.tup xs) → H' a = some (.tup xs)) : PcsAt H' as := fun p hp => k _ _ (h p hp)
theorem pcAt_own {l : List Nat} {v : PV} {n : Nat} {k : Str} (h : pcAt l = some (k, v, n)) (hk : k = "own") : ∃ z, v = .tx z := by
  have n1 : ("number" : Str) ≠ "own" := by decide +kernel
  unfold pcAt at h
  match l with
  | [] => cases h
  | c :: r =>
    dsimp only at h
    repeat' split at h
    all_goals first
      | (cases h; done)
      | (injection h with h; injection h with h1 h2; injection h2 with h2 h3; exact ⟨_, h2.symm⟩)
      | (injection h with h; injection h with h1 h2; exact absurd (h1.trans hk) n1)
section
variable {P : Program} {w : World} {K : PySem.W.Frag} {mg : Str → Option Value} {base : Heap}
def spBr : Sp := fun vs H Q _ => ∃ (p : Addr) (k : Str) (v : PV) (x : V), vs = [.ref p] ∧ H p = some (.tup [.str k, pvV v, x]) ∧ (k = "own" → ∃ z, v = .tx z) ∧ ∀ H', Same H H' → Q (.bl (isBr k v)) H'
theorem sc_br : FnScope ["piece"] ["piece"] (defScope s_is_bracket) := ⟨rfl, rfl, rfl, by decide +kernel, rfl, by decide +kernel, by decide +kernel⟩
theorem ok_br {f : Addr} {fd : FuncData} (F : Fun K "is_bracket" "is_bracket" s_is_bracket f fd) : FnOk P w K mg base CX0 1 f fd ["piece"] spBr := by
  refine F.ok sc_br (fun vs H Q E h => ?_) (fun cdv A outer s H vs Q E hr h => ?_)
  · obtain ⟨p, k, v, x, rfl, _⟩ := h
    rfl
  obtain ⟨p, k, v, x, rfl, ep, ho, q⟩ := h
  have z2 : 2 ≤ sizeLine := by decide
  refine ⟨_, pss_one (ps_ret (pe_and (pe_cmpR op_eq (pe_ix ix_tup (pv 0) pe_int (fun _ _ => rfl)) pe_str (nomark _)) (pe_one (pe_cmpR op_in_seq (pe_ix ix_tup (pv 0) pe_int (fun _ _ => rfl)) (pe_tup (pa_cons pe_str (pa_cons pe_str pa_nil))) (by with_unfolding_all rfl))))), ?_⟩
  unfold isBr at q
  refine ⟨_, rfl, p, _, 0, _, rfl, rfl, SqT.of ep, rfl, rfl, _, rfl, ite2 (fun c => ?_) (fun c => ?_)⟩
  · have hk : k = "own" := V.str.inj (of_decide_eq_true c)
    obtain ⟨z, rfl⟩ := ho hk
    rw [decide_eq_true hk, Bool.true_and] at q
    refine ⟨_, rfl, p, _, 1, _, rfl, rfl, SqT.of ep, rfl, z2, fun t ht => ⟨t, _, rfl, .inr (SqT.of upd_same), rfl, rfl, ?_⟩⟩
    have e : (if false = true then !inV (V.str z) ((["(", ")"] : List Str).map V.str) else inV (V.str z) ((["(", ")"] : List Str).map V.str)) = (decide (PV.tx z = PV.tx "(") || decide (PV.tx z = PV.tx ")")) := by
      rw [if_neg Bool.false_ne_true, inV_str]
      by_cases h1 : z = "("
      · subst h1
        decide +kernel
      · by_cases h2 : z = ")"
        · subst h2
          decide +kernel
        · rw [decide_eq_false (by simp [h1, h2]), decide_eq_false (fun e => h1 (PV.tx.inj e)), decide_eq_false (fun e => h2 (PV.tx.inj e))]
          rfl
    rw [← e] at q
    exact q _ (same_upd ht)
  · have hk : k ≠ "own" := fun e => c (decide_eq_true (by rw [e]))
    rw [decide_eq_false hk, Bool.false_and] at q
    exact q _ (Same.refl _)
/-! ### pieces_of -/
theorem pcs_take {all f at_ many : Nat} {l : List Nat} {c : Nat} (h : l.head? = some c) (h35 : c ≠ 35) (h32 : c ≠ 32) : pcs all (f + 1) at_ many l = match pcAt l with
    | none => .error (at_ + 1)
    | some (k, v, n) =>
      if 300 < (if isBr k v = true then many else many + 1) then .error (at_ + 1)
      else match pcs all f (at_ + n) (if isBr k v = true then many else many + 1) (l.drop n) with
        | .error e => .error e
        | .ok ps => .ok (⟨k, v, at_ + 1⟩ :: ps) := by
  match l with
  | [] => cases h
  | a :: r =>
    have e : a = c := Option.some.inj h
    subst e
    rw [pcs]
    rw [if_neg h35, if_neg h32] <;> rfl
/-- what is read so far, and the rest -/
def joinP (ps : List Pc) : Except Nat (List Pc) → Except Nat (List Pc)
  | .ok qs => .ok (ps ++ qs)
  | .error e => .error e
def spPieces (K : PySem.W.Frag) (C : Addr) : Sp := fun vs H Q E => ∃ (z : Str) (m : Int), vs = [.str z, .int m] ∧ z.length ≤ 100000 ∧
  (∀ ps, piecesOf z = .ok ps → ∀ (l : Addr) (as : List (Addr × Pc)) (H' : Hp), Same H H' → H' l = some (.lst (as.map fun p => .ref p.1)) → PcsAt H' as → as.map (·.2) = ps → Q (.ref l) H') ∧
  ∀ c, piecesOf z = .error c → BadAt C m (c : Nat) H E
abbrev N_pieces_of : List Str := ["text", "number", "pieces", "many", "at", "piece"]
theorem sc_pieces : FnScope N_pieces_of ["text", "number"] (defScope s_pieces_of) := ⟨rfl, rfl, rfl, by decide +kernel, rfl, by decide +kernel, by decide +kernel⟩
theorem ok_pieces {f C fI : Addr} {fd : FuncData} (F : Fun K "pieces_of" "pieces_of" s_pieces_of f fd) (T : PySem.BadY.BadTxt K mg C fI) (m_len : mg "len" = none) (m_M : ∃ t, mg "MOST_PIECES" = some (.int 300 t)) (G_piece_at : Ready P w K mg base 3 "piece_at" ["text", "at"] spPiece) (G_is_bracket : Ready P w K mg base 1 "is_bracket" ["piece"] spBr) : FnOk P w K mg base (L2.CX P w) 4 f fd ["text", "number"] (spPieces K C) := by
  refine F.okX sc_pieces (fun vs H Q E h => ?_) (fun cdv A outer s H vs Q E hr h => ?_)
  · obtain ⟨z, m, rfl, _⟩ := h
    rfl
  obtain ⟨z, m, rfl, hz, q, qe⟩ := h
  obtain ⟨tM, m_M⟩ := m_M
  have nd := sc_pieces.nd
  have hr3 : Room 3 _ := hr
  have hr1 : Room 1 _ := hr.mono (by decide)
  have zl : z.length ≤ sizeLine := Nat.le_trans hz (by decide)
  have z3 : 3 ≤ sizeLine := by decide
  refine ⟨_, pss_cons (ps_set (i := 2) nd rfl (.inl rfl) (pe_lst pa_nil))
      (pss_cons (ps_set (i := 3) nd rfl (.inl rfl) pe_int)
      (pss_cons (ps_set (i := 4) nd rfl (.inl rfl) pe_int)
      (pss_cons (ps_while (passes_of rfl) (PW.pt (pw_and (pt_cmpR op_lt (pv 4) (pe_callB call_len_str (by rfl) m_len PySem.boot_len (pa_cons (pv 0) pa_nil)) (nomark _)) (pw_and1 (pt_cmpR op_ne (pe_ix ix_str (pv 0) (pv 4) (fun _ _ => rfl)) pe_str (nomark _))))) (pss_one (ps_if (pt_cmpR op_eq (pe_ix ix_str (pv 0) (pv 4) (fun _ _ => rfl)) pe_str (nomark _)) (pss_one (ps_aug (i := 4) nd rfl (.inl rfl) pe_int ip_add)) (pss_cons (ps_set (i := 5) nd rfl (.inl rfl) (pe_fn G_piece_at hr3 (pa_cons (pv 0) (pa_cons (pv 4) pa_nil))))
      (pss_cons (ps_if (pt_cmpR op_isN (pv 5) pe_non (nomark _)) (pss_one (ps_raiseBad2 rfl T hr1 (takes_of rfl rfl rfl rfl) (pa_cons (pv 1) (pa_cons (pe_op op_add (pv 4) pe_int) pa_nil)))) (pss_nil))
      (C8.pss_cut (ps_if (pt_not (pt_val (pe_fn G_is_bracket hr1 (pa_cons (pv 5) pa_nil)))) (pss_one (ps_aug (i := 3) nd rfl (.inl rfl) pe_int ip_add)) (pss_nil))
      (pss_cons (ps_if (pt_cmpR op_gt (pv 3) (pe_glob (v := .int 300) rfl m_M ⟨_, rfl⟩) (nomark _)) (pss_one (ps_raiseBad2 rfl T hr1 (takes_of rfl rfl rfl rfl) (pa_cons (pv 1) (pa_cons (pe_op op_add (pv 4) pe_int) pa_nil)))) (pss_nil))
      (pss_cons (ps_expr (pe_bm PySem.F.plainAttrs_list PySem.F.slot_list_append PySem.F.type_list_append mt_append (pv 2) (pa_cons (pe_tup (pa_cons (pe_ix ix_tup (pv 5) pe_int (fun _ _ => rfl)) (pa_cons (pe_ix ix_tup (pv 5) pe_int (fun _ _ => rfl)) (pa_cons (pe_op op_add (pv 4) pe_int) pa_nil)))) pa_nil)))
      (pss_one (ps_set (i := 4) nd rfl (.inl rfl) (pe_ix ix_tup (pv 5) pe_int (fun _ _ => rfl))))))))))))
      (pss_cons (ps_expr (pe_bm PySem.F.plainAttrs_list PySem.F.slot_list_append PySem.F.type_list_append mt_append (pv 2) (pa_cons (pe_tup (pa_cons pe_str (pa_cons pe_str (pa_cons (pe_op op_add (pe_callB call_len_str (by rfl) m_len PySem.boot_len (pa_cons (pv 0) pa_nil)) pe_int) pa_nil)))) pa_nil)))
      (pss_one (ps_ret (pv 2))))))), ?_⟩
  refine ⟨by show 0 ≤ sizeLine; decide, fun L hL => ?_⟩
  have s1 := same_upd (o := .lst []) hL
  have eL0 : upd H L (.lst []) L = some (.lst []) := upd_same
  generalize upd H L (.lst []) = H1 at s1 eL0 ⊢
  let Inv : Nat → L2.St → Hp → Prop := fun mm σ H' => ∃ (j f many : Nat) (y5 : Option V) (as : List (Addr × Pc)), mm = z.length - j ∧ σ = [some (.str z), some (.int m), some (.ref L), some (.int (many : Int)), some (.int (j : Int)), y5] ∧ Same H H' ∧ H' L = some (.lst (as.map fun p => .ref p.1)) ∧ PcsAt H' as ∧ j ≤ z.length + 1 ∧ as.length ≤ j ∧ z.length - j < f ∧ piecesOf z = joinP (as.map (·.2)) (pcs z.length f j many ((tl z).drop j))
  refine ⟨Inv, ⟨_, 0, z.length + 1, 0, none, [], rfl, rfl, s1, eL0, fun p hp => absurd hp List.not_mem_nil, Nat.zero_le _, Nat.le_refl _, by omega, ?_⟩, ?_⟩
  · unfold piecesOf
    rw [List.drop_zero]
    cases pcs z.length (z.length + 1) 0 0 (tl z) <;> rfl
  rintro mm σ H' ⟨j, f', many, y5, as, rfl, rfl, sm, eL, hp, hj, hlen, hf, hpc⟩
  obtain ⟨f, rfl⟩ : ∃ f, f' = f + 1 := ⟨f' - 1, by omega⟩
  refine ⟨_, rfl, _, rfl, z, rfl, zl, _, _, rfl, rfl, _, rfl, ite2 (fun c1 => ?_) (fun c1 => ?_)⟩
  · have hlt : j < z.length := by
      have := of_decide_eq_true c1
      omega
    have hlt' : j < (tl z).length := by rw [← len_tl]; exact hlt
    have hdrop := List.drop_eq_getElem_cons hlt'
    have ec : (tl z)[j]? = some (tl z)[j] := List.getElem?_eq_getElem hlt'
    generalize (tl z)[j] = c at ec hdrop
    have hhead : ((tl z).drop j).head? = some c := by rw [hdrop]; rfl
    have eqS : ∀ (x : Str) (n : Nat), x = ⟨#[n]⟩ → ((V.str ⟨#[c]⟩ = V.str x) ↔ c = n) := fun x n e => by
      rw [e]
      have h := one_sign c n
      by_cases hc : c = n
      · exact ⟨fun _ => hc, fun _ => by rw [hc]⟩
      · rw [decide_eq_false hc] at h
        exact ⟨fun z => absurd z (of_decide_eq_false h), fun z => absurd z hc⟩
    have q35 := eqS "#" 35 (by decide +kernel)
    have q32 := eqS " " 32 (by decide +kernel)
    refine ⟨_, rfl, _, rfl, z, _, c, rfl, rfl, zl, at_str ec, rfl, _, rfl, ite2 (fun c2 => ?_) (fun c2 => ?_)⟩
    · have n35 : c ≠ 35 := fun e => by
        rw [decide_eq_true (q35.mpr e)] at c2
        cases c2
      refine ⟨fun σ' G => ∃ m', m' < z.length - j ∧ Inv m' σ' G, fun σ' G h => h, ?_⟩
      refine ⟨_, rfl, _, rfl, z, _, c, rfl, rfl, zl, at_str ec, rfl, _, rfl, ite2 (fun c3 => ?_) (fun c3 => ?_)⟩
      · have e32 := q32.mp (of_decide_eq_true c3)
        refine ⟨_, rfl, _, _, rfl, rfl, z.length - (j + 1), by omega, j + 1, f, many, y5, as, rfl, rfl, sm, eL, hp, by omega, by omega, by omega, ?_⟩
        rw [hpc, hdrop, pcs, if_neg n35, if_pos e32]
      · have n32 : c ≠ 32 := fun e => c3 (decide_eq_true (q32.mpr e))
        have hstep := pcs_take (all := z.length) (f := f) (at_ := j) (many := many) hhead n35 n32
        refine ⟨_, rfl, _, rfl, z, j, rfl, hz, hlt, fun hn H2 s2 => ?_, fun k v n hkv p H2 s2 ep => ?_⟩
        · have he : piecesOf z = .error (j + 1) := by
            rw [hpc, hstep, hn]
            rfl
          exact ⟨_, rfl, rfl, _, rfl, iteT ⟨_, rfl, _, rfl, _, _, rfl, rfl, _, _, rfl, fun d nd' => qe _ he _ d (sm.trans s2) nd'⟩⟩
        · refine ⟨_, rfl, rfl, _, rfl, iteF ?_⟩
          let many' : Nat := if isBr k v = true then many else many + 1
          refine ⟨fun σ G => σ = [some (.str z), some (.int m), some (.ref L), some (.int (many' : Int)), some (.int (j : Int)), some (.ref p)] ∧ Same H2 G, ?_, ?_⟩
          · refine ⟨_, rfl, p, k, v, _, rfl, ep, fun hk => pcAt_own hkv hk, fun G sG => ⟨_, rfl, ?_⟩⟩
            cases hb : isBr k v with
            | true =>
              refine iteF ⟨?_, sG⟩
              have : many' = many := if_pos hb
              rw [this]
              rfl
            | false =>
              refine iteT ⟨_, rfl, _, _, rfl, rfl, ?_, sG⟩
              have : many' = many + 1 := if_neg (by rw [hb]; exact Bool.false_ne_true)
              rw [this]
              rfl
          · rintro σ G ⟨rfl, sG⟩
            rw [hkv] at hstep
            change _ = (if 300 < many' then (Except.error (j + 1) : Except Nat (List Pc)) else match pcs z.length f (j + n) many' (((tl z).drop j).drop n) with
              | Except.error e => Except.error e
              | Except.ok ps => Except.ok ((⟨k, v, j + 1⟩ : Pc) :: ps)) at hstep
            have sA := sm.trans (s2.trans sG)
            refine ⟨_, rfl, _, _, rfl, rfl, _, rfl, ite2 (fun c4 => ?_) (fun c4 => ?_)⟩
            · have h300 : 300 < many' := by
                have := of_decide_eq_true c4
                omega
              rw [if_pos h300] at hstep
              have he : piecesOf z = .error (j + 1) := by
                rw [hpc, hstep]
                rfl
              exact ⟨_, rfl, _, rfl, _, _, rfl, rfl, _, _, rfl, fun d nd' => qe _ he _ d sA nd'⟩
            · have h300 : ¬ 300 < many' := fun h => c4 (decide_eq_true (by omega))
              rw [if_neg h300] at hstep
              obtain ⟨n1, n2⟩ := pcAt_pos hkv
              rw [List.length_drop, ← len_tl] at n2
              have eLG := sG _ _ (s2 _ _ eL)
              have epG := sG _ _ ep
              refine ⟨_, rfl, .inl ⟨rfl, _, SqL.of eLG⟩, _, rfl, p, _, 0, _, rfl, rfl, SqT.of epG, rfl, _, rfl, p, _, 1, _, rfl, rfl, SqT.of epG, rfl, _, rfl, _, _, rfl, rfl, z3, fun t ht => ?_⟩
              have u := same_upd (o := .tup [.str k, pvV v, .int ((j : Int) + 1)]) ht
              have nL : ∀ {a : Addr} {xs : List V}, (upd G t (.tup [.str k, pvV v, .int ((j : Int) + 1)])) a = some (.tup xs) → a ≠ L := fun e zz => by
                rw [zz, u _ _ eLG] at e
                cases e
              refine ⟨L, _, _, rfl, rfl, u _ _ eLG, Nat.lt_of_le_of_lt (show _ ≤ 100001 by rw [List.length_map]; omega) (by decide), ?_⟩
              refine ⟨_, rfl, p, _, 2, _, rfl, rfl, SqT.of (by rw [upd_ne (nL (u _ _ epG))]; exact u _ _ epG), rfl, ?_⟩
              refine ⟨z.length - (j + n), by omega, j + n, f, many', _, as ++ [(t, ⟨k, v, j + 1⟩)], rfl, rfl, fun a o e => ?_, by rw [upd_same, List.map_append]; rfl, fun x hx => ?_, by omega, by rw [List.length_append]; show as.length + 1 ≤ j + n; omega, by omega, ?_⟩
              · rw [upd_ne (ne_of_none e hL)]
                exact u _ _ (sA _ _ e)
              · rcases List.mem_append.mp hx with hx | hx
                · have e := u _ _ (sG _ _ (s2 _ _ (hp x hx)))
                  rw [upd_ne (nL e)]
                  exact e
                · rw [List.mem_singleton.mp hx, upd_ne (nL upd_same)]
                  exact upd_same
              · rw [hpc, hstep, List.drop_drop, List.map_append]
                cases pcs z.length f (j + n) many' ((tl z).drop (j + n)) with
                | error e => rfl
                | ok ps =>
                  show Except.ok (as.map (·.2) ++ (⟨k, v, j + 1⟩ :: ps)) = .ok ((as.map (·.2) ++ [⟨k, v, j + 1⟩]) ++ ps)
                  rw [List.append_assoc]
                  rfl
    · have e35 : c = 35 := Classical.byContradiction fun z => c2 (by rw [decide_eq_false (fun h => z (q35.mp h))]; rfl)
      have eE : pcs z.length (f + 1) j many ((tl z).drop j) = .ok [⟨"end", .tx "", z.length + 1⟩] := by
        rw [hdrop, pcs, if_pos e35]
      have e1 : piecesOf z = .ok (as.map (·.2) ++ [⟨"end", .tx "", z.length + 1⟩]) := by
        rw [hpc, eE]
        rfl
      refine ⟨_, rfl, .inl ⟨rfl, _, SqL.of eL⟩, _, rfl, z, rfl, zl, _, _, rfl, rfl, z3, fun p hp' => ?_⟩
      have u := same_upd (o := .tup [.str "end", .str "", .int ((z.length : Int) + 1)]) hp'
      refine ⟨L, _, _, rfl, rfl, u _ _ eL, Nat.lt_of_le_of_lt (show _ ≤ 100001 by rw [List.length_map]; omega) (by decide), _, rfl, ?_⟩
      have nL : ∀ {a : Addr} {xs : List V}, (upd H' p (.tup [.str "end", .str "", .int ((z.length : Int) + 1)])) a = some (.tup xs) → a ≠ L := fun e zz => by
        rw [zz, u _ _ eL] at e
        cases e
      refine q _ e1 L (as ++ [(p, ⟨"end", .tx "", z.length + 1⟩)]) _ (fun a o e => ?_) (by rw [upd_same, List.map_append]; rfl) (fun x hx => ?_) (by rw [List.map_append]; rfl)
      · rw [upd_ne (ne_of_none e hL)]
        exact u _ _ (sm _ _ e)
      · rcases List.mem_append.mp hx with hx | hx
        · have e := u _ _ (hp x hx)
          rw [upd_ne (nL e)]
          exact e
        · rw [List.mem_singleton.mp hx, upd_ne (nL upd_same)]
          exact upd_same
  · have hge : z.length ≤ j := by
      have h : ¬ ((j : Int) < (z.length : Int)) := fun h => c1 (decide_eq_true h)
      omega
    have eE : pcs z.length (f + 1) j many ((tl z).drop j) = .ok [⟨"end", .tx "", z.length + 1⟩] := by
      rw [List.drop_eq_nil_of_le (by rw [← len_tl]; exact hge), pcs]
    have e1 : piecesOf z = .ok (as.map (·.2) ++ [⟨"end", .tx "", z.length + 1⟩]) := by
      rw [hpc, eE]
      rfl
    refine ⟨_, rfl, .inl ⟨rfl, _, SqL.of eL⟩, _, rfl, z, rfl, zl, _, _, rfl, rfl, z3, fun p hp' => ?_⟩
    have u := same_upd (o := .tup [.str "end", .str "", .int ((z.length : Int) + 1)]) hp'
    refine ⟨L, _, _, rfl, rfl, u _ _ eL, Nat.lt_of_le_of_lt (show _ ≤ 100001 by rw [List.length_map]; omega) (by decide), _, rfl, ?_⟩
    have nL : ∀ {a : Addr} {xs : List V}, (upd H' p (.tup [.str "end", .str "", .int ((z.length : Int) + 1)])) a = some (.tup xs) → a ≠ L := fun e zz => by
      rw [zz, u _ _ eL] at e
      cases e
    refine q _ e1 L (as ++ [(p, ⟨"end", .tx "", z.length + 1⟩)]) _ (fun a o e => ?_) (by rw [upd_same, List.map_append]; rfl) (fun x hx => ?_) (by rw [List.map_append]; rfl)
    · rw [upd_ne (ne_of_none e hL)]
      exact u _ _ (sm _ _ e)
    · rcases List.mem_append.mp hx with hx | hx
      · have e := u _ _ (hp x hx)
        rw [upd_ne (nL e)]
        exact e
      · rw [List.mem_singleton.mp hx, upd_ne (nL upd_same)]
        exact upd_same
end
end Kx

namespace Kx
open PySem PySem.Spec PyProof.Rows L2 TL
abbrev m_Line_init : Stmt := inClass (topS 35) 0
abbrev m_Line_fail : Stmt := inClass (topS 35) 1
abbrev m_Line_is_kind : Stmt := inClass (topS 35) 2
abbrev m_Line_own_word : Stmt := inClass (topS 35) 3
abbrev m_Line_take : Stmt := inClass (topS 35) 4
abbrev m_Line_take_one_of : Stmt := inClass (topS 35) 5
abbrev m_Line_took : Stmt := inClass (topS 35) 6
abbrev m_Line_expect : Stmt := inClass (topS 35) 7
abbrev m_Line_expect_end : Stmt := inClass (topS 35) 8
/-- the class of lines -/
structure LnC (K : PySem.W.Frag) (CL : Addr) : Prop where
  cls : Cls K CL
  n1 : NoAttr K CL "number"
  n2 : NoAttr K CL "pieces"
  n3 : NoAttr K CL "place"
def lnF (n : Int) (L : Addr) (i : Nat) : List (Str × V) := [("number", .int n), ("pieces", .ref L), ("place", .int (i : Int))]
theorem lk1 {n : Int} {L : Addr} {i : Nat} : List.lookup ("number" : Str) (lnF n L i) = some (V.int n) := by rfl
theorem lk2 {n : Int} {L : Addr} {i : Nat} : List.lookup ("pieces" : Str) (lnF n L i) = some (V.ref L) := by rfl
theorem lk3 {n : Int} {L : Addr} {i : Nat} : List.lookup ("place" : Str) (lnF n L i) = some (V.int (i : Int)) := by rfl
/-- a line, its pieces, and where it stands -/
def LineAt (H : Hp) (CL p : Addr) (n : Int) (ps : List Pc) (i : Nat) : Prop := ∃ (dx L : Addr) (as : List (Addr × Pc)), H p = some (.ins CL dx (lnF n L i)) ∧ H L = some (.lst (as.map fun x => .ref x.1)) ∧ PcsAt H as ∧ as.map (·.2) = ps
theorem LineAt.keep {H H' : Hp} {CL p : Addr} {n : Int} {ps : List Pc} {i : Nat} (h : LineAt H CL p n ps i) (s : Same H H') : LineAt H' CL p n ps i :=
  let ⟨dx, L, as, h1, h2, h3, h4⟩ := h
  ⟨dx, L, as, s _ _ h1, s _ _ h2, h3.keep fun a xs e => s a _ e, h4⟩
def curP (ps : List Pc) (i : Nat) : Pc := ps.getD i ⟨"end", .tx "", 0⟩
theorem curP_of {as : List (Addr × Pc)} {i : Nat} (h : i < (as.map (·.2)).length) : ∃ q, as[i]? = some (q, curP (as.map (·.2)) i) := by
  have hi : i < as.length := by rw [List.length_map] at h; exact h
  refine ⟨as[i].1, ?_⟩
  have e : curP (as.map (·.2)) i = as[i].2 := by
    unfold curP
    rw [List.getD_eq_getElem?_getD, List.getElem?_map, List.getElem?_eq_getElem hi]
    rfl
  rw [e, List.getElem?_eq_getElem hi]
/-- pieces as a line has them: the end's piece is the last, and only it -/
def ownAll : List Str := owns ++ longs ++ shorts.map fun c => mkS [c]
/-- a piece as it comes from a text -/
structure PcOk (x : Pc) : Prop where
  ne : x.kind ≠ "end"
  own : x.kind = "own" → ∃ z, x.val = .tx z ∧ z ∈ ownAll
  num : x.kind = "number" → ∃ n, x.val = .nm n
  txt : x.kind = "quoted" ∨ x.kind = "name" → ∃ z, x.val = .tx z
def EndP (ps : List Pc) : Prop := ∃ (qs : List Pc) (c : Nat), ps = qs ++ [⟨"end", .tx "", c⟩] ∧ ∀ x ∈ qs, PcOk x
theorem pcAt_ok {l : List Nat} {v : PV} {n c : Nat} {k : Str} (h : pcAt l = some (k, v, n)) : PcOk ⟨k, v, c⟩ := by
  have eq : ∀ {k' : Str} {v' : PV} {n' : Nat}, some (k', v', n') = some (k, v, n) → k = k' ∧ v = v' := fun e => by
    injection e with e
    injection e with e1 e2
    injection e2 with e2 e3
    exact ⟨e1.symm, e2.symm⟩
  have own : ∀ z, z ∈ ownAll → PcOk ⟨"own", .tx z, c⟩ := fun z hz => ⟨by show ("own" : Str) ≠ "end"; decide +kernel, fun _ => ⟨z, rfl, hz⟩, fun h => absurd h (show ¬ ("own" : Str) = "number" by decide +kernel), fun h => absurd h (show ¬ (("own" : Str) = "quoted" ∨ ("own" : Str) = "name") by decide +kernel)⟩
  have txt : ∀ w z, (w = "quoted" ∨ w = "name") → PcOk ⟨w, .tx z, c⟩ := fun w z hw => by
    rcases hw with rfl | rfl
    · exact ⟨by show ("quoted" : Str) ≠ "end"; decide +kernel, fun h => absurd h (show ¬ ("quoted" : Str) = "own" by decide +kernel), fun h => absurd h (show ¬ ("quoted" : Str) = "number" by decide +kernel), fun _ => ⟨z, rfl⟩⟩
    · exact ⟨by show ("name" : Str) ≠ "end"; decide +kernel, fun h => absurd h (show ¬ ("name" : Str) = "own" by decide +kernel), fun h => absurd h (show ¬ ("name" : Str) = "number" by decide +kernel), fun _ => ⟨z, rfl⟩⟩
  have num : ∀ m, PcOk ⟨"number", .nm m, c⟩ := fun m => ⟨by show ("number" : Str) ≠ "end"; decide +kernel, fun h => absurd h (show ¬ ("number" : Str) = "own" by decide +kernel), fun _ => ⟨m, rfl⟩, fun h => absurd h (show ¬ (("number" : Str) = "quoted" ∨ ("number" : Str) = "name") by decide +kernel)⟩
  unfold pcAt at h
  match l with
  | [] => cases h
  | a :: r =>
    dsimp only at h
    split at h
    · split at h
      · rename_i ho
        obtain ⟨rfl, rfl⟩ := eq h
        exact own _ (List.mem_append_left _ (List.mem_append_left _ ho))
      · obtain ⟨rfl, rfl⟩ := eq h
        exact txt _ _ (.inr rfl)
    · split at h
      · split at h
        · obtain ⟨rfl, rfl⟩ := eq h
          exact num _
        · cases h
      · split at h
        · split at h
          · obtain ⟨rfl, rfl⟩ := eq h
            exact txt _ _ (.inl rfl)
          · cases h
        · split at h
          · rename_i ho
            obtain ⟨rfl, rfl⟩ := eq h
            exact own _ (List.mem_append_left _ (List.mem_append_right _ ho))
          · split at h
            · rename_i ho
              obtain ⟨rfl, rfl⟩ := eq h
              exact own _ (List.mem_append_right _ (List.mem_map.mpr ⟨a, ho, rfl⟩))
            · cases h
theorem EndP.nil (c : Nat) : EndP [⟨"end", .tx "", c⟩] := ⟨[], c, rfl, fun x h => absurd h List.not_mem_nil⟩
theorem EndP.cons {x : Pc} {ps : List Pc} (hx : PcOk x) (h : EndP ps) : EndP (x :: ps) := by
  obtain ⟨qs, c, rfl, hq⟩ := h
  refine ⟨x :: qs, c, rfl, fun y hy => ?_⟩
  rcases List.mem_cons.mp hy with rfl | hy
  · exact hx
  · exact hq y hy
theorem pcs_end {all : Nat} : ∀ (f at_ many : Nat) (l : List Nat) (ps : List Pc), l.length < f → pcs all f at_ many l = .ok ps → EndP ps
  | 0, _, _, _, _, h, _ => absurd h (Nat.not_lt_zero _)
  | f + 1, at_, many, [], ps, _, h => by
    rw [pcs] at h
    cases h
    exact EndP.nil _
  | f + 1, at_, many, c :: r, ps, hl, h => by
    have hl' : r.length < f := Nat.lt_of_succ_lt_succ hl
    by_cases h35 : c = 35
    · rw [pcs, if_pos h35] at h
      cases h
      exact EndP.nil _
    · by_cases h32 : c = 32
      · rw [pcs, if_neg h35, if_pos h32] at h
        exact pcs_end f _ _ r ps hl' h
      · rw [pcs_take (c := c) rfl h35 h32] at h
        cases hp : pcAt (c :: r) with
        | none =>
          rw [hp] at h
          cases h
        | some t =>
          obtain ⟨k, v, n⟩ := t
          rw [hp] at h
          dsimp only at h
          generalize (if isBr k v = true then many else many + 1) = mm at h
          by_cases h300 : 300 < mm
          · rw [if_pos h300] at h
            cases h
          · rw [if_neg h300] at h
            cases hr : pcs all f (at_ + n) mm ((c :: r).drop n) with
            | error e =>
              rw [hr] at h
              cases h
            | ok qs =>
              rw [hr] at h
              cases h
              have hn := (pcAt_pos hp).1
              exact EndP.cons (pcAt_ok hp) (pcs_end f _ _ _ qs (by rw [List.length_drop, List.length_cons]; omega) hr)
theorem pieces_end {z : Str} {ps : List Pc} (h : piecesOf z = .ok ps) : EndP ps := pcs_end _ _ _ _ ps (by rw [← len_tl]; exact Nat.lt_succ_self _) h
section
variable {P : Program} {w : World} {K : PySem.W.Frag} {mg : Str → Option Value} {base : Heap}
theorem noE {X : Cx} : Passes (L2.CX X.prog X.w) X E0 := fun _ _ _ _ _ _ _ ⟨_, _, _, _, _, _, _, _, _, _, _, _, z⟩ => z.elim
/-! ### fail -/
def spFail (C CL : Addr) : Sp := fun vs H Q E => ∃ (p : Addr) (n : Int) (ps : List Pc) (i : Nat), vs = [.ref p] ∧ LineAt H CL p n ps i ∧ i < ps.length ∧ BadAt C n ((curP ps i).col : Nat) H E
theorem sc_fail : FnScope ["self"] ["self"] (defScope m_Line_fail) := ⟨rfl, rfl, rfl, by decide +kernel, rfl, by decide +kernel, by decide +kernel⟩
theorem ok_fail {f C fI CL : Addr} {fd : FuncData} (F : Fun K "fail" "Line.fail" m_Line_fail f fd) (T : PySem.BadY.BadTxt K mg C fI) (Z : LnC K CL) : FnOk P w K mg base (L2.CX P w) 2 f fd ["self"] (spFail C CL) := by
  refine F.okX sc_fail (fun vs H Q E h => ?_) (fun cdv A outer s H vs Q E hr h => ?_)
  · obtain ⟨p, n, ps, i, rfl, _⟩ := h
    rfl
  obtain ⟨p, n, ps, i, rfl, hl, hi, q⟩ := h
  have hr1 : Room 1 _ := hr
  refine ⟨_, pss_one (ps_raiseBad2 rfl T hr1 (takes_of rfl rfl rfl rfl) (pa_cons (pe_fld (pv 0) rfl) (pa_cons (pe_ix ix_tup (pe_ix (show IxR _ (rIxL K) from ix_list) (pe_fld (pv 0) rfl) (pe_fld (pv 0) rfl) (fun _ _ => rfl)) pe_int (fun _ _ => rfl)) pa_nil))), ?_⟩
  obtain ⟨dx, L, as, h1, h2, h3, rfl⟩ := hl
  obtain ⟨qa, hq⟩ := curP_of hi
  refine ⟨_, rfl, p, CL, dx, _, _, rfl, h1, Z.cls, Z.n1, lk1, _, rfl, p, CL, dx, _, _, rfl, h1, Z.cls, Z.n2, lk2, _, rfl, p, CL, dx, _, _, rfl, h1, Z.cls, Z.n3, lk3, L, _, (i : Int), _, rfl, rfl, SqL.of h2, atI_nat (by rw [List.getElem?_map, hq]; rfl), qa, _, 2, _, rfl, rfl, SqT.of (h3 _ (List.mem_of_getElem? hq)), rfl, _, _, rfl, fun d nd' => q _ d (Same.refl _) nd'⟩
/-! ### is_kind -/
def spIsKind (CL : Addr) : Sp := fun vs H Q _ => ∃ (p : Addr) (n : Int) (ps : List Pc) (i : Nat) (k : Str), vs = [.ref p, .str k] ∧ LineAt H CL p n ps i ∧ i < ps.length ∧ Q (.bl (decide ((curP ps i).kind = k))) H
theorem sc_iskind : FnScope ["self", "kind"] ["self", "kind"] (defScope m_Line_is_kind) := ⟨rfl, rfl, rfl, by decide +kernel, rfl, by decide +kernel, by decide +kernel⟩
theorem dec_str (a b : Str) : decide (V.str a = V.str b) = decide (a = b) := decide_eq_decide.mpr ⟨fun e => V.str.inj e, fun e => by rw [e]⟩
theorem ok_iskind {f CL : Addr} {fd : FuncData} (F : Fun K "is_kind" "Line.is_kind" m_Line_is_kind f fd) (Z : LnC K CL) : FnOk P w K mg base (L2.CX P w) 1 f fd ["self", "kind"] (spIsKind CL) := by
  refine F.okX sc_iskind (fun vs H Q E h => ?_) (fun cdv A outer s H vs Q E hr h => ?_)
  · obtain ⟨p, n, ps, i, k, rfl, _⟩ := h
    rfl
  obtain ⟨p, n, ps, i, k, rfl, hl, hi, q⟩ := h
  refine ⟨_, pss_one (ps_ret (pe_cmpR op_eq (pe_ix ix_tup (pe_ix (show IxR _ (rIxL K) from ix_list) (pe_fld (pv 0) rfl) (pe_fld (pv 0) rfl) (fun _ _ => rfl)) pe_int (fun _ _ => rfl)) (pv 1) (nomark _))), ?_⟩
  obtain ⟨dx, L, as, h1, h2, h3, rfl⟩ := hl
  obtain ⟨qa, hq⟩ := curP_of hi
  refine ⟨_, rfl, p, CL, dx, _, _, rfl, h1, Z.cls, Z.n2, lk2, _, rfl, p, CL, dx, _, _, rfl, h1, Z.cls, Z.n3, lk3, L, _, (i : Int), _, rfl, rfl, SqL.of h2, atI_nat (by rw [List.getElem?_map, hq]; rfl), qa, _, 0, _, rfl, rfl, SqT.of (h3 _ (List.mem_of_getElem? hq)), rfl, _, rfl, rfl, ?_⟩
  rw [dec_str]
  exact q
/-! ### own_word -/
def ownW (ps : List Pc) (i : Nat) : Str := if (curP ps i).kind = "own" then (match (curP ps i).val with
  | .tx z => z
  | .nm _ => "") else ""
theorem cur_mem {ps : List Pc} {i : Nat} (h : i < ps.length) : curP ps i ∈ ps := by
  unfold curP
  rw [List.getD_eq_getElem?_getD, List.getElem?_eq_getElem h]
  exact List.getElem_mem h
theorem EndP.own {ps : List Pc} (h : EndP ps) {i : Nat} (hi : i < ps.length) (hk : (curP ps i).kind = "own") : (curP ps i).val = .tx (ownW ps i) := by
  obtain ⟨qs, c, rfl, hq⟩ := h
  have hm := cur_mem hi
  unfold ownW
  rw [if_pos hk]
  rcases List.mem_append.mp hm with hm | hm
  · obtain ⟨z, e, _⟩ := (hq _ hm).own hk
    rw [e]
  · rw [List.mem_singleton.mp hm] at hk
    exact absurd hk (show ¬ ("end" : Str) = "own" by decide +kernel)
theorem EndP.next {ps : List Pc} (h : EndP ps) {i : Nat} (hi : i < ps.length) (hk : (curP ps i).kind ≠ "end") : i + 1 < ps.length := by
  obtain ⟨qs, c, rfl, hq⟩ := h
  rw [List.length_append] at hi ⊢
  by_cases z : i < qs.length
  · show i + 1 < qs.length + 1
    omega
  · exfalso
    apply hk
    have e : i = qs.length := by
      have : i < qs.length + 1 := hi
      omega
    unfold curP
    rw [List.getD_eq_getElem?_getD, e, List.getElem?_append_right (Nat.le_refl _), Nat.sub_self]
    rfl
def spOwn (CL : Addr) : Sp := fun vs H Q _ => ∃ (p : Addr) (n : Int) (ps : List Pc) (i : Nat), vs = [.ref p] ∧ LineAt H CL p n ps i ∧ i < ps.length ∧ EndP ps ∧ Q (.str (ownW ps i)) H
theorem sc_own : FnScope ["self"] ["self"] (defScope m_Line_own_word) := ⟨rfl, rfl, rfl, by decide +kernel, rfl, by decide +kernel, by decide +kernel⟩
theorem ok_own {f CL : Addr} {fd : FuncData} (F : Fun K "own_word" "Line.own_word" m_Line_own_word f fd) (Z : LnC K CL) (G_is_kind : ReadyM P w K mg base CL 1 "is_kind" ["self", "kind"] (spIsKind CL)) : FnOk P w K mg base (L2.CX P w) 2 f fd ["self"] (spOwn CL) := by
  refine F.okX sc_own (fun vs H Q E h => ?_) (fun cdv A outer s H vs Q E hr h => ?_)
  · obtain ⟨p, n, ps, i, rfl, _⟩ := h
    rfl
  obtain ⟨p, n, ps, i, rfl, hl, hi, he, q⟩ := h
  have hr1 : Room 1 _ := hr
  refine ⟨_, pss_cons (ps_if (pt_val (pe_m G_is_kind Z.cls hr1 noE (pv 0) (pa_cons pe_str pa_nil))) (pss_one (ps_ret (pe_ix ix_tup (pe_ix (show IxR _ (rIxL K) from ix_list) (pe_fld (pv 0) rfl) (pe_fld (pv 0) rfl) (fun _ _ => rfl)) pe_int (fun _ _ => rfl)))) (pss_nil))
      (pss_one (ps_ret pe_str)), ?_⟩
  obtain ⟨dx, L, as, h1, h2, h3, h4⟩ := id hl
  refine ⟨_, rfl, p, dx, _, rfl, h1, rfl, p, n, ps, i, _, rfl, hl, hi, _, rfl, ite2 (fun c => ?_) (fun c => ?_)⟩
  · have hk := of_decide_eq_true c
    have hv := he.own hi hk
    subst h4
    obtain ⟨qa, hq⟩ := curP_of hi
    have ht := h3 _ (List.mem_of_getElem? hq)
    dsimp only at ht
    rw [hv] at ht
    exact ⟨_, rfl, p, CL, dx, _, _, rfl, h1, Z.cls, Z.n2, lk2, _, rfl, p, CL, dx, _, _, rfl, h1, Z.cls, Z.n3, lk3, L, _, (i : Int), _, rfl, rfl, SqL.of h2, atI_nat (by rw [List.getElem?_map, hq]; rfl), qa, _, 1, _, rfl, rfl, SqT.of ht, rfl, q⟩
  · have hk : ¬ (curP ps i).kind = "own" := fun e => c (decide_eq_true e)
    have e : ownW ps i = "" := if_neg hk
    rw [e] at q
    exact q
/-! ### take -/
/-- nothing but the line's place changes -/
structure ButL (p : Addr) (H H' : Hp) : Prop where
  b : But p H H'
  f : ∀ (C dx L : Addr) (n : Int) (i : Nat), H p = some (.ins C dx (lnF n L i)) → ∃ i', H' p = some (.ins C dx (lnF n L i'))
theorem ButL.refl (p : Addr) (H : Hp) : ButL p H H := ⟨But.refl _ _, fun C dx L n i e => ⟨i, e⟩⟩
theorem ButL.trans {p : Addr} {H H' H2 : Hp} (a : ButL p H H') (b : ButL p H' H2) : ButL p H H2 := ⟨a.b.trans b.b, fun C dx L n i e => let ⟨i', e'⟩ := a.f C dx L n i e; b.f C dx L n i' e'⟩
theorem sameL {p : Addr} {H H' : Hp} (s : Same H H') : ButL p H H' := ⟨same_but s, fun C dx L n i e => ⟨i, s _ _ e⟩⟩
theorem butL_upd {H : Hp} {C p dx L : Addr} {n : Int} {i i' : Nat} (h : H p = some (.ins C dx (lnF n L i))) : ButL p H (upd H p (.ins C dx (lnF n L i'))) := by
  refine ⟨fun a o' ha e => by rw [upd_ne ha]; exact e, fun C2 dx2 L2 n2 i2 e => ⟨i', ?_⟩⟩
  rw [h] at e
  injection e with e
  injection e with e1 e2 e3
  have e4 : (V.ref L : V) = V.ref L2 := by
    have h0 := congrArg (List.lookup ("pieces" : Str)) e3
    rw [lk2, lk2] at h0
    exact Option.some.inj h0
  have e5 : (V.int n : V) = V.int n2 := by
    have h0 := congrArg (List.lookup ("number" : Str)) e3
    rw [lk1, lk1] at h0
    exact Option.some.inj h0
  injection e4 with e4
  injection e5 with e5
  subst e1 e2 e4 e5
  exact upd_same
theorem LineAt.go {H : Hp} {CL p dx L : Addr} {n : Int} {as : List (Addr × Pc)} {i : Nat} (h1 : H p = some (.ins CL dx (lnF n L i))) (h2 : H L = some (.lst (as.map fun x => .ref x.1))) (h3 : PcsAt H as) : LineAt (upd H p (.ins CL dx (lnF n L (i + 1)))) CL p n (as.map (·.2)) (i + 1) := by
  refine ⟨dx, L, as, upd_same, ?_, h3.keep fun a xs e => ?_, rfl⟩
  · rw [upd_ne (fun z => by rw [z, h1] at h2; cases h2)]
    exact h2
  · rw [upd_ne (fun z => by rw [z, h1] at e; cases e)]
    exact e
def spTake (C CL : Addr) : Sp := fun vs H Q E => ∃ (p : Addr) (n : Int) (ps : List Pc) (i : Nat) (k : Str), vs = [.ref p, .str k] ∧ LineAt H CL p n ps i ∧ i < ps.length ∧
  ((curP ps i).kind = k → ∀ H', ButL p H H' → LineAt H' CL p n ps (i + 1) → Q (pvV (curP ps i).val) H') ∧ ((curP ps i).kind ≠ k → BadAt C n ((curP ps i).col : Nat) H E)
theorem sc_take : FnScope ["self", "kind", "value"] ["self", "kind"] (defScope m_Line_take) := ⟨rfl, rfl, rfl, by decide +kernel, rfl, by decide +kernel, by decide +kernel⟩
theorem but_upd {H : Hp} {p : Addr} {o : HO} : But p H (upd H p o) := fun a o' ha e => by
  rw [upd_ne ha]
  exact e
theorem ok_take {f C CL : Addr} {fd : FuncData} (F : Fun K "take" "Line.take" m_Line_take f fd) (Z : LnC K CL) (G_is_kind : ReadyM P w K mg base CL 1 "is_kind" ["self", "kind"] (spIsKind CL)) (G_fail : ReadyM P w K mg base CL 2 "fail" ["self"] (spFail C CL)) : FnOk P w K mg base (L2.CX P w) 3 f fd ["self", "kind"] (spTake C CL) := by
  refine F.okX sc_take (fun vs H Q E h => ?_) (fun cdv A outer s H vs Q E hr h => ?_)
  · obtain ⟨p, n, ps, i, k, rfl, _⟩ := h
    rfl
  obtain ⟨p, n, ps, i, k, rfl, hl, hi, q, qe⟩ := h
  have nd := sc_take.nd
  have hr2 : Room 2 _ := hr
  have hr1 : Room 1 _ := hr.mono (by decide)
  refine ⟨_, pss_cons (ps_if (pt_not (pt_val (pe_m G_is_kind Z.cls hr1 noE (pv 0) (pa_cons (pv 1) pa_nil)))) (pss_one (ps_expr (pe_m0' G_fail Z.cls hr2 (onward (takes_of rfl rfl rfl rfl)) (pv 0)))) (pss_nil))
      (pss_cons (ps_set (i := 2) nd rfl (.inl rfl) (pe_ix ix_tup (pe_ix (show IxR _ (rIxL K) from ix_list) (pe_fld (pv 0) rfl) (pe_fld (pv 0) rfl) (fun _ _ => rfl)) pe_int (fun _ _ => rfl)))
      (pss_cons (ps_fldaug (pv 0) pe_int ip_add)
      (pss_one (ps_ret (pv 2))))), ?_⟩
  obtain ⟨dx, L, as, h1, h2, h3, h4⟩ := id hl
  refine ⟨_, rfl, p, dx, _, rfl, h1, rfl, _, rfl, p, n, ps, i, k, rfl, hl, hi, _, rfl, ?_⟩
  by_cases hk : (curP ps i).kind = k
  · rw [decide_eq_true hk]
    refine iteF ?_
    subst h4
    obtain ⟨qa, hq⟩ := curP_of hi
    refine ⟨_, rfl, p, CL, dx, _, _, rfl, h1, Z.cls, Z.n2, lk2, _, rfl, p, CL, dx, _, _, rfl, h1, Z.cls, Z.n3, lk3, L, _, (i : Int), _, rfl, rfl, SqL.of h2, atI_nat (by rw [List.getElem?_map, hq]; rfl), qa, _, 1, _, rfl, rfl, SqT.of (h3 _ (List.mem_of_getElem? hq)), rfl, ?_⟩
    refine ⟨_, rfl, p, CL, dx, _, _, rfl, h1, Z.cls, Z.n3, lk3, _, _, rfl, rfl, dx, _, h1, by show 3 < 1000; decide, _, rfl, ?_⟩
    exact q hk _ (butL_upd h1) (LineAt.go h1 h2 h3)
  · rw [decide_eq_false hk]
    exact iteT ⟨_, rfl, p, dx, _, rfl, h1, rfl, p, n, ps, i, rfl, hl, hi, qe hk⟩
/-! ### took -/
def spTook (CL : Addr) : Sp := fun vs H Q _ => ∃ (p : Addr) (n : Int) (ps : List Pc) (i : Nat) (k : Str), vs = [.ref p, .str k] ∧ LineAt H CL p n ps i ∧ i < ps.length ∧ EndP ps ∧
  (ownW ps i = k → ∀ H', ButL p H H' → LineAt H' CL p n ps (i + 1) → Q (.bl true) H') ∧ (ownW ps i ≠ k → Q (.bl false) H)
theorem sc_took : FnScope ["self", "word"] ["self", "word"] (defScope m_Line_took) := ⟨rfl, rfl, rfl, by decide +kernel, rfl, by decide +kernel, by decide +kernel⟩
theorem ok_took {f CL : Addr} {fd : FuncData} (F : Fun K "took" "Line.took" m_Line_took f fd) (Z : LnC K CL) (G_own : ReadyM P w K mg base CL 2 "own_word" ["self"] (spOwn CL)) : FnOk P w K mg base (L2.CX P w) 3 f fd ["self", "word"] (spTook CL) := by
  refine F.okX sc_took (fun vs H Q E h => ?_) (fun cdv A outer s H vs Q E hr h => ?_)
  · obtain ⟨p, n, ps, i, k, rfl, _⟩ := h
    rfl
  obtain ⟨p, n, ps, i, k, rfl, hl, hi, he, q, q2⟩ := h
  have hr2 : Room 2 _ := hr
  refine ⟨_, pss_cons (ps_if (pt_cmpR op_ne (pe_m0' G_own Z.cls hr2 noE (pv 0)) (pv 1) (nomark _)) (pss_one (ps_ret pe_bl)) (pss_nil))
      (pss_cons (ps_fldaug (pv 0) pe_int ip_add)
      (pss_one (ps_ret pe_bl))), ?_⟩
  obtain ⟨dx, L, as, h1, h2, h3, h4⟩ := id hl
  refine ⟨_, rfl, p, dx, _, rfl, h1, rfl, p, n, ps, i, rfl, hl, hi, he, _, rfl, rfl, _, rfl, ?_⟩
  rw [dec_str]
  by_cases hk : ownW ps i = k
  · rw [decide_eq_true hk]
    refine iteF ?_
    refine ⟨_, rfl, p, CL, dx, _, _, rfl, h1, Z.cls, Z.n3, lk3, _, _, rfl, rfl, dx, _, h1, by show 3 < 1000; decide, ?_⟩
    subst h4
    exact q hk _ (butL_upd h1) (LineAt.go h1 h2 h3)
  · rw [decide_eq_false hk]
    exact iteT (q2 hk)
/-! ### expect, expect_end, take_one_of -/
def spExpect (C CL : Addr) : Sp := fun vs H Q E => ∃ (p : Addr) (n : Int) (ps : List Pc) (i : Nat) (k : Str), vs = [.ref p, .str k] ∧ LineAt H CL p n ps i ∧ i < ps.length ∧ EndP ps ∧
  (ownW ps i = k → ∀ H', ButL p H H' → LineAt H' CL p n ps (i + 1) → Q .non H') ∧ (ownW ps i ≠ k → BadAt C n ((curP ps i).col : Nat) H E)
theorem sc_expect : FnScope ["self", "word"] ["self", "word"] (defScope m_Line_expect) := ⟨rfl, rfl, rfl, by decide +kernel, rfl, by decide +kernel, by decide +kernel⟩
theorem ok_expect {f C CL : Addr} {fd : FuncData} (F : Fun K "expect" "Line.expect" m_Line_expect f fd) (Z : LnC K CL) (G_took : ReadyM P w K mg base CL 3 "took" ["self", "word"] (spTook CL)) (G_fail : ReadyM P w K mg base CL 2 "fail" ["self"] (spFail C CL)) : FnOk P w K mg base (L2.CX P w) 4 f fd ["self", "word"] (spExpect C CL) := by
  refine F.okX sc_expect (fun vs H Q E h => ?_) (fun cdv A outer s H vs Q E hr h => ?_)
  · obtain ⟨p, n, ps, i, k, rfl, _⟩ := h
    rfl
  obtain ⟨p, n, ps, i, k, rfl, hl, hi, he, q, qe⟩ := h
  have hr3 : Room 3 _ := hr
  have hr2 : Room 2 _ := hr.mono (by decide)
  refine ⟨_, pss_one (ps_if (pt_not (pt_val (pe_m G_took Z.cls hr3 noE (pv 0) (pa_cons (pv 1) pa_nil)))) (pss_one (ps_expr (pe_m0' G_fail Z.cls hr2 (onward (takes_of rfl rfl rfl rfl)) (pv 0)))) (pss_nil)), ?_⟩
  obtain ⟨dx, L, as, h1, h2, h3, h4⟩ := id hl
  exact ⟨_, rfl, p, dx, _, rfl, h1, rfl, _, rfl, p, n, ps, i, k, rfl, hl, hi, he, fun hk H' b hl' => ⟨_, rfl, iteF (q hk H' b hl')⟩, fun hk => ⟨_, rfl, iteT ⟨_, rfl, p, dx, _, rfl, h1, rfl, p, n, ps, i, rfl, hl, hi, qe hk⟩⟩⟩
def spExpEnd (C CL : Addr) : Sp := fun vs H Q E => ∃ (p : Addr) (n : Int) (ps : List Pc) (i : Nat), vs = [.ref p] ∧ LineAt H CL p n ps i ∧ i < ps.length ∧
  ((curP ps i).kind = "end" → Q .non H) ∧ ((curP ps i).kind ≠ "end" → BadAt C n ((curP ps i).col : Nat) H E)
theorem sc_expend : FnScope ["self"] ["self"] (defScope m_Line_expect_end) := ⟨rfl, rfl, rfl, by decide +kernel, rfl, by decide +kernel, by decide +kernel⟩
theorem ok_expend {f C CL : Addr} {fd : FuncData} (F : Fun K "expect_end" "Line.expect_end" m_Line_expect_end f fd) (Z : LnC K CL) (G_is_kind : ReadyM P w K mg base CL 1 "is_kind" ["self", "kind"] (spIsKind CL)) (G_fail : ReadyM P w K mg base CL 2 "fail" ["self"] (spFail C CL)) : FnOk P w K mg base (L2.CX P w) 3 f fd ["self"] (spExpEnd C CL) := by
  refine F.okX sc_expend (fun vs H Q E h => ?_) (fun cdv A outer s H vs Q E hr h => ?_)
  · obtain ⟨p, n, ps, i, rfl, _⟩ := h
    rfl
  obtain ⟨p, n, ps, i, rfl, hl, hi, q, qe⟩ := h
  have hr2 : Room 2 _ := hr
  have hr1 : Room 1 _ := hr.mono (by decide)
  refine ⟨_, pss_one (ps_if (pt_not (pt_val (pe_m G_is_kind Z.cls hr1 noE (pv 0) (pa_cons pe_str pa_nil)))) (pss_one (ps_expr (pe_m0' G_fail Z.cls hr2 (onward (takes_of rfl rfl rfl rfl)) (pv 0)))) (pss_nil)), ?_⟩
  obtain ⟨dx, L, as, h1, h2, h3, h4⟩ := id hl
  refine ⟨_, rfl, p, dx, _, rfl, h1, rfl, p, n, ps, i, _, rfl, hl, hi, _, rfl, ?_⟩
  by_cases hk : (curP ps i).kind = "end"
  · rw [decide_eq_true hk]
    exact iteF (q hk)
  · rw [decide_eq_false hk]
    exact iteT ⟨_, rfl, p, dx, _, rfl, h1, rfl, p, n, ps, i, rfl, hl, hi, qe hk⟩
def spTakeOne (K : PySem.W.Frag) (C CL : Addr) : Sp := fun vs H Q E => ∃ (p wa : Addr) (n : Int) (ps : List Pc) (i : Nat) (ws : List Str), vs = [.ref p, .ref wa] ∧ LineAt H CL p n ps i ∧ i < ps.length ∧ EndP ps ∧ (SqL K H wa (ws.map V.str) ∨ SqT K H wa (ws.map V.str)) ∧ ("" : Str) ∉ ws ∧
  (ownW ps i ∈ ws → ∀ H', ButL p H H' → LineAt H' CL p n ps (i + 1) → Q (.str (ownW ps i)) H') ∧ (ownW ps i ∉ ws → BadAt C n ((curP ps i).col : Nat) H E)
theorem sc_takeone : FnScope ["self", "words"] ["self", "words"] (defScope m_Line_take_one_of) := ⟨rfl, rfl, rfl, by decide +kernel, rfl, by decide +kernel, by decide +kernel⟩
theorem notin_strs {z : Str} {l : List Str} {A B : Prop} (h1 : z ∉ l → A) (h2 : z ∈ l → B) : if (if true = true then !inV (.str z) (l.map V.str) else inV (.str z) (l.map V.str)) = true then A else B := by
  rw [if_pos rfl, inV_str]
  by_cases h : z ∈ l
  · rw [decide_eq_true h]
    exact iteF (h2 h)
  · rw [decide_eq_false h]
    exact iteT (h1 h)
theorem ok_takeone {f C CL : Addr} {fd : FuncData} (F : Fun K "take_one_of" "Line.take_one_of" m_Line_take_one_of f fd) (Z : LnC K CL) (G_own : ReadyM P w K mg base CL 2 "own_word" ["self"] (spOwn CL)) (G_fail : ReadyM P w K mg base CL 2 "fail" ["self"] (spFail C CL)) (G_take : ReadyM P w K mg base CL 3 "take" ["self", "kind"] (spTake C CL)) : FnOk P w K mg base (L2.CX P w) 4 f fd ["self", "words"] (spTakeOne K C CL) := by
  refine F.okX sc_takeone (fun vs H Q E h => ?_) (fun cdv A outer s H vs Q E hr h => ?_)
  · obtain ⟨p, wa, n, ps, i, ws, rfl, _⟩ := h
    rfl
  obtain ⟨p, wa, n, ps, i, ws, rfl, hl, hi, he, hw, h0, q, qe⟩ := h
  have hr3 : Room 3 _ := hr
  have hr2 : Room 2 _ := hr.mono (by decide)
  refine ⟨_, pss_cons (ps_if (pt_cmpR op_notIn_seq (pe_m0' G_own Z.cls hr2 noE (pv 0)) (pv 1) rfl) (pss_one (ps_expr (pe_m0' G_fail Z.cls hr2 (onward (takes_of rfl rfl rfl rfl)) (pv 0)))) (pss_nil))
      (pss_one (ps_ret (pe_m G_take Z.cls hr3 (onward (takes_of rfl rfl rfl rfl)) (pv 0) (pa_cons pe_str pa_nil)))), ?_⟩
  obtain ⟨dx, L, as, h1, h2, h3, h4⟩ := id hl
  refine ⟨_, rfl, p, dx, _, rfl, h1, rfl, p, n, ps, i, rfl, hl, hi, he, _, rfl, wa, _, rfl, hw, rfl, flat_strs _, _, rfl, notin_strs (fun hk => ?_) (fun hk => ?_)⟩
  · exact ⟨_, rfl, p, dx, _, rfl, h1, rfl, p, n, ps, i, rfl, hl, hi, qe hk⟩
  · have hown : (curP ps i).kind = "own" := Classical.byContradiction fun z => h0 (by
      have e : ownW ps i = "" := if_neg z
      rw [← e]
      exact hk)
    refine ⟨_, rfl, p, dx, _, rfl, h1, rfl, p, n, ps, i, _, rfl, hl, hi, fun _ H' b hl' => ?_, fun z => absurd hown z⟩
    rw [he.own hi hown]
    exact q hk H' b hl'
/-! ### __init__ -/
def spInit (C CL : Addr) : Sp := fun vs H Q E => ∃ (p dx : Addr) (z : Str) (m : Int), vs = [.ref p, .str z, .int m] ∧ H p = some (.ins CL dx []) ∧ z.length ≤ 100000 ∧
  (∀ ps, piecesOf z = .ok ps → ∀ H', But p H H' → LineAt H' CL p m ps 0 → Q .non H') ∧ ∀ c, piecesOf z = .error c → ∀ (H' : Hp) (d : Addr), But p H H' → H' d = none → E (.ref C) (some d) (upd H' d (.xd [("line", .int m), ("column", .int (c : Nat))]))
theorem sc_init : FnScope ["self", "text", "number"] ["self", "text", "number"] (defScope m_Line_init) := ⟨rfl, rfl, rfl, by decide +kernel, rfl, by decide +kernel, by decide +kernel⟩
theorem ok_init {f C CL : Addr} {fd : FuncData} (F : Fun K "__init__" "Line.__init__" m_Line_init f fd) (Z : LnC K CL) (G_pieces_of : ReadyX P w K mg base 4 "pieces_of" ["text", "number"] (spPieces K C)) : FnOk P w K mg base (L2.CX P w) 5 f fd ["self", "text", "number"] (spInit C CL) := by
  refine F.okX sc_init (fun vs H Q E h => ?_) (fun cdv A outer s H vs Q E hr h => ?_)
  · obtain ⟨p, dx, z, m, rfl, _⟩ := h
    rfl
  obtain ⟨p, dx, z, m, rfl, hp, hz, q, qe⟩ := h
  have hr4 : Room 4 _ := hr
  refine ⟨_, pss_cons (ps_fld (pv 0) (pv 2) rfl)
      (pss_cons (ps_fld (pv 0) (pe_fnX G_pieces_of hr4 (takes_of rfl rfl rfl rfl) (pa_cons (pv 1) (pa_cons (pv 2) pa_nil))) rfl)
      (pss_one (ps_fld (pv 0) pe_int rfl))), ?_⟩
  refine ⟨_, rfl, _, rfl, p, CL, dx, _, rfl, hp, Z.cls, Z.n1, by show 0 < 1000; decide, ?_⟩
  have b1 : But p H (upd H p (.ins CL dx (putF "number" (.int m) []))) := but_upd
  have e1 : upd H p (.ins CL dx (putF "number" (.int m) [])) p = some (.ins CL dx [("number", .int m)]) := upd_same
  generalize upd H p (.ins CL dx (putF "number" (.int m) [])) = H1 at b1 e1 ⊢
  refine ⟨_, rfl, _, rfl, z, m, rfl, hz, fun ps hps L as H2 s2 eL hpc hmap => ?_, fun c hc H2 d s2 nd' => ?_⟩
  · have ep := s2 _ _ e1
    refine ⟨_, rfl, p, CL, dx, _, rfl, ep, Z.cls, Z.n2, by show 1 < 1000; decide, ?_⟩
    have nL : L ≠ p := fun zz => by
      rw [zz, ep] at eL
      cases eL
    have e2 : upd H2 p (.ins CL dx (putF "pieces" (.ref L) [("number", .int m)])) p = some (.ins CL dx [("number", .int m), ("pieces", .ref L)]) := upd_same
    have b2 : But p H (upd H2 p (.ins CL dx (putF "pieces" (.ref L) [("number", .int m)]))) := fun a o ha e => by
      rw [upd_ne ha]
      exact s2 _ _ (b1 a o ha e)
    have eL2 : upd H2 p (.ins CL dx (putF "pieces" (.ref L) [("number", .int m)])) L = some (.lst (as.map fun x => .ref x.1)) := by
      rw [upd_ne nL]
      exact eL
    have hp2 : PcsAt (upd H2 p (.ins CL dx (putF "pieces" (.ref L) [("number", .int m)]))) as := hpc.keep fun a xs e => by
      rw [upd_ne (fun zz => by rw [zz, ep] at e; cases e)]
      exact e
    generalize upd H2 p (.ins CL dx (putF "pieces" (.ref L) [("number", .int m)])) = H3 at e2 b2 eL2 hp2 ⊢
    refine ⟨_, rfl, p, CL, dx, _, rfl, e2, Z.cls, Z.n3, by show 2 < 1000; decide, ?_⟩
    refine q ps hps _ (b2.trans but_upd) ⟨dx, L, as, upd_same, ?_, hp2.keep fun a xs e => ?_, hmap⟩
    · rw [upd_ne nL]
      exact eL2
    · rw [upd_ne (fun zz => by rw [zz, e2] at e; cases e)]
      exact e
  · exact qe c hc H2 d (fun a o ha e => s2 _ _ (b1 a o ha e)) nd'
end
end Kx

namespace Kx
open PySem PySem.Spec PyProof.Rows L2 TL
abbrev s_parts_of : Stmt := topS 11
abbrev s_rows_of_parts : Stmt := topS 12
abbrev s_how_many : Stmt := topS 13
abbrev s_how_deep : Stmt := topS 14
abbrev s_is_large : Stmt := topS 15
/-! ### expressions, and how they stand -/
inductive Ex where
  | num (i : Int)
  | quo (z : Str)
  | col (x : Str)
  | two (op : Str) (a b : Ex)
  | nt (a : Ex)
  | mn (a : Ex)
  | ln (a : Ex)
def Ex.dep : Ex → Nat
  | .two _ a b => max a.dep b.dep + 1
  | .nt a => a.dep + 1
  | .mn a => a.dep + 1
  | .ln a => a.dep + 1
  | _ => 1
theorem Ex.dep_pos (e : Ex) : 0 < e.dep := by cases e <;> exact Nat.succ_pos _
/-- how an expression stands in the heap -/
def ExAt (H : Hp) : V → Ex → Prop
  | v, .num i => ∃ a, v = .ref a ∧ H a = some (.tup [.str "number", .int i])
  | v, .quo z => ∃ a, v = .ref a ∧ H a = some (.tup [.str "quoted", .str z])
  | v, .col x => ∃ a, v = .ref a ∧ H a = some (.tup [.str "column", .str x])
  | v, .two op x y => ∃ a vx vy, v = .ref a ∧ H a = some (.tup [.str "two", .str op, vx, vy]) ∧ ExAt H vx x ∧ ExAt H vy y
  | v, .nt x => ∃ a vx, v = .ref a ∧ H a = some (.tup [.str "not", vx]) ∧ ExAt H vx x
  | v, .mn x => ∃ a vx, v = .ref a ∧ H a = some (.tup [.str "minus", vx]) ∧ ExAt H vx x
  | v, .ln x => ∃ a vx, v = .ref a ∧ H a = some (.tup [.str "length", vx]) ∧ ExAt H vx x
theorem ExAt.keep {H H' : Hp} (h : ∀ (a : Addr) (xs : List V), H a = some (.tup xs) → H' a = some (.tup xs)) : ∀ {e : Ex} {v : V}, ExAt H v e → ExAt H' v e
  | .num _, _, ⟨a, e, q⟩ => ⟨a, e, h _ _ q⟩
  | .quo _, _, ⟨a, e, q⟩ => ⟨a, e, h _ _ q⟩
  | .col _, _, ⟨a, e, q⟩ => ⟨a, e, h _ _ q⟩
  | .two _ _ _, _, ⟨a, vx, vy, e, q, x, y⟩ => ⟨a, vx, vy, e, h _ _ q, x.keep h, y.keep h⟩
  | .nt _, _, ⟨a, vx, e, q, x⟩ => ⟨a, vx, e, h _ _ q, x.keep h⟩
  | .mn _, _, ⟨a, vx, e, q, x⟩ => ⟨a, vx, e, h _ _ q, x.keep h⟩
  | .ln _, _, ⟨a, vx, e, q, x⟩ => ⟨a, vx, e, h _ _ q, x.keep h⟩
def Ex.parts : Ex → List Ex
  | .two _ a b => [a, b]
  | .nt a => [a]
  | .mn a => [a]
  | .ln a => [a]
  | _ => []
def Ex.size : Ex → Nat
  | .two _ a b => a.size + b.size + 1
  | .nt a => a.size + 1
  | .mn a => a.size + 1
  | .ln a => a.size + 1
  | _ => 1
theorem Ex.size_pos (e : Ex) : 0 < e.size := by cases e <;> exact Nat.succ_pos _
def nextR (r : List Ex) : List Ex := r.flatMap Ex.parts
/-- how long the rows are -/
def rowsL : Nat → List Ex → List Nat
  | 0, _ => []
  | _ + 1, [] => []
  | f + 1, e :: r => (e :: r).length :: rowsL f (nextR (e :: r))
def mdep : List Ex → Nat
  | [] => 0
  | e :: r => max e.dep (mdep r)
def sumS : List Ex → Nat
  | [] => 0
  | e :: r => e.size + sumS r
theorem mdep_app (a b : List Ex) : mdep (a ++ b) = max (mdep a) (mdep b) := by
  induction a with
  | nil => simp [mdep]
  | cons e a ih =>
    show max e.dep (mdep (a ++ b)) = max (max e.dep (mdep a)) (mdep b)
    rw [ih, Nat.max_assoc]
theorem sumS_app (a b : List Ex) : sumS (a ++ b) = sumS a + sumS b := by
  induction a with
  | nil => simp [sumS]
  | cons e a ih =>
    show e.size + sumS (a ++ b) = e.size + sumS a + sumS b
    rw [ih, Nat.add_assoc]
theorem parts_dep (e : Ex) : mdep e.parts + 1 = e.dep ∨ (e.parts = [] ∧ e.dep = 1) := by
  cases e with
  | two op a b =>
    refine .inl ?_
    show max a.dep (max b.dep 0) + 1 = max a.dep b.dep + 1
    simp
  | nt a => exact .inl (by show max a.dep 0 + 1 = a.dep + 1; simp)
  | mn a => exact .inl (by show max a.dep 0 + 1 = a.dep + 1; simp)
  | ln a => exact .inl (by show max a.dep 0 + 1 = a.dep + 1; simp)
  | num i => exact .inr ⟨rfl, rfl⟩
  | quo i => exact .inr ⟨rfl, rfl⟩
  | col i => exact .inr ⟨rfl, rfl⟩
theorem parts_size (e : Ex) : sumS e.parts + 1 = e.size := by
  cases e with
  | two op a b => show a.size + (b.size + 0) + 1 = a.size + b.size + 1; omega
  | nt a => rfl
  | mn a => rfl
  | ln a => rfl
  | num i => rfl
  | quo i => rfl
  | col i => rfl
theorem next_dep : ∀ (e : Ex) (r : List Ex), mdep (nextR (e :: r)) < mdep (e :: r)
  | e, [] => by
    have h : nextR [e] = e.parts := by simp [nextR]
    rw [h]
    have := parts_dep e
    have hp := e.dep_pos
    show mdep e.parts < max e.dep 0
    rcases this with h | ⟨h, h2⟩
    · omega
    · rw [h]
      show 0 < _
      omega
  | e, e2 :: r => by
    have ih := next_dep e2 r
    have h : nextR (e :: e2 :: r) = e.parts ++ nextR (e2 :: r) := by simp [nextR]
    rw [h, mdep_app]
    have := parts_dep e
    have hp := e.dep_pos
    show max (mdep e.parts) (mdep (nextR (e2 :: r))) < max e.dep (mdep (e2 :: r))
    rcases this with h | ⟨h, h2⟩
    · omega
    · rw [h]
      show max 0 _ < _
      omega
theorem next_size : ∀ r : List Ex, sumS (nextR r) + r.length = sumS r
  | [] => rfl
  | e :: r => by
    have ih := next_size r
    have h : nextR (e :: r) = e.parts ++ nextR r := by simp [nextR]
    rw [h, sumS_app]
    have := parts_size e
    show sumS e.parts + sumS (nextR r) + (r.length + 1) = e.size + sumS r
    omega
theorem len_sum : ∀ r : List Ex, r.length ≤ sumS r
  | [] => Nat.le_refl _
  | e :: r => by
    have := len_sum r
    have h := e.size_pos
    show r.length + 1 ≤ e.size + sumS r
    omega
theorem rows_nil (f : Nat) : rowsL f [] = [] := by cases f <;> rfl
def largeE (e : Ex) : Bool := decide (80 < (rowsL e.dep [e]).sum) || decide (40 < (rowsL e.dep [e]).length)
section
variable {P : Program} {w : World} {K : PySem.W.Frag} {mg : Str → Option Value} {base : Heap}
/-! ### parts_of -/
theorem none_back {H H' : Hp} {a : Addr} (h : Same H H') (e : H' a = none) : H a = none := by
  cases q : H a with
  | none => rfl
  | some o =>
    rw [h _ _ q] at e
    cases e
def spParts : Sp := fun vs H Q _ => ∃ (v : V) (e : Ex), vs = [v] ∧ ExAt H v e ∧ ∀ (l : Addr) (xs : List V) (H' : Hp), Same H H' → H l = none → H' l = some (.lst xs) → Paired (ExAt H') xs e.parts → Q (.ref l) H'
theorem sc_parts : FnScope ["told"] ["told"] (defScope s_parts_of) := ⟨rfl, rfl, rfl, by decide +kernel, rfl, by decide +kernel, by decide +kernel⟩
theorem ok_parts {f : Addr} {fd : FuncData} (F : Fun K "parts_of" "parts_of" s_parts_of f fd) : FnOk P w K mg base CX0 1 f fd ["told"] spParts := by
  refine F.ok sc_parts (fun vs H Q E h => ?_) (fun cdv A outer s H vs Q E hr h => ?_)
  · obtain ⟨v, e, rfl, _⟩ := h
    rfl
  obtain ⟨v, e, rfl, hx, q⟩ := h
  refine ⟨_, pss_cons (ps_if (pt_cmpR op_eq (pe_ix ix_tup (pv 0) pe_int (fun _ _ => rfl)) pe_str (nomark _)) (pss_one (ps_ret (pe_lst (pa_cons (pe_ix ix_tup (pv 0) pe_int (fun _ _ => rfl)) (pa_cons (pe_ix ix_tup (pv 0) pe_int (fun _ _ => rfl)) pa_nil))))) (pss_nil))
      (pss_cons (ps_if (pt_cmpR op_in_seq (pe_ix ix_tup (pv 0) pe_int (fun _ _ => rfl)) (pe_tup (pa_cons pe_str (pa_cons pe_str (pa_cons pe_str pa_nil)))) (by with_unfolding_all rfl)) (pss_one (ps_ret (pe_lst (pa_cons (pe_ix ix_tup (pv 0) pe_int (fun _ _ => rfl)) pa_nil)))) (pss_nil))
      (pss_one (ps_ret (pe_lst pa_nil)))), ?_⟩
  have z0 : 0 ≤ sizeLine := by decide
  have z1 : 1 ≤ sizeLine := by decide
  have z2 : 2 ≤ sizeLine := by decide
  have z3 : 3 ≤ sizeLine := by decide
  have words : ∀ z : Str, (z ∈ (["not", "minus", "length"] : List Str)) ↔ (z = "not" ∨ z = "minus" ∨ z = "length") := fun z => by
    simp only [List.mem_cons, List.not_mem_nil, or_false]
  cases e with
  | num i =>
    obtain ⟨a, rfl, ha⟩ := hx
    refine ⟨_, rfl, a, _, 0, _, rfl, rfl, SqT.of ha, rfl, rfl, _, rfl, iteF ?_⟩
    refine ⟨_, rfl, a, _, 0, _, rfl, rfl, SqT.of ha, rfl, z3, fun t ht => ⟨t, _, rfl, .inr (SqT.of upd_same), rfl, flat_strs ["not", "minus", "length"], _, rfl, in_strs (l := ["not", "minus", "length"]) (fun h => absurd h (by decide +kernel)) (fun _ => ?_)⟩⟩
    exact ⟨z0, fun l hl => q l [] _ ((same_upd ht).trans (same_upd hl)) (none_back (same_upd ht) hl) upd_same .nil⟩
  | quo z =>
    obtain ⟨a, rfl, ha⟩ := hx
    refine ⟨_, rfl, a, _, 0, _, rfl, rfl, SqT.of ha, rfl, rfl, _, rfl, iteF ?_⟩
    refine ⟨_, rfl, a, _, 0, _, rfl, rfl, SqT.of ha, rfl, z3, fun t ht => ⟨t, _, rfl, .inr (SqT.of upd_same), rfl, flat_strs ["not", "minus", "length"], _, rfl, in_strs (l := ["not", "minus", "length"]) (fun h => absurd h (by decide +kernel)) (fun _ => ?_)⟩⟩
    exact ⟨z0, fun l hl => q l [] _ ((same_upd ht).trans (same_upd hl)) (none_back (same_upd ht) hl) upd_same .nil⟩
  | col x =>
    obtain ⟨a, rfl, ha⟩ := hx
    refine ⟨_, rfl, a, _, 0, _, rfl, rfl, SqT.of ha, rfl, rfl, _, rfl, iteF ?_⟩
    refine ⟨_, rfl, a, _, 0, _, rfl, rfl, SqT.of ha, rfl, z3, fun t ht => ⟨t, _, rfl, .inr (SqT.of upd_same), rfl, flat_strs ["not", "minus", "length"], _, rfl, in_strs (l := ["not", "minus", "length"]) (fun h => absurd h (by decide +kernel)) (fun _ => ?_)⟩⟩
    exact ⟨z0, fun l hl => q l [] _ ((same_upd ht).trans (same_upd hl)) (none_back (same_upd ht) hl) upd_same .nil⟩
  | two op x y =>
    obtain ⟨a, vx, vy, rfl, ha, hx, hy⟩ := hx
    refine ⟨_, rfl, a, _, 0, _, rfl, rfl, SqT.of ha, rfl, rfl, _, rfl, iteT ?_⟩
    refine ⟨_, rfl, a, _, 2, _, rfl, rfl, SqT.of ha, rfl, _, rfl, a, _, 3, _, rfl, rfl, SqT.of ha, rfl, z2, fun l hl => ?_⟩
    have u := same_upd (o := .lst [vx, vy]) hl
    exact q l _ _ u hl upd_same (.cons (hx.keep fun a xs e => u a _ e) (.cons (hy.keep fun a xs e => u a _ e) .nil))
  | nt x =>
    obtain ⟨a, vx, rfl, ha, hx⟩ := hx
    refine ⟨_, rfl, a, _, 0, _, rfl, rfl, SqT.of ha, rfl, rfl, _, rfl, iteF ?_⟩
    refine ⟨_, rfl, a, _, 0, _, rfl, rfl, SqT.of ha, rfl, z3, fun t ht => ⟨t, _, rfl, .inr (SqT.of upd_same), rfl, flat_strs ["not", "minus", "length"], _, rfl, in_strs (l := ["not", "minus", "length"]) (fun _ => ?_) (fun h => absurd (show ("not" : Str) ∈ (["not", "minus", "length"] : List Str) by decide +kernel) h)⟩⟩
    have u1 := same_upd (o := .tup ((["not", "minus", "length"] : List Str).map V.str)) ht
    refine ⟨_, rfl, a, _, 1, _, rfl, rfl, SqT.of (u1 _ _ ha), rfl, z1, fun l hl => ?_⟩
    have u := u1.trans (same_upd (o := .lst [vx]) hl)
    exact q l _ _ u (none_back u1 hl) upd_same (.cons (hx.keep fun a xs e => u a _ e) .nil)
  | mn x =>
    obtain ⟨a, vx, rfl, ha, hx⟩ := hx
    refine ⟨_, rfl, a, _, 0, _, rfl, rfl, SqT.of ha, rfl, rfl, _, rfl, iteF ?_⟩
    refine ⟨_, rfl, a, _, 0, _, rfl, rfl, SqT.of ha, rfl, z3, fun t ht => ⟨t, _, rfl, .inr (SqT.of upd_same), rfl, flat_strs ["not", "minus", "length"], _, rfl, in_strs (l := ["not", "minus", "length"]) (fun _ => ?_) (fun h => absurd (show ("minus" : Str) ∈ (["not", "minus", "length"] : List Str) by decide +kernel) h)⟩⟩
    have u1 := same_upd (o := .tup ((["not", "minus", "length"] : List Str).map V.str)) ht
    refine ⟨_, rfl, a, _, 1, _, rfl, rfl, SqT.of (u1 _ _ ha), rfl, z1, fun l hl => ?_⟩
    have u := u1.trans (same_upd (o := .lst [vx]) hl)
    exact q l _ _ u (none_back u1 hl) upd_same (.cons (hx.keep fun a xs e => u a _ e) .nil)
  | ln x =>
    obtain ⟨a, vx, rfl, ha, hx⟩ := hx
    refine ⟨_, rfl, a, _, 0, _, rfl, rfl, SqT.of ha, rfl, rfl, _, rfl, iteF ?_⟩
    refine ⟨_, rfl, a, _, 0, _, rfl, rfl, SqT.of ha, rfl, z3, fun t ht => ⟨t, _, rfl, .inr (SqT.of upd_same), rfl, flat_strs ["not", "minus", "length"], _, rfl, in_strs (l := ["not", "minus", "length"]) (fun _ => ?_) (fun h => absurd (show ("length" : Str) ∈ (["not", "minus", "length"] : List Str) by decide +kernel) h)⟩⟩
    have u1 := same_upd (o := .tup ((["not", "minus", "length"] : List Str).map V.str)) ht
    refine ⟨_, rfl, a, _, 1, _, rfl, rfl, SqT.of (u1 _ _ ha), rfl, z1, fun l hl => ?_⟩
    have u := u1.trans (same_upd (o := .lst [vx]) hl)
    exact q l _ _ u (none_back u1 hl) upd_same (.cons (hx.keep fun a xs e => u a _ e) .nil)
end
end Kx

namespace Kx
open PySem PySem.Spec PyProof.Rows L2 TL
section
variable {P : Program} {w : World} {K : PySem.W.Frag} {mg : Str → Option Value} {base : Heap}
theorem paired_app {α β : Type} {F : α → β → Prop} : ∀ {a : List α} {b : List β} {c : List α} {d : List β}, Paired F a b → Paired F c d → Paired F (a ++ c) (b ++ d)
  | _, _, _, _, .nil, h => h
  | _, _, _, _, .cons x t, h => .cons x (paired_app t h)
theorem paired_at {α β : Type} {F : α → β → Prop} : ∀ {a : List α} {b : List β}, Paired F a b → ∀ {i : Nat} {x : α}, a[i]? = some x → ∃ y, b[i]? = some y ∧ F x y
  | _, _, .nil, i, x, h => by simp at h
  | _, _, .cons f t, 0, x, h => by
    cases h
    exact ⟨_, rfl, f⟩
  | _, _, .cons f t, i + 1, x, h => paired_at t (i := i) (by simpa using h)
theorem paired_keep {H H' : Hp} {xs : List V} {es : List Ex} (h : Paired (ExAt H) xs es) (k : ∀ (a : Addr) (xs : List V), H a = some (.tup xs) → H' a = some (.tup xs)) : Paired (ExAt H') xs es := Paired.mapP h fun a b q => ExAt.keep k q
/-! ### rows_of_parts -/
def spRows : Sp := fun vs H Q _ => ∃ (v : V) (e : Ex), vs = [v] ∧ ExAt H v e ∧ e.size ≤ 10000 ∧ ∀ (l : Addr) (rs : List (Addr × Nat)) (H' : Hp), Same H H' → H' l = some (.lst (rs.map fun r => .ref r.1)) → (∀ r ∈ rs, ∃ xs, H' r.1 = some (.lst xs) ∧ xs.length = r.2) → rs.map (·.2) = rowsL e.dep [e] → Q (.ref l) H'
abbrev N_rows_of_parts : List Str := ["told", "rows", "row", "whole", "part"]
theorem sc_rows : FnScope N_rows_of_parts ["told"] (defScope s_rows_of_parts) := ⟨rfl, rfl, rfl, by decide +kernel, rfl, by decide +kernel, by decide +kernel⟩
theorem ok_rows {f : Addr} {fd : FuncData} (F : Fun K "rows_of_parts" "rows_of_parts" s_rows_of_parts f fd) (m_len : mg "len" = none) (G_parts_of : Ready P w K mg base 1 "parts_of" ["told"] spParts) : FnOk P w K mg base CX0 2 f fd ["told"] spRows := by
  refine F.ok sc_rows (fun vs H Q E h => ?_) (fun cdv A outer s H vs Q E hr h => ?_)
  · obtain ⟨v, e, rfl, _⟩ := h
    rfl
  obtain ⟨v, e, rfl, hx, hsz, q⟩ := h
  have nd := sc_rows.nd
  have hr1 : Room 1 _ := hr
  have z0 : 0 ≤ sizeLine := by decide
  have z1 : 1 ≤ sizeLine := by decide
  refine ⟨_, pss_cons (ps_set (i := 1) nd rfl (.inl rfl) (pe_lst pa_nil))
      (pss_cons (ps_set (i := 2) nd rfl (.inl rfl) (pe_lst (pa_cons (pv 0) pa_nil)))
      (pss_cons (ps_while PassesOwn.never (pt_cmpR op_gt (pe_callB call_len_seq (by rfl) m_len PySem.boot_len (pa_cons (pv 2) pa_nil)) pe_int (nomark _)) (pss_cons (ps_expr (pe_bm PySem.F.plainAttrs_list PySem.F.slot_list_append PySem.F.type_list_append mt_append (pv 1) (pa_cons (pv 2) pa_nil)))
      (pss_one (ps_setLc2 (i := 2) (own := [("whole", 3), ("part", 4)]) (vs1 := [4]) (g := gName 3) (tt := tYes) (wi1 := iList K (tCall spParts [] E0 (tCons (tVar 3) tNil))) (g1 := gName 4) (tt1 := tYes) (te := tVar 4) rfl nd rfl rfl (sw_true rfl rfl rfl (by decide +kernel)) (pi_list (pv 2)) (blkOk_by (N := N_rows_of_parts) (sc := defScope s_rows_of_parts) (by decide +kernel)) (by decide) (fun _ _ _ _ _ => pg_name (i := 3) nd rfl (Or.inl rfl)) (fun _ _ _ _ _ => pts_nil) (fun _ _ _ _ _ => pi_list (pe_fn G_parts_of hr1 (pa_cons (pv 3) pa_nil))) (fun _ _ _ _ _ => pg_name (i := 4) nd rfl (Or.inl rfl)) (fun _ _ _ _ _ => pts_nil) (fun _ _ _ _ _ => (pv 4))))))
      (pss_one (ps_ret (pv 1))))), ?_⟩
  refine ⟨z0, fun R hR => ?_⟩
  have s1 := same_upd (o := .lst []) hR
  have eR1 : upd H R (.lst []) R = some (.lst []) := upd_same
  generalize upd H R (.lst []) = H1 at s1 eR1 ⊢
  refine ⟨_, rfl, z1, fun r0 hr0 => ?_⟩
  have s2 := same_upd (o := .lst [v]) hr0
  have er0 : upd H1 r0 (.lst [v]) r0 = some (.lst [v]) := upd_same
  have n0 : r0 ≠ R := (ne_of_none eR1 hr0).symm
  replace eR1 := s2 _ _ eR1
  replace s1 := s1.trans s2
  generalize upd H1 r0 (.lst [v]) = H2 at s1 er0 eR1 ⊢
  clear s2 hr0
  let Inv : Nat → L2.St → Hp → Prop := fun mm σ H' => ∃ (rs : List (Addr × Nat)) (r : Addr) (xs : List V) (es : List Ex) (y3 y4 : Option V), σ = [some v, some (.ref R), some (.ref r), y3, y4] ∧ Same H H' ∧ H' R = some (.lst (rs.map fun r => .ref r.1)) ∧ (∀ r ∈ rs, r.1 ≠ R ∧ ∃ xs, H' r.1 = some (.lst xs) ∧ xs.length = r.2) ∧ H' r = some (.lst xs) ∧ r ≠ R ∧ Paired (ExAt H') xs es ∧ mdep es ≤ mm ∧ sumS es + rs.length ≤ 10000 ∧ rs.map (·.2) ++ rowsL mm es = rowsL e.dep [e]
  refine ⟨Inv, ⟨e.dep, [], r0, [v], [e], none, none, rfl, s1, eR1, fun r h => absurd h List.not_mem_nil, er0, n0, .cons (ExAt.keep (fun a xs e => s1 a _ e) hx) .nil, by show max e.dep 0 ≤ _; omega, by show e.size + 0 + 0 ≤ _; omega, rfl⟩, ?_⟩
  rintro mm σ H' ⟨rs, r, xs, es, y3, y4, rfl, sm, eR, hrs, er, nr, hp, hd, hs, hrow⟩
  have lx : xs.length = es.length := Paired.length hp
  refine ⟨_, rfl, r, _, rfl, .inl (SqL.of er), _, _, rfl, rfl, _, rfl, ite2 (fun c => ?_) (fun c => ?_)⟩
  · obtain ⟨e0, es', rfl⟩ : ∃ e0 es', es = e0 :: es' := by
      cases es with
      | nil =>
        have := of_decide_eq_true c
        rw [lx] at this
        exact absurd this (by decide)
      | cons a b => exact ⟨a, b, rfl⟩
    have nd1 := next_dep e0 es'
    have ns1 := next_size (e0 :: es')
    have ll := len_sum (e0 :: es')
    obtain ⟨f', rfl⟩ : ∃ f', mm = f' + 1 := ⟨mm - 1, by omega⟩
    refine ⟨fun σ' G => ∃ m', m' < f' + 1 ∧ Inv m' σ' G, fun σ' G h => h, ?_⟩
    refine ⟨_, rfl, .inl ⟨rfl, _, SqL.of eR⟩, _, rfl, R, _, _, rfl, rfl, eR, Nat.lt_of_le_of_lt (show _ ≤ 10000 by rw [List.length_map]; omega) (by decide), ?_⟩
    have eR3 : upd H' R (.lst ((rs.map fun r => V.ref r.1) ++ [.ref r])) R = some (.lst ((rs ++ [(r, xs.length)]).map fun r => V.ref r.1)) := by
      rw [upd_same, List.map_append]
      rfl
    have b3 : But R H' (upd H' R (.lst ((rs.map fun r => V.ref r.1) ++ [.ref r]))) := fun a o ha e => by
      rw [upd_ne ha]
      exact e
    generalize upd H' R (.lst ((rs.map fun r => V.ref r.1) ++ [.ref r])) = H3 at eR3 b3 ⊢
    have er3 := b3 _ _ nr er
    have k3 : ∀ (a : Addr) (xs : List V), H' a = some (.tup xs) → H3 a = some (.tup xs) := fun a xs e => b3 a _ (fun z => by rw [z, eR] at e; cases e) e
    have hp3 := paired_keep hp k3
    have sm3 : Same H H3 := fun a o e => b3 a o (ne_of_none e hR) (sm _ _ e)
    have hrs3 : ∀ x ∈ rs ++ [(r, xs.length)], x.1 ≠ R ∧ ∃ ys, H3 x.1 = some (.lst ys) ∧ ys.length = x.2 := fun x hx => by
      rcases List.mem_append.mp hx with hx | hx
      · obtain ⟨a, ys, b, c⟩ := hrs x hx
        exact ⟨a, ys, b3 _ _ a b, c⟩
      · rw [List.mem_singleton.mp hx]
        exact ⟨nr, xs, er3, rfl⟩
    clear b3 k3
    refine ⟨_, rfl, r, rfl, ⟨_, SqL.of er3⟩, fun D hD => ?_⟩
    let Pv : Nat → Hp → Prop := fun i G => Same H3 G ∧ ∃ ys, G D = some (.lst ys) ∧ Paired (ExAt G) ys (nextR ((e0 :: es').take i))
    refine ⟨fun i m G => m = xs.length - i ∧ i ≤ xs.length ∧ Pv i G, ⟨_, rfl, Nat.zero_le _, same_upd hD, [], upd_same, .nil⟩, ?_⟩
    rintro i m G ⟨rfl, hi, sG, ys, eD, hy⟩
    have sq : SqL K G r xs := SqL.of (sG _ _ er3)
    by_cases hlt : i < xs.length
    · refine .inr ⟨walk_list.goes i G hlt sq, fun G' => Pv (i + 1) G', fun G' p' => ⟨xs.length - (i + 1), by omega, rfl, hlt, p'⟩, fun x G' y => ?_⟩
      obtain ⟨rfl, hx'⟩ := walk_list.yields i G x G' hlt sq y
      obtain ⟨ei, he, hxe⟩ := paired_at (paired_keep hp3 fun a xs e => sG a _ e) hx'
      have tk : (e0 :: es').take (i + 1) = (e0 :: es').take i ++ [ei] := by
        rw [List.take_add_one, he]
        rfl
      have tn : nextR ((e0 :: es').take (i + 1)) = nextR ((e0 :: es').take i) ++ ei.parts := by
        rw [tk]
        simp [nextR]
      refine ⟨rfl, _, rfl, x, ei, rfl, hxe, fun l zs H4 s4 hl0 el hz => ?_⟩
      have eD4 := s4 _ _ eD
      have hy4 := paired_keep hy fun a xs e => s4 a _ e
      have nl : l ≠ D := fun z => by
        rw [z, eD] at hl0
        cases hl0
      have size : (ys ++ zs).length ≤ 10000 := by
        have h1 := Paired.length hy4
        have h2 := Paired.length hz
        have h3 : (nextR ((e0 :: es').take (i + 1))).length ≤ (nextR (e0 :: es')).length := by
          conv => rhs; rw [← List.take_append_drop (i + 1) (e0 :: es')]
          unfold nextR
          rw [List.flatMap_append, List.length_append]
          exact Nat.le_add_right _ _
        have h4 := len_sum (nextR (e0 :: es'))
        rw [tn, List.length_append] at h3
        rw [List.length_append]
        omega
      refine ⟨l, rfl, ⟨_, SqL.of el⟩, fun j k G5 => k = zs.length - j ∧ j ≤ zs.length ∧ But D H4 G5 ∧ G5 D = some (.lst (ys ++ zs.take j)), ⟨_, rfl, Nat.zero_le _, But.refl _ _, by rw [eD4, List.take_zero, List.append_nil]⟩, ?_⟩
      rintro j k G5 ⟨rfl, hj, b5, e5⟩
      have sq5 : SqL K G5 l zs := SqL.of (b5 _ _ nl el)
      have k5 : ∀ (a : Addr) (xs : List V), H4 a = some (.tup xs) → G5 a = some (.tup xs) := fun a xs e => b5 a _ (fun z => by rw [z, eD4] at e; cases e) e
      by_cases hlj : j < zs.length
      · refine .inr ⟨walk_list.goes j G5 hlj sq5, fun G6 => j + 1 ≤ zs.length ∧ But D H4 G6 ∧ G6 D = some (.lst (ys ++ zs.take (j + 1))), fun G6 p6 => ⟨zs.length - (j + 1), by omega, rfl, p6⟩, fun x6 G6 y6 => ?_⟩
        obtain ⟨rfl, hx6⟩ := walk_list.yields j G5 x6 G6 hlj sq5 y6
        refine ⟨rfl, _, rfl, _, e5, ?_, hlj, b5.trans but_upd, ?_⟩
        · refine Nat.lt_of_le_of_lt (show _ ≤ 10000 from ?_) (by decide)
          rw [List.length_append, List.length_take]
          rw [List.length_append] at size
          omega
        · rw [upd_same, List.take_add_one, hx6, List.append_assoc]
          rfl
      · have ej : j = zs.length := by omega
        subst ej
        refine .inl ⟨walk_list.stops G5 sq5, fun a o e => b5 a o (ne_of_none e hD) (s4 _ _ (sG _ _ e)), ys ++ zs, by rw [e5, List.take_length], ?_⟩
        rw [tn]
        exact paired_app (paired_keep hy4 k5) (paired_keep hz k5)
    · have ei : i = xs.length := by omega
      subst ei
      refine .inl ⟨walk_list.stops G sq, ?_⟩
      rw [lx, List.take_length] at hy
      refine ⟨f', by omega, rs ++ [(r, xs.length)], D, ys, nextR (e0 :: es'), y3, y4, rfl, fun a o e => sG _ _ (sm3 _ _ e), sG _ _ eR3, fun x hx => ?_, eD, (ne_of_none eR3 hD).symm, hy, by omega, ?_, ?_⟩
      · obtain ⟨a, zs, b, c⟩ := hrs3 x hx
        exact ⟨a, zs, sG _ _ b, c⟩
      · rw [List.length_append]
        have : (e0 :: es').length = es'.length + 1 := rfl
        show _ + (rs.length + 1) ≤ 10000
        omega
      · rw [← hrow, List.map_append, List.append_assoc, lx]
        rfl
  · have e0 : es = [] := by
      cases es with
      | nil => rfl
      | cons a b => exact absurd (decide_eq_true (by rw [lx]; exact Int.natCast_pos.mpr (Nat.succ_pos _))) c
    subst e0
    rw [rows_nil, List.append_nil] at hrow
    exact ⟨_, rfl, q R rs H' sm eR (fun r hr => (hrs r hr).2) hrow⟩
end
end Kx

namespace Kx
open PySem PySem.Spec PyProof.Rows L2 TL
section
variable {P : Program} {w : World} {K : PySem.W.Frag} {mg : Str → Option Value} {base : Heap}
theorem dep_size : ∀ e : Ex, e.dep ≤ e.size
  | .two _ a b => by
    have h1 := dep_size a
    have h2 := dep_size b
    show max a.dep b.dep + 1 ≤ a.size + b.size + 1
    omega
  | .nt a => Nat.succ_le_succ (dep_size a)
  | .mn a => Nat.succ_le_succ (dep_size a)
  | .ln a => Nat.succ_le_succ (dep_size a)
  | .num _ => Nat.le_refl 1
  | .quo _ => Nat.le_refl 1
  | .col _ => Nat.le_refl 1
theorem rows_len : ∀ (f : Nat) (r : List Ex), (rowsL f r).length ≤ f
  | 0, _ => Nat.le_refl _
  | _ + 1, [] => Nat.zero_le _
  | f + 1, e :: r => Nat.succ_le_succ (rows_len f _)
def spMany : Sp := fun vs H Q _ => ∃ (v : V) (e : Ex), vs = [v] ∧ ExAt H v e ∧ e.size ≤ 10000 ∧ ∀ H', Same H H' → Q (.int ((rowsL e.dep [e]).sum : Nat)) H'
abbrev N_how_many : List Str := ["told", "row"]
theorem sc_many : FnScope N_how_many ["told"] (defScope s_how_many) := ⟨rfl, rfl, rfl, by decide +kernel, rfl, by decide +kernel, by decide +kernel⟩
def teLen (K : PySem.W.Frag) (i : Nat) : TE := tCB (fun xs H Q => ∃ p ys, xs = [.ref p] ∧ (SqL K H p ys ∨ SqT K H p ys) ∧ Q (.int ys.length) H) (tCons (tVar i) tNil)
theorem sum_cast : ∀ l : List Nat, ((l.map fun n : Nat => (n : Int)).sum) = ((l.sum : Nat) : Int)
  | [] => rfl
  | a :: l => by
    show (a : Int) + (l.map fun n : Nat => (n : Int)).sum = ((a + l.sum : Nat) : Int)
    rw [sum_cast l]
    omega
theorem ok_many {f : Addr} {fd : FuncData} (F : Fun K "how_many" "how_many" s_how_many f fd) (m_len : mg "len" = none) (m_sum : mg "sum" = none) (G_rows : Ready P w K mg base 2 "rows_of_parts" ["told"] spRows) : FnOk P w K mg base CX0 3 f fd ["told"] spMany := by
  refine F.ok sc_many (fun vs H Q E h => ?_) (fun cdv A outer s H vs Q E hr h => ?_)
  · obtain ⟨v, e, rfl, _⟩ := h
    rfl
  obtain ⟨v, e, rfl, hx, hsz, q⟩ := h
  have nd := sc_many.nd
  have hr2 : Room 2 _ := hr
  refine ⟨_, pss_one (ps_ret (pe_callB (cr_sum rfl) (by rfl) m_sum boot_sum (pa_cons (pe_lc (own := [("row", 1)]) (g := gName 1) (tt := tYes) (te := teLen K 1) rfl nd (pi_list (pe_fn G_rows hr2 (pa_cons (pv 0) pa_nil))) (blkOk_by (N := N_how_many) (sc := defScope s_how_many) (by decide +kernel)) (fun _ _ _ _ _ => pg_name (i := 1) nd rfl (Or.inl rfl)) (fun _ _ _ _ _ => pts_nil) (fun _ _ _ _ _ => (pe_callB call_len_seq (by rfl) m_len PySem.boot_len (pa_cons (pv 1) pa_nil)))) pa_nil))), ?_⟩
  refine ⟨_, rfl, v, e, rfl, hx, hsz, fun l rs H1 s1 el hrs hmap => ⟨l, rfl, ⟨_, SqL.of el⟩, fun D hD => ?_⟩⟩
  refine lc_list (K := K) (a := l) (xs := rs.map fun r => .ref r.1) (fun i G => Same H1 G ∧ G D = some (.lst ((((rs.map (·.2)).map fun n : Nat => (n : Int)).take i).map V.int))) ⟨same_upd hD, upd_same⟩ (fun i G _ h => SqL.of (h.1 _ _ el)) ?_ ?_
  · rintro i x G hx ⟨sm, eD⟩
    rw [List.getElem?_map] at hx
    obtain ⟨r, hr', rfl⟩ := Option.map_eq_some_iff.mp hx
    obtain ⟨xs, er, lx⟩ := hrs r (List.mem_of_getElem? hr')
    have tk : (((rs.map (·.2)).map fun n : Nat => (n : Int))).take (i + 1) = (((rs.map (·.2)).map fun n : Nat => (n : Int))).take i ++ [(xs.length : Int)] := by
      rw [List.take_add_one, List.getElem?_map, List.getElem?_map, hr', lx]
      rfl
    have lr : rs.length ≤ 10000 := by
      have h := congrArg List.length hmap
      rw [List.length_map] at h
      have h2 := rows_len e.dep [e]
      have h3 := dep_size e
      omega
    refine ⟨rfl, _, rfl, r.1, _, rfl, .inl (SqL.of (sm _ _ er)), _, eD, Nat.lt_of_le_of_lt (show _ ≤ 10000 by rw [List.length_map, List.length_take, List.length_map, List.length_map]; omega) (by decide), fun b o ex => ?_, ?_⟩
    · rw [upd_ne (ne_of_none ex hD)]
      exact sm _ _ ex
    · rw [tk, List.map_append]
      exact upd_same
  · rintro G ⟨sm, eD⟩
    rw [List.length_map, List.take_of_length_le (by rw [List.length_map, List.length_map]; exact Nat.le_refl _)] at eD
    refine ⟨D, _, rfl, SqL.of eD, ?_⟩
    rw [sum_cast, hmap]
    exact q _ (s1.trans sm)
def spDeep : Sp := fun vs H Q _ => ∃ (v : V) (e : Ex), vs = [v] ∧ ExAt H v e ∧ e.size ≤ 10000 ∧ ∀ H', Same H H' → Q (.int ((rowsL e.dep [e]).length : Nat)) H'
theorem sc_deep : FnScope ["told"] ["told"] (defScope s_how_deep) := ⟨rfl, rfl, rfl, by decide +kernel, rfl, by decide +kernel, by decide +kernel⟩
theorem ok_deep {f : Addr} {fd : FuncData} (F : Fun K "how_deep" "how_deep" s_how_deep f fd) (m_len : mg "len" = none) (G_rows : Ready P w K mg base 2 "rows_of_parts" ["told"] spRows) : FnOk P w K mg base CX0 3 f fd ["told"] spDeep := by
  refine F.ok sc_deep (fun vs H Q E h => ?_) (fun cdv A outer s H vs Q E hr h => ?_)
  · obtain ⟨v, e, rfl, _⟩ := h
    rfl
  obtain ⟨v, e, rfl, hx, hsz, q⟩ := h
  have hr2 : Room 2 _ := hr
  refine ⟨_, pss_one (ps_ret (pe_callB call_len_seq (by rfl) m_len PySem.boot_len (pa_cons (pe_fn G_rows hr2 (pa_cons (pv 0) pa_nil)) pa_nil))), ?_⟩
  refine ⟨_, rfl, v, e, rfl, hx, hsz, fun l rs H1 s1 el hrs hmap => ⟨l, _, rfl, .inl (SqL.of el), ?_⟩⟩
  have h := congrArg List.length hmap
  rw [List.length_map] at h
  rw [List.length_map, h]
  exact q _ s1
def spLarge : Sp := fun vs H Q _ => ∃ (v : V) (e : Ex), vs = [v] ∧ ExAt H v e ∧ e.size ≤ 10000 ∧ ∀ H', Same H H' → Q (.bl (largeE e)) H'
theorem sc_large : FnScope ["told"] ["told"] (defScope s_is_large) := ⟨rfl, rfl, rfl, by decide +kernel, rfl, by decide +kernel, by decide +kernel⟩
theorem ok_large {f : Addr} {fd : FuncData} (F : Fun K "is_large" "is_large" s_is_large f fd) (m_1 : ∃ t, mg "MOST_IN_ONE" = some (.int 80 t)) (m_2 : ∃ t, mg "MOST_WITHIN" = some (.int 40 t)) (G_many : Ready P w K mg base 3 "how_many" ["told"] spMany) (G_deep : Ready P w K mg base 3 "how_deep" ["told"] spDeep) : FnOk P w K mg base CX0 4 f fd ["told"] spLarge := by
  refine F.ok sc_large (fun vs H Q E h => ?_) (fun cdv A outer s H vs Q E hr h => ?_)
  · obtain ⟨v, e, rfl, _⟩ := h
    rfl
  obtain ⟨v, e, rfl, hx, hsz, q⟩ := h
  obtain ⟨t1, m1⟩ := m_1
  obtain ⟨t2, m2⟩ := m_2
  have hr3 : Room 3 _ := hr
  refine ⟨_, pss_one (ps_ret (pe_or (pe_cmpR op_gt (pe_fn G_many hr3 (pa_cons (pv 0) pa_nil)) (pe_glob (v := .int 80) rfl m1 ⟨_, rfl⟩) (nomark _)) (pe_one (pe_cmpR op_gt (pe_fn G_deep hr3 (pa_cons (pv 0) pa_nil)) (pe_glob (v := .int 40) rfl m2 ⟨_, rfl⟩) (nomark _))))), ?_⟩
  refine ⟨_, rfl, v, e, rfl, hx, hsz, fun H1 s1 => ⟨_, _, rfl, rfl, _, rfl, ?_⟩⟩
  unfold largeE at q
  refine ite2 (fun c => ?_) (fun c => ?_)
  · rw [decide_eq_true (show 80 < (rowsL e.dep [e]).sum by have := of_decide_eq_true c; omega), Bool.true_or] at q
    exact q _ s1
  · rw [decide_eq_false (show ¬ 80 < (rowsL e.dep [e]).sum from fun h => c (decide_eq_true (by omega))), Bool.false_or] at q
    refine ⟨_, rfl, v, e, rfl, ExAt.keep (fun a xs h => s1 a _ h) hx, hsz, fun H2 s2 => ⟨_, _, rfl, rfl, ?_⟩⟩
    have e1 : decide (((rowsL e.dep [e]).length : Int) > 40) = decide (40 < (rowsL e.dep [e]).length) := decide_eq_decide.mpr (by omega)
    have h := q _ (s1.trans s2)
    rw [← e1] at h
    exact h
end
end Kx

namespace Kx
open PySem PySem.Spec PyProof.Rows L2 TL
abbrev s_next_level : Stmt := topS 18
abbrev s_read_operand : Stmt := topS 19
abbrev s_read_part : Stmt := topS 20
abbrev s_read_expression : Stmt := topS 21
/-! ### D.get(y, x), D a dict of the written part -/
def KGet (K : PySem.W.Frag) (d : Addr) (k : Str) (r : Option V) : Prop := (∃ u v, PySem.W.nsIn K d k = some (some u) ∧ RelV v u ∧ r = some v) ∨ (PySem.W.nsIn K d k = some none ∧ r = none)
def tKGet2 (K : PySem.W.Frag) (d : Addr) (ty tx : TE) : TE := fun σ H Q => ty σ H fun y H1 => tx σ H1 fun z H2 => ∃ (k : Str) (r : Option V), y = .str k ∧ KGet K d k r ∧ Q (r.getD z) H2
section
variable {X : Cx} {o e f : Expr} {apos cpos : Pos} {ty tx : TE} {d : Addr} {es : Array DictEntry} {n : Nat}
theorem pe_kget2 (D : KDict X.K X.w d es n) (ho : PE X o (tC (.ref d))) (he : PE X e ty) (hf : PE X f tx) (m : M2 X o "get" apos e f cpos) : PE X (.Call (.Attribute o "get" apos) [e, f] [] cpos) (tKGet2 X.K d ty tx) := by
  refine ⟨fun pins s σ H Q I h => ?_⟩
  refine wpAny_Call_method m.base m.few m.line PySem.F.plainAttrs_dict PySem.F.slot_dict_get PySem.F.type_dict_get (thn (ho.run pins s σ H (fun x H1 => x = V.ref d ∧ tKGet2 X.K d ty tx σ H1 Q) I ⟨rfl, h⟩) fun u s1 ⟨x, H1, I1, rx, ex, q1⟩ => ?_)
  subst ex
  obtain rfl : u = Value.ref d := rx
  have ob := I1.kIn d _ D.at_
  refine ⟨⟨_, ob, rfl⟩, fun a' e' => ?_, ?_⟩
  · cases e'
    exact ⟨_, ob, rfl⟩
  rw [m.trees]
  refine Calls.callWith_builtin rfl (Calls.evalArgs_plain (Calls.spliced_cons (thn (he.run pins s1 σ H1 _ I1 q1) fun iv s2 ⟨y, H2, I2, ry, q2⟩ =>
    Calls.spliced_cons (thn (hf.run pins s2 σ H2 _ I2 q2) fun fv s3 ⟨z, H3, I3, rz, k, r, ey, g, q3⟩ => Calls.spliced_nil ?_))))
  subst ey
  obtain ⟨t, rfl⟩ := ry
  have mp := PySem.W.mapOf_K (prog := X.prog) (w := X.w) I3.kIn D.at_ D.lit
  refine call_meetsIn PySem.F.slot_dict_get mp.typeIs PySem.F.entry_dict_get (PySem.F.args_dict_get_3 _ _ _) (meets_dict_get_default (strKind X.prog X.w) d (PySem.strKind_is X.prog X.w k t) D.low fv) ⟨_, mp, ?_⟩
  rcases g with ⟨u, v, e1, rv, rfl⟩ | ⟨e1, rfl⟩
  · rw [PySem.W.find_K D.at_ e1]
    exact ⟨v, H3, I3.tok _, rv, q3⟩
  · rw [PySem.W.find_K D.at_ e1]
    exact ⟨z, H3, I3.tok _, rz, q3⟩
end
end Kx

namespace Kx
open PySem PySem.Spec PyProof.Rows L2 TL
/-! ### how expressions are read -/
def levels : List (Str × Nat) := [("or", 1), ("and", 2), ("=", 4), ("!=", 4), ("<", 4), ("<=", 4), (">", 4), (">=", 4), ("+", 5), ("-", 5), ("*", 6), ("/", 6), ("mod", 6)]
def levO (z : Str) : Option Nat := (levels.find? fun p => decide (p.1 = z)).map (·.2)
def levW (z : Str) : Nat := (levO z).getD 0
def nextLev (ps : List Pc) (i : Nat) : Nat := levW (ownW ps i)
abbrev Rd1 : Type := Except Nat (Ex × Nat)
def thenR (r : Rd1) (k : Ex → Nat → Rd1) : Rd1 := match r with
  | .error j => .error j
  | .ok (e, j) => k e j
def closeR (ps : List Pc) (mk : Ex → Ex) (e : Ex) (j : Nat) : Rd1 := if ownW ps j = ")" then .ok (mk e, j + 1) else .error j
def leafP (x : Pc) : Option Ex := match x.val with
  | .nm n => if x.kind = "number" then some (.num n) else none
  | .tx z => if x.kind = "quoted" then some (.quo z) else if x.kind = "name" then some (.col z) else none
def rdOper (ps : List Pc) (rec : Nat → Nat → Rd1) (level i : Nat) : Rd1 :=
  if level ≤ 3 ∧ ownW ps i = "not" then thenR (rec 3 (i + 1)) fun e j => .ok (.nt e, j)
  else if ownW ps i = "-" then thenR (rec 7 (i + 1)) fun e j => .ok (.mn e, j)
  else if ownW ps i = "(" then thenR (rec 1 (i + 1)) (closeR ps id)
  else if ownW ps i = "length" then (if ownW ps (i + 1) = "(" then thenR (rec 1 (i + 2)) (closeR ps Ex.ln) else .error (i + 1))
  else match leafP (curP ps i) with
    | some e => .ok (e, i + 1)
    | none => .error i
def rdLoop (ps : List Pc) (rec : Nat → Nat → Rd1) (level : Nat) : Nat → Ex → Nat → Rd1
  | 0, e, i => .ok (e, i)
  | g + 1, e, i => if level ≤ nextLev ps i then thenR (rec (nextLev ps i + 1) (i + 1)) fun e2 j => if nextLev ps i = 4 ∧ nextLev ps j = 4 then .error j else rdLoop ps rec level g (.two (ownW ps i) e e2) j else .ok (e, i)
def rdPart (ps : List Pc) : Nat → Nat → Nat → Rd1
  | 0, _, i => .error i
  | f + 1, level, i => thenR (rdOper ps (rdPart ps f) level i) fun e j => thenR (rdLoop ps (rdPart ps f) level ps.length e j) fun e2 k => if level = 1 ∧ largeE e2 = true then .error k else .ok (e2, k)
/-- an expression of a text, and the place of the piece behind it -/
def readEx (z : Str) : Except Nat (Ex × Nat) := match piecesOf z with
  | .error c => .error c
  | .ok ps => match rdPart ps 100 1 0 with
    | .error j => .error (curP ps j).col
    | .ok r => .ok r
def errOf (z : Str) : Option Nat := match readEx z with
  | .error c => some c
  | .ok _ => none
example : errOf "k < 3 < 4" = some 7 := by decide +kernel
example : errOf "k + not k" = some 5 := by decide +kernel
example : errOf "k or k and k" = none := by decide +kernel
example : errOf "length k" = some 8 := by decide +kernel
theorem own_in {ps : List Pc} (h : EndP ps) {i : Nat} (hi : i < ps.length) : ownW ps i ∈ ("" : Str) :: ownAll := by
  by_cases hk : (curP ps i).kind = "own"
  · obtain ⟨qs, c, rfl, hq⟩ := id h
    have hm := cur_mem hi
    rcases List.mem_append.mp hm with hm | hm
    · obtain ⟨z, e, hz⟩ := (hq _ hm).own hk
      have hv := h.own hi hk
      rw [e] at hv
      rw [← PV.tx.inj hv]
      exact List.mem_cons_of_mem _ hz
    · rw [List.mem_singleton.mp hm] at hk
      exact absurd hk (show ¬ ("end" : Str) = "own" by decide +kernel)
  · have e : ownW ps i = "" := if_neg hk
    rw [e]
    exact List.mem_cons_self
theorem own_pos {ps : List Pc} {i : Nat} (h : ownW ps i ≠ "") : (curP ps i).kind ≠ "end" := fun z => h (if_neg (by rw [z]; exact show ¬ ("end" : Str) = "own" by decide +kernel))
/-- what LEVELS says -/
structure Lvl (K : PySem.W.Frag) (w : World) (mg : Str → Option Value) : Prop where
  ex : ∃ d es n, mg "LEVELS" = some (.ref d) ∧ KDict K w d es n ∧ ∀ z ∈ ("" : Str) :: ownAll, KGet K d z ((levO z).map fun l => .int (l : Int))
section
variable {P : Program} {w : World} {K : PySem.W.Frag} {mg : Str → Option Value} {base : Heap}
def spNextLv (CL : Addr) : Sp := fun vs H Q _ => ∃ (p : Addr) (n : Int) (ps : List Pc) (i : Nat), vs = [.ref p] ∧ LineAt H CL p n ps i ∧ i < ps.length ∧ EndP ps ∧ Q (.int (nextLev ps i : Nat)) H
theorem sc_nextlv : FnScope ["line"] ["line"] (defScope s_next_level) := ⟨rfl, rfl, rfl, by decide +kernel, rfl, by decide +kernel, by decide +kernel⟩
theorem ok_nextlv {f CL : Addr} {fd : FuncData} (F : Fun K "next_level" "next_level" s_next_level f fd) (Z : LnC K CL) (LV : Lvl K w mg) (G_own : ReadyM P w K mg base CL 2 "own_word" ["self"] (spOwn CL)) : FnOk P w K mg base CX0 3 f fd ["line"] (spNextLv CL) := by
  refine F.ok sc_nextlv (fun vs H Q E h => ?_) (fun cdv A outer s H vs Q E hr h => ?_)
  · obtain ⟨p, n, ps, i, rfl, _⟩ := h
    rfl
  obtain ⟨p, n, ps, i, rfl, hl, hi, he, q⟩ := h
  obtain ⟨d, es, nn, m_L, kd, hk⟩ := LV.ex
  have hr2 : Room 2 _ := hr
  refine ⟨_, pss_one (ps_ret (pe_kget2 kd (pe_glob (v := .ref d) rfl m_L rfl) (pe_m0' G_own Z.cls hr2 noE (pv 0)) pe_int ⟨rfl, rfl, rfl, rfl⟩)), ?_⟩
  obtain ⟨dx, L, as, h1, h2, h3, h4⟩ := id hl
  refine ⟨_, rfl, p, dx, _, rfl, h1, rfl, p, n, ps, i, rfl, hl, hi, he, _, _, rfl, hk _ (own_in he hi), ?_⟩
  have e : ((levO (ownW ps i)).map fun l => V.int (l : Int)).getD (.int 0) = .int (nextLev ps i : Nat) := by
    unfold nextLev levW
    cases levO (ownW ps i) <;> rfl
  rw [e]
  exact q
end
end Kx

namespace Kx
open PySem PySem.Spec PyProof.Rows L2 TL
/-- where a reading leaves off -/
def FineR (ps : List Pc) (i : Nat) : Rd1 → Prop
  | .error j => j < ps.length
  | .ok (e, j) => j < ps.length ∧ i < j ∧ e.size + i ≤ j
theorem thenR_fine {ps : List Pc} {i i' : Nat} {r : Rd1} {k : Ex → Nat → Rd1} (hr : FineR ps i' r) (hk : ∀ e j, r = .ok (e, j) → j < ps.length → i' < j → e.size + i' ≤ j → FineR ps i (k e j)) : FineR ps i (thenR r k) := by
  match r, hr with
  | .error j, h => exact h
  | .ok (e, j), ⟨h1, h2, h3⟩ => exact hk e j rfl h1 h2 h3
theorem close_fine {ps : List Pc} (he : EndP ps) {mk : Ex → Ex} {e : Ex} {i i' j : Nat} (hm : (mk e).size ≤ e.size + 1) (hj : j < ps.length) (h2 : i < j) (hs : e.size + i' ≤ j) (hi : i ≤ i') : FineR ps i (closeR ps mk e j) := by
  unfold closeR
  by_cases h : ownW ps j = ")"
  · rw [if_pos h]
    have := he.next hj (own_pos (by rw [h]; decide +kernel))
    exact ⟨this, by omega, by omega⟩
  · rw [if_neg h]
    exact hj
theorem leaf_kind {x : Pc} {e : Ex} (h : leafP x = some e) : x.kind ≠ "end" ∧ e.size = 1 := by
  unfold leafP at h
  split at h
  · split at h
    · rename_i hk
      cases h
      exact ⟨by rw [hk]; decide +kernel, rfl⟩
    · cases h
  · split at h
    · rename_i hk
      cases h
      exact ⟨by rw [hk]; decide +kernel, rfl⟩
    · split at h
      · rename_i hk
        cases h
        exact ⟨by rw [hk]; decide +kernel, rfl⟩
      · cases h
theorem oper_fine {ps : List Pc} (he : EndP ps) {rec : Nat → Nat → Rd1} (hrec : ∀ l i, 1 ≤ l → i < ps.length → FineR ps i (rec l i)) {level i : Nat} (hi : i < ps.length) : FineR ps i (rdOper ps rec level i) := by
  have nx : ∀ {k : Nat} {w : Str}, k < ps.length → ownW ps k = w → w ≠ "" → k + 1 < ps.length := fun hk h hw => he.next hk (own_pos (by rw [h]; exact hw))
  unfold rdOper
  by_cases c1 : level ≤ 3 ∧ ownW ps i = "not"
  · rw [if_pos c1]
    refine thenR_fine (hrec 3 (i + 1) (by decide) (nx hi c1.2 (by decide +kernel))) fun e j _ h1 h2 h3 => ⟨h1, by omega, by show e.size + 1 + i ≤ j; omega⟩
  rw [if_neg c1]
  by_cases c2 : ownW ps i = "-"
  · rw [if_pos c2]
    refine thenR_fine (hrec 7 (i + 1) (by decide) (nx hi c2 (by decide +kernel))) fun e j _ h1 h2 h3 => ⟨h1, by omega, by show e.size + 1 + i ≤ j; omega⟩
  rw [if_neg c2]
  by_cases c3 : ownW ps i = "("
  · rw [if_pos c3]
    exact thenR_fine (hrec 1 (i + 1) (by decide) (nx hi c3 (by decide +kernel))) fun e j _ h1 h2 h3 => close_fine he (Nat.le_succ _) h1 (by omega) h3 (by omega)
  rw [if_neg c3]
  by_cases c4 : ownW ps i = "length"
  · rw [if_pos c4]
    have h1 := nx hi c4 (by decide +kernel)
    by_cases c5 : ownW ps (i + 1) = "("
    · rw [if_pos c5]
      exact thenR_fine (hrec 1 (i + 2) (by decide) (nx h1 c5 (by decide +kernel))) fun e j _ h1 h2 h3 => close_fine he (Nat.le_refl _) h1 (by omega) h3 (by omega)
    · rw [if_neg c5]
      exact h1
  rw [if_neg c4]
  cases hl : leafP (curP ps i) with
  | none => exact hi
  | some e =>
    obtain ⟨k1, k2⟩ := leaf_kind hl
    have := he.next hi k1
    exact ⟨this, by omega, by omega⟩
theorem lev_own {ps : List Pc} {i level : Nat} (hl : 1 ≤ level) (h : level ≤ nextLev ps i) : ownW ps i ≠ "" := fun e => by
  unfold nextLev at h
  rw [e] at h
  have : levW "" = 0 := by decide +kernel
  omega
theorem loop_fine {ps : List Pc} (he : EndP ps) {rec : Nat → Nat → Rd1} (hrec : ∀ l i, 1 ≤ l → i < ps.length → FineR ps i (rec l i)) {level i0 : Nat} (hl : 1 ≤ level) : ∀ (g : Nat) (e : Ex) (i : Nat), i < ps.length → i0 < i → e.size + i0 ≤ i → FineR ps i0 (rdLoop ps rec level g e i)
  | 0, e, i, h1, h2, h3 => ⟨h1, h2, h3⟩
  | g + 1, e, i, h1, h2, h3 => by
    rw [rdLoop]
    by_cases c : level ≤ nextLev ps i
    · rw [if_pos c]
      refine thenR_fine (hrec _ (i + 1) (Nat.succ_pos _) (he.next h1 (own_pos (lev_own hl c)))) fun e2 j _ k1 k2 k3 => ?_
      by_cases c2 : nextLev ps i = 4 ∧ nextLev ps j = 4
      · rw [if_pos c2]
        exact k1
      · rw [if_neg c2]
        exact loop_fine he hrec hl g _ j k1 (by omega) (by show e.size + e2.size + 1 + i0 ≤ j; omega)
    · rw [if_neg c]
      exact ⟨h1, h2, h3⟩
theorem part_fine {ps : List Pc} (he : EndP ps) : ∀ (f level i : Nat), 1 ≤ level → i < ps.length → FineR ps i (rdPart ps f level i)
  | 0, _, i, _, hi => hi
  | f + 1, level, i, hl, hi => by
    rw [rdPart]
    refine thenR_fine (oper_fine he (fun l i h1 h2 => part_fine he f l i h1 h2) hi) fun e j _ h1 h2 h3 => ?_
    have h := loop_fine he (fun l i h1 h2 => part_fine he f l i h1 h2) hl ps.length e j h1 h2 h3
    cases hr : rdLoop ps (rdPart ps f) level ps.length e j with
    | error k =>
      rw [hr] at h
      exact h
    | ok t =>
      obtain ⟨e2, k⟩ := t
      rw [hr] at h
      show FineR ps i (if level = 1 ∧ largeE e2 = true then .error k else .ok (e2, k))
      by_cases c : level = 1 ∧ largeE e2 = true
      · rw [if_pos c]
        exact h.1
      · rw [if_neg c]
        exact h
def BadP (C p : Addr) (n c : Int) (H : Hp) (E : XK) : Prop := ∀ (H' : Hp) (d : Addr), ButL p H H' → H' d = none → E (.ref C) (some d) (upd H' d (.xd [("line", .int n), ("column", .int c)]))
theorem BadP.at {C p : Addr} {n c : Int} {H H' : Hp} {E : XK} (h : BadP C p n c H E) (b : ButL p H H') : BadAt C n c H' E := fun H2 d s nd => h H2 d (b.trans (sameL s)) nd
theorem BadP.but {C p : Addr} {n c : Int} {H H' : Hp} {E : XK} (h : BadP C p n c H E) (b : ButL p H H') : BadP C p n c H' E := fun H2 d s nd => h H2 d (b.trans s) nd
def spPart (C CL : Addr) (f : Nat) : Sp := fun vs H Q E => ∃ (p : Addr) (n : Int) (ps : List Pc) (i level many : Nat), vs = [.ref p, .int (level : Int), .int (many : Int)] ∧ many + f = 101 ∧ 1 ≤ level ∧ LineAt H CL p n ps i ∧ i < ps.length ∧ EndP ps ∧ ps.length ≤ 10000 ∧
  (∀ e j, rdPart ps f level i = .ok (e, j) → ∀ v H', ButL p H H' → LineAt H' CL p n ps j → ExAt H' v e → Q v H') ∧ (∀ j, rdPart ps f level i = .error j → BadP C p n ((curP ps j).col : Nat) H E)
def spOper (C CL : Addr) (f : Nat) : Sp := fun vs H Q E => ∃ (p : Addr) (n : Int) (ps : List Pc) (i level many : Nat), vs = [.ref p, .int (level : Int), .int (many : Int)] ∧ many + f = 100 ∧ 1 ≤ level ∧ LineAt H CL p n ps i ∧ i < ps.length ∧ EndP ps ∧ ps.length ≤ 10000 ∧
  (∀ e j, rdOper ps (rdPart ps f) level i = .ok (e, j) → ∀ v H', ButL p H H' → LineAt H' CL p n ps j → ExAt H' v e → Q v H') ∧ (∀ j, rdOper ps (rdPart ps f) level i = .error j → BadP C p n ((curP ps j).col : Nat) H E)
end Kx

namespace Kx
open PySem PySem.Spec PyProof.Rows L2 TL
theorem cur_ok {ps : List Pc} (h : EndP ps) {i : Nat} (hi : i < ps.length) (hk : (curP ps i).kind ≠ "end") : PcOk (curP ps i) := by
  obtain ⟨qs, c, rfl, hq⟩ := h
  rcases List.mem_append.mp (cur_mem hi) with hm | hm
  · exact hq _ hm
  · rw [List.mem_singleton.mp hm] at hk
    exact absurd rfl hk
theorem BadP.mid {C p : Addr} {n c : Int} {H H' : Hp} {E : XK} (h : BadP C p n c H E) (b : ButL p H H') : BadP C p n c H' E := h.but b
section
variable {P : Program} {w : World} {K : PySem.W.Frag} {mg : Str → Option Value} {base : Heap}
abbrev N_read_operand : List Str := ["line", "level", "many", "told"]
theorem sc_oper : FnScope N_read_operand ["line", "level", "many"] (defScope s_read_operand) := ⟨rfl, rfl, rfl, by decide +kernel, rfl, by decide +kernel, by decide +kernel⟩
theorem ok_oper {g C CL : Addr} {fd : FuncData} {k f : Nat} (F : Fun K "read_operand" "read_operand" s_read_operand g fd) (Z : LnC K CL) (m_N : ∃ t, mg "NOT" = some (.int 3 t)) (m_Mi : ∃ t, mg "MINUS" = some (.int 7 t)) (m_W : ∃ t, mg "WHOLE" = some (.int 1 t))
    (G_took : ReadyM P w K mg base CL 3 "took" ["self", "word"] (spTook CL)) (G_expect : ReadyM P w K mg base CL 4 "expect" ["self", "word"] (spExpect C CL)) (G_is_kind : ReadyM P w K mg base CL 1 "is_kind" ["self", "kind"] (spIsKind CL)) (G_take : ReadyM P w K mg base CL 3 "take" ["self", "kind"] (spTake C CL))
    (G_part : ReadyX P w K mg base (k + 5) "read_part" ["line", "level", "many"] (spPart C CL f)) : FnOk P w K mg base (L2.CX P w) (k + 6) g fd ["line", "level", "many"] (spOper C CL f) := by
  refine F.okX sc_oper (fun vs H Q E h => ?_) (fun cdv A outer s H vs Q E hr h => ?_)
  · obtain ⟨p, n, ps, i, level, many, rfl, _⟩ := h
    rfl
  obtain ⟨p, n, ps, i, level, many, rfl, hm, hlev, hl, hi, he, hlen, q, qe⟩ := h
  obtain ⟨tN, mN⟩ := m_N
  obtain ⟨tM, mM⟩ := m_Mi
  obtain ⟨tW, mW⟩ := m_W
  have nd := sc_oper.nd
  have hr5 : Room (k + 5) _ := hr
  have hr4 : Room 4 _ := hr5.mono (by omega)
  have hr3 : Room 3 _ := hr5.mono (by omega)
  have hr1 : Room 1 _ := hr5.mono (by omega)
  have z2 : 2 ≤ sizeLine := by decide
  refine ⟨_, C8.pss_cut (ps_if (PW.pt (pw_and (pt_cmpR op_le (pv 1) (pe_glob (v := .int 3) rfl mN ⟨_, rfl⟩) (nomark _)) (pw_and1 (pt_val (pe_m G_took Z.cls hr3 noE (pv 0) (pa_cons pe_str pa_nil)))))) (pss_one (ps_ret (pe_tup (pa_cons pe_str (pa_cons (pe_fnX G_part hr5 (takes_of rfl rfl rfl rfl) (pa_cons (pv 0) (pa_cons (pe_glob (v := .int 3) rfl mN ⟨_, rfl⟩) (pa_cons (pe_op op_add (pv 2) pe_int) pa_nil)))) pa_nil))))) (pss_nil))
      (pss_cons (ps_if (pt_val (pe_m G_took Z.cls hr3 noE (pv 0) (pa_cons pe_str pa_nil))) (pss_one (ps_ret (pe_tup (pa_cons pe_str (pa_cons (pe_fnX G_part hr5 (takes_of rfl rfl rfl rfl) (pa_cons (pv 0) (pa_cons (pe_glob (v := .int 7) rfl mM ⟨_, rfl⟩) (pa_cons (pe_op op_add (pv 2) pe_int) pa_nil)))) pa_nil))))) (pss_nil))
      (pss_cons (ps_if (pt_val (pe_m G_took Z.cls hr3 noE (pv 0) (pa_cons pe_str pa_nil))) (pss_cons (ps_set (i := 3) nd rfl (.inl rfl) (pe_fnX G_part hr5 (takes_of rfl rfl rfl rfl) (pa_cons (pv 0) (pa_cons (pe_glob (v := .int 1) rfl mW ⟨_, rfl⟩) (pa_cons (pe_op op_add (pv 2) pe_int) pa_nil)))))
      (pss_cons (ps_expr (pe_m G_expect Z.cls hr4 (onward (takes_of rfl rfl rfl rfl)) (pv 0) (pa_cons pe_str pa_nil)))
      (pss_one (ps_ret (pv 3))))) (pss_nil))
      (pss_cons (ps_if (pt_val (pe_m G_took Z.cls hr3 noE (pv 0) (pa_cons pe_str pa_nil))) (pss_cons (ps_expr (pe_m G_expect Z.cls hr4 (onward (takes_of rfl rfl rfl rfl)) (pv 0) (pa_cons pe_str pa_nil)))
      (pss_cons (ps_set (i := 3) nd rfl (.inl rfl) (pe_fnX G_part hr5 (takes_of rfl rfl rfl rfl) (pa_cons (pv 0) (pa_cons (pe_glob (v := .int 1) rfl mW ⟨_, rfl⟩) (pa_cons (pe_op op_add (pv 2) pe_int) pa_nil)))))
      (pss_cons (ps_expr (pe_m G_expect Z.cls hr4 (onward (takes_of rfl rfl rfl rfl)) (pv 0) (pa_cons pe_str pa_nil)))
      (pss_one (ps_ret (pe_tup (pa_cons pe_str (pa_cons (pv 3) pa_nil)))))))) (pss_nil))
      (pss_cons (ps_if (pt_val (pe_m G_is_kind Z.cls hr1 noE (pv 0) (pa_cons pe_str pa_nil))) (pss_one (ps_ret (pe_tup (pa_cons pe_str (pa_cons (pe_m G_take Z.cls hr3 (onward (takes_of rfl rfl rfl rfl)) (pv 0) (pa_cons pe_str pa_nil)) pa_nil))))) (pss_nil))
      (pss_cons (ps_if (pt_val (pe_m G_is_kind Z.cls hr1 noE (pv 0) (pa_cons pe_str pa_nil))) (pss_one (ps_ret (pe_tup (pa_cons pe_str (pa_cons (pe_m G_take Z.cls hr3 (onward (takes_of rfl rfl rfl rfl)) (pv 0) (pa_cons pe_str pa_nil)) pa_nil))))) (pss_nil))
      (pss_one (ps_ret (pe_tup (pa_cons pe_str (pa_cons (pe_m G_take Z.cls hr3 (onward (takes_of rfl rfl rfl rfl)) (pv 0) (pa_cons pe_str pa_nil)) pa_nil)))))))))), ?_⟩
  obtain ⟨dx, L, as, h1, _⟩ := id hl
  refine ⟨fun σ H' => σ = [some (.ref p), some (.int (level : Int)), some (.int (many : Int)), none] ∧ H' = H ∧ ¬ (level ≤ 3 ∧ ownW ps i = "not"), ?_, ?_⟩
  · refine ⟨_, rfl, _, _, rfl, rfl, _, rfl, ite2 (fun c => ?_) (fun c => ⟨rfl, rfl, fun z => c (decide_eq_true (by omega))⟩)⟩
    have c3 : level ≤ 3 := by
      have := of_decide_eq_true c
      omega
    refine ⟨_, rfl, p, dx, _, rfl, h1, rfl, p, n, ps, i, _, rfl, hl, hi, he, fun hw H1 b1 hl1 => ?_, fun hw => ?_⟩
    · have e0 : rdOper ps (rdPart ps f) level i = thenR (rdPart ps f 3 (i + 1)) fun e j => .ok (.nt e, j) := if_pos ⟨c3, hw⟩
      have hi1 := he.next hi (own_pos (by rw [hw]; decide +kernel))
      refine ⟨_, rfl, iteT ?_⟩
      refine ⟨_, rfl, _, rfl, _, _, rfl, rfl, p, n, ps, i + 1, 3, many + 1, rfl, by omega, by decide, hl1, hi1, he, hlen, fun e j hr' v H2 b2 hl2 hx2 => ⟨z2, fun t ht => ?_⟩, fun j hr' => (qe j (by rw [e0, hr']; rfl)).but b1⟩
      have u := same_upd (o := .tup [.str "not", v]) ht
      exact q (.nt e) j (by rw [e0, hr']; rfl) (.ref t) _ ((b1.trans b2).trans (sameL u)) (hl2.keep u) ⟨t, v, rfl, upd_same, ExAt.keep (fun a xs h => u a _ h) hx2⟩
    · exact ⟨_, rfl, iteF ⟨rfl, rfl, fun z => hw z.2⟩⟩
  rintro σ H' ⟨rfl, rfl, hn1⟩
  refine ⟨_, rfl, p, dx, _, rfl, h1, rfl, p, n, ps, i, _, rfl, hl, hi, he, fun hw H1 b1 hl1 => ?_, fun hn2 => ⟨_, rfl, iteF ?_⟩⟩
  · have e0 : rdOper ps (rdPart ps f) level i = thenR (rdPart ps f 7 (i + 1)) fun e j => .ok (.mn e, j) := (if_neg hn1).trans (if_pos hw)
    have hi1 := he.next hi (own_pos (by rw [hw]; decide +kernel))
    refine ⟨_, rfl, iteT ?_⟩
    refine ⟨_, rfl, _, rfl, _, _, rfl, rfl, p, n, ps, i + 1, 7, many + 1, rfl, by omega, by decide, hl1, hi1, he, hlen, fun e j hr' v H2 b2 hl2 hx2 => ⟨z2, fun t ht => ?_⟩, fun j hr' => (qe j (by rw [e0, hr']; rfl)).but b1⟩
    have u := same_upd (o := .tup [.str "minus", v]) ht
    exact q (.mn e) j (by rw [e0, hr']; rfl) (.ref t) _ ((b1.trans b2).trans (sameL u)) (hl2.keep u) ⟨t, v, rfl, upd_same, ExAt.keep (fun a xs h => u a _ h) hx2⟩
  refine ⟨_, rfl, p, dx, _, rfl, h1, rfl, p, n, ps, i, _, rfl, hl, hi, he, fun hw H1 b1 hl1 => ?_, fun hn3 => ⟨_, rfl, iteF ?_⟩⟩
  · have e0 : rdOper ps (rdPart ps f) level i = thenR (rdPart ps f 1 (i + 1)) (closeR ps id) := (if_neg hn1).trans ((if_neg hn2).trans (if_pos hw))
    have hi1 := he.next hi (own_pos (by rw [hw]; decide +kernel))
    have hf := part_fine he f 1 (i + 1) (by decide) hi1
    refine ⟨_, rfl, iteT ?_⟩
    refine ⟨_, rfl, _, rfl, _, _, rfl, rfl, p, n, ps, i + 1, 1, many + 1, rfl, by omega, by decide, hl1, hi1, he, hlen, fun e j hr' v H2 b2 hl2 hx2 => ?_, fun j hr' => (qe j (by rw [e0, hr']; rfl)).but b1⟩
    rw [hr'] at hf
    have e1 : rdOper ps (rdPart ps f) level i = closeR ps id e j := by rw [e0, hr']; rfl
    unfold closeR at e1
    obtain ⟨dx2, L2', as2, h2, _⟩ := id hl2
    refine ⟨_, rfl, p, dx2, _, rfl, h2, rfl, p, n, ps, j, _, rfl, hl2, hf.1, he, fun hw3 H3 b3 hl3 => ?_, fun hw3 => ?_⟩
    · rw [if_pos hw3] at e1
      exact ⟨_, rfl, q e (j + 1) e1 v _ ((b1.trans b2).trans b3) hl3 (ExAt.keep (fun a xs h => b3.b a _ (fun z => by rw [z, h2] at h; cases h) h) hx2)⟩
    · rw [if_neg hw3] at e1
      exact (qe j e1).at (b1.trans b2)
  refine ⟨_, rfl, p, dx, _, rfl, h1, rfl, p, n, ps, i, _, rfl, hl, hi, he, fun hw H1 b1 hl1 => ?_, fun hn4 => ⟨_, rfl, iteF ?_⟩⟩
  · have e0 : rdOper ps (rdPart ps f) level i = if ownW ps (i + 1) = "(" then thenR (rdPart ps f 1 (i + 2)) (closeR ps Ex.ln) else .error (i + 1) := (if_neg hn1).trans ((if_neg hn2).trans ((if_neg hn3).trans (if_pos hw)))
    have hi1 := he.next hi (own_pos (by rw [hw]; decide +kernel))
    refine ⟨_, rfl, iteT ?_⟩
    obtain ⟨dx1, L1', as1, h1', _⟩ := id hl1
    refine ⟨_, rfl, p, dx1, _, rfl, h1', rfl, p, n, ps, i + 1, _, rfl, hl1, hi1, he, fun hw2 H2 b2 hl2 => ?_, fun hw2 => ?_⟩
    · rw [if_pos hw2] at e0
      have hi2 := he.next hi1 (own_pos (by rw [hw2]; decide +kernel))
      have hf := part_fine he f 1 (i + 2) (by decide) hi2
      refine ⟨_, rfl, _, rfl, _, _, rfl, rfl, p, n, ps, i + 2, 1, many + 1, rfl, by omega, by decide, hl2, hi2, he, hlen, fun e j hr' v H3 b3 hl3 hx3 => ?_, fun j hr' => (qe j (by rw [e0, hr']; rfl)).but (b1.trans b2)⟩
      rw [hr'] at hf
      have e1 : rdOper ps (rdPart ps f) level i = closeR ps Ex.ln e j := by rw [e0, hr']; rfl
      unfold closeR at e1
      obtain ⟨dx3, L3', as3, h3, _⟩ := id hl3
      refine ⟨_, rfl, p, dx3, _, rfl, h3, rfl, p, n, ps, j, _, rfl, hl3, hf.1, he, fun hw3 H4 b4 hl4 => ?_, fun hw3 => ?_⟩
      · rw [if_pos hw3] at e1
        refine ⟨_, rfl, z2, fun t ht => ?_⟩
        have u := same_upd (o := .tup [.str "length", v]) ht
        exact q (.ln e) (j + 1) e1 (.ref t) _ ((((b1.trans b2).trans b3).trans b4).trans (sameL u)) (hl4.keep u) ⟨t, v, rfl, upd_same, ExAt.keep (fun a xs h => u a _ (b4.b a _ (fun z => by rw [z, h3] at h; cases h) h)) hx3⟩
      · rw [if_neg hw3] at e1
        exact (qe j e1).at ((b1.trans b2).trans b3)
    · rw [if_neg hw2] at e0
      exact (qe (i + 1) e0).at b1
  have e0 : rdOper ps (rdPart ps f) level i = match leafP (curP ps i) with
    | some e => .ok (e, i + 1)
    | none => .error i := (if_neg hn1).trans ((if_neg hn2).trans ((if_neg hn3).trans (if_neg hn4)))
  refine ⟨_, rfl, p, dx, _, rfl, h1, rfl, p, n, ps, i, _, rfl, hl, hi, _, rfl, ite2 (fun c5 => ?_) (fun c5 => ?_)⟩
  · have hk := of_decide_eq_true c5
    obtain ⟨m, hv⟩ := (cur_ok he hi (by rw [hk]; decide +kernel)).num hk
    have e1 : leafP (curP ps i) = some (.num m) := by
      unfold leafP
      rw [hv]
      exact if_pos hk
    rw [e1] at e0
    refine ⟨_, rfl, p, dx, _, rfl, h1, rfl, p, n, ps, i, _, rfl, hl, hi, fun _ H1 b1 hl1 => ⟨z2, fun t ht => ?_⟩, fun z => absurd hk z⟩
    rw [hv]
    have u := same_upd (o := .tup [.str "number", .int (m : Int)]) ht
    exact q (.num m) (i + 1) e0 (.ref t) _ (b1.trans (sameL u)) (hl1.keep u) ⟨t, rfl, upd_same⟩
  have k5 : (curP ps i).kind ≠ "number" := fun z => c5 (decide_eq_true z)
  refine ⟨_, rfl, p, dx, _, rfl, h1, rfl, p, n, ps, i, _, rfl, hl, hi, _, rfl, ite2 (fun c6 => ?_) (fun c6 => ?_)⟩
  · have hk := of_decide_eq_true c6
    obtain ⟨z, hv⟩ := (cur_ok he hi (by rw [hk]; decide +kernel)).txt (.inl hk)
    have e1 : leafP (curP ps i) = some (.quo z) := by
      unfold leafP
      rw [hv]
      exact if_pos hk
    rw [e1] at e0
    refine ⟨_, rfl, p, dx, _, rfl, h1, rfl, p, n, ps, i, _, rfl, hl, hi, fun _ H1 b1 hl1 => ⟨z2, fun t ht => ?_⟩, fun z => absurd hk z⟩
    rw [hv]
    have u := same_upd (o := .tup [.str "quoted", .str z]) ht
    exact q (.quo z) (i + 1) e0 (.ref t) _ (b1.trans (sameL u)) (hl1.keep u) ⟨t, rfl, upd_same⟩
  have k6 : (curP ps i).kind ≠ "quoted" := fun z => c6 (decide_eq_true z)
  refine ⟨_, rfl, p, dx, _, rfl, h1, rfl, p, n, ps, i, _, rfl, hl, hi, fun hk H1 b1 hl1 => ⟨z2, fun t ht => ?_⟩, fun hk => ?_⟩
  · obtain ⟨z, hv⟩ := (cur_ok he hi (by rw [hk]; decide +kernel)).txt (.inr hk)
    have e1 : leafP (curP ps i) = some (.col z) := by
      unfold leafP
      rw [hv]
      exact (if_neg k6).trans (if_pos hk)
    rw [e1] at e0
    rw [hv]
    have u := same_upd (o := .tup [.str "column", .str z]) ht
    exact q (.col z) (i + 1) e0 (.ref t) _ (b1.trans (sameL u)) (hl1.keep u) ⟨t, rfl, upd_same⟩
  · have e1 : leafP (curP ps i) = none := by
      unfold leafP
      cases (curP ps i).val with
      | nm m => exact if_neg k5
      | tx z => exact (if_neg k6).trans (if_neg hk)
    rw [e1] at e0
    exact (qe i e0).at (ButL.refl _ _)
end
end Kx

namespace Kx
open PySem PySem.Spec PyProof.Rows L2 TL
theorem lev_pos {ps : List Pc} {i : Nat} (h : 1 ≤ nextLev ps i) : levO (ownW ps i) = some (nextLev ps i) := by
  unfold nextLev levW at h ⊢
  cases e : levO (ownW ps i) with
  | none =>
    rw [e] at h
    exact absurd h (by decide)
  | some l => rfl
theorem own_kind {ps : List Pc} {i : Nat} (h : ownW ps i ≠ "") : (curP ps i).kind = "own" := Classical.byContradiction fun z => h (if_neg z)
section
variable {P : Program} {w : World} {K : PySem.W.Frag} {mg : Str → Option Value} {base : Heap}
abbrev N_read_part : List Str := ["line", "level", "many", "told", "op"]
theorem sc_part : FnScope N_read_part ["line", "level", "many"] (defScope s_read_part) := ⟨rfl, rfl, rfl, by decide +kernel, rfl, by decide +kernel, by decide +kernel⟩
theorem ok_part {g C CL : Addr} {fd : FuncData} {k f : Nat} (F : Fun K "read_part" "read_part" s_read_part g fd) (Z : LnC K CL) (LV : Lvl K w mg) (m_O : ∃ t, mg "MOST_OPEN" = some (.int 100 t)) (m_C : ∃ t, mg "COMPARISON" = some (.int 4 t)) (m_W : ∃ t, mg "WHOLE" = some (.int 1 t))
    (G_fail : ReadyM P w K mg base CL 2 "fail" ["self"] (spFail C CL)) (G_take : ReadyM P w K mg base CL 3 "take" ["self", "kind"] (spTake C CL)) (G_next : Ready P w K mg base 3 "next_level" ["line"] (spNextLv CL)) (G_large : Ready P w K mg base 4 "is_large" ["told"] spLarge)
    (G_oper : ReadyX P w K mg base (k + 6) "read_operand" ["line", "level", "many"] (spOper C CL f)) (G_part : ReadyX P w K mg base (k + 5) "read_part" ["line", "level", "many"] (spPart C CL f)) : FnOk P w K mg base (L2.CX P w) (k + 7) g fd ["line", "level", "many"] (spPart C CL (f + 1)) := by
  refine F.okX sc_part (fun vs H Q E h => ?_) (fun cdv A outer s H vs Q E hr h => ?_)
  · obtain ⟨p, n, ps, i, level, many, rfl, _⟩ := h
    rfl
  obtain ⟨p, n, ps, i, level, many, rfl, hm, hlev, hl, hi, he, hlen, q, qe⟩ := h
  obtain ⟨tO, mO⟩ := m_O
  obtain ⟨tC, mC⟩ := m_C
  obtain ⟨tW, mW⟩ := m_W
  obtain ⟨dL, esL, nL, m_L, kd, hk⟩ := LV.ex
  have nd := sc_part.nd
  have hr6 : Room (k + 6) _ := hr
  have hr5 : Room (k + 5) _ := hr6.mono (by omega)
  have hr4 : Room 4 _ := hr6.mono (by omega)
  have hr3 : Room 3 _ := hr6.mono (by omega)
  have hr2 : Room 2 _ := hr6.mono (by omega)
  have z4 : 4 ≤ sizeLine := by decide
  refine ⟨_, pss_cons (ps_if (pt_cmpR op_gt (pv 2) (pe_glob (v := .int 100) rfl mO ⟨_, rfl⟩) (nomark _)) (pss_one (ps_expr (pe_m0' G_fail Z.cls hr2 (onward (takes_of rfl rfl rfl rfl)) (pv 0)))) (pss_nil))
      (pss_cons (ps_set (i := 3) nd rfl (.inl rfl) (pe_fnX G_oper hr6 (takes_of rfl rfl rfl rfl) (pa_cons (pv 0) (pa_cons (pv 1) (pa_cons (pv 2) pa_nil)))))
      (pss_cons (ps_while (passes_of rfl) (pt_cmpR op_ge (pe_fn G_next hr3 (pa_cons (pv 0) pa_nil)) (pv 1) (nomark _)) (pss_cons (ps_set (i := 4) nd rfl (.inl rfl) (pe_m G_take Z.cls hr3 (onward (takes_of rfl rfl rfl rfl)) (pv 0) (pa_cons pe_str pa_nil)))
      (pss_cons (ps_set (i := 3) nd rfl (.inl rfl) (pe_tup (pa_cons pe_str (pa_cons (pv 4) (pa_cons (pv 3) (pa_cons (pe_fnX G_part hr5 (takes_of rfl rfl rfl rfl) (pa_cons (pv 0) (pa_cons (pe_op op_add (pe_ix ix_kdict (pe_glob (v := .ref dL) rfl m_L rfl) (pv 4) (fun _ _ => rfl)) pe_int) (pa_cons (pe_op op_add (pv 2) pe_int) pa_nil)))) pa_nil))))))
      (pss_one (ps_if (PW.pt (pw_and (pt_cmpR op_eq (pe_ix ix_kdict (pe_glob (v := .ref dL) rfl m_L rfl) (pv 4) (fun _ _ => rfl)) (pe_glob (v := .int 4) rfl mC ⟨_, rfl⟩) (nomark _)) (pw_and1 (pt_cmpR op_eq (pe_fn G_next hr3 (pa_cons (pv 0) pa_nil)) (pe_glob (v := .int 4) rfl mC ⟨_, rfl⟩) (nomark _))))) (pss_one (ps_expr (pe_m0' G_fail Z.cls hr2 (onward (takes_of rfl rfl rfl rfl)) (pv 0)))) (pss_nil))))))
      (pss_cons (ps_if (PW.pt (pw_and (pt_cmpR op_eq (pv 1) (pe_glob (v := .int 1) rfl mW ⟨_, rfl⟩) (nomark _)) (pw_and1 (pt_val (pe_fn G_large hr4 (pa_cons (pv 3) pa_nil)))))) (pss_one (ps_expr (pe_m0' G_fail Z.cls hr2 (onward (takes_of rfl rfl rfl rfl)) (pv 0)))) (pss_nil))
      (pss_one (ps_ret (pv 3)))))), ?_⟩
  refine ⟨_, rfl, _, _, rfl, rfl, _, rfl, ite2 (fun c => absurd (of_decide_eq_true c) (by omega)) (fun _ => ?_)⟩
  refine ⟨_, rfl, _, rfl, _, rfl, p, n, ps, i, level, many, rfl, by omega, hlev, hl, hi, he, hlen, fun e0 j0 hr0 v0 H0 b0 hl0 hx0 => ?_, fun j hr0 => qe j (by rw [rdPart, hr0]; rfl)⟩
  have hf0 := oper_fine he (rec := rdPart ps f) (fun l i h1 h2 => part_fine he f l i h1 h2) (level := level) hi
  rw [hr0] at hf0
  obtain ⟨f1, f2, f3⟩ := hf0
  have eP : rdPart ps (f + 1) level i = thenR (rdLoop ps (rdPart ps f) level ps.length e0 j0) fun e2 k => if level = 1 ∧ largeE e2 = true then .error k else .ok (e2, k) := by
    rw [rdPart, hr0]
    rfl
  let Inv : Nat → L2.St → Hp → Prop := fun gg σ H' => ∃ (e : Ex) (j : Nat) (v : V) (y4 : Option V), σ = [some (.ref p), some (.int (level : Int)), some (.int (many : Int)), some v, y4] ∧ ButL p H H' ∧ LineAt H' CL p n ps j ∧ j < ps.length ∧ i < j ∧ e.size + i ≤ j ∧ ExAt H' v e ∧ ps.length ≤ j + gg ∧ rdLoop ps (rdPart ps f) level ps.length e0 j0 = rdLoop ps (rdPart ps f) level gg e j
  refine ⟨Inv, ⟨ps.length, e0, j0, v0, none, rfl, b0, hl0, f1, f2, f3, hx0, by omega, rfl⟩, ?_⟩
  rintro gg σ H' ⟨e, j, v, y4, rfl, b, hlj, hj, hij, hsz, hx, hg, htot⟩
  obtain ⟨g', rfl⟩ : ∃ g', gg = g' + 1 := ⟨gg - 1, by omega⟩
  obtain ⟨dx, L, as, h1, _⟩ := id hlj
  refine ⟨_, rfl, p, n, ps, j, rfl, hlj, hj, he, _, rfl, _, _, rfl, rfl, _, rfl, ite2 (fun c => ?_) (fun c => ?_)⟩
  · have hle : level ≤ nextLev ps j := by
      have := of_decide_eq_true c
      omega
    have how := lev_own hlev hle
    have hkind := own_kind how
    have hval := he.own hj hkind
    have hj1 := he.next hj (own_pos how)
    have hlv := lev_pos (Nat.le_trans hlev hle)
    have hstep : rdLoop ps (rdPart ps f) level (g' + 1) e j = thenR (rdPart ps f (nextLev ps j + 1) (j + 1)) fun e2 j2 => if nextLev ps j = 4 ∧ nextLev ps j2 = 4 then .error j2 else rdLoop ps (rdPart ps f) level g' (.two (ownW ps j) e e2) j2 := by
      rw [rdLoop, if_pos hle]
    rw [hstep] at htot
    have kdct : KDct K w dL (ownW ps j) (.int (nextLev ps j : Nat)) := by
      rcases hk _ (own_in he hj) with ⟨u, v', e1, rv, e2⟩ | ⟨_, e2⟩
      · rw [hlv] at e2
        cases e2
        exact ⟨_, _, _, kd.at_, kd.lit, e1, rv⟩
      · rw [hlv] at e2
        cases e2
    refine ⟨fun σ' G => ∃ m', m' < g' + 1 ∧ Inv m' σ' G, fun σ' G h => h, ?_⟩
    refine ⟨_, rfl, p, dx, _, rfl, h1, rfl, p, n, ps, j, _, rfl, hlj, hj, fun _ H1 b1 hl1 => ?_, fun z => absurd hkind z⟩
    rw [hval, show pvV (.tx (ownW ps j)) = V.str (ownW ps j) from rfl]
    have kt1 : ∀ (a : Addr) (xs : List V), H' a = some (.tup xs) → H1 a = some (.tup xs) := fun a xs h => b1.b a _ (fun z => by rw [z, h1] at h; cases h) h
    obtain ⟨dx1, L1, as1, h1', _⟩ := id hl1
    have hf := part_fine he f (nextLev ps j + 1) (j + 1) (Nat.succ_pos _) hj1
    refine ⟨_, rfl, _, rfl, _, rfl, _, rfl, dL, _, _, rfl, rfl, kdct, _, _, rfl, rfl, _, rfl, _, _, rfl, rfl, p, n, ps, j + 1, nextLev ps j + 1, many + 1, rfl, by omega, Nat.succ_pos _, hl1, hj1, he, hlen, fun e2 j2 hr' v2 H2 b2 hl2 hx2 => ⟨z4, fun t ht => ?_⟩, fun j2 hr' => (qe j2 (by rw [eP, htot, hr']; rfl)).but (b.trans b1)⟩
    rw [hr'] at hf htot
    obtain ⟨k1, k2, k3⟩ := hf
    have u := same_upd (o := .tup [.str "two", .str (ownW ps j), v, v2]) ht
    have et : upd H2 t (.tup [.str "two", .str (ownW ps j), v, v2]) t = some (.tup [.str "two", .str (ownW ps j), v, v2]) := upd_same
    generalize upd H2 t (.tup [.str "two", .str (ownW ps j), v, v2]) = H3 at u et ⊢
    have kt2 : ∀ (a : Addr) (xs : List V), H1 a = some (.tup xs) → H2 a = some (.tup xs) := fun a xs h => b2.b a _ (fun z => by rw [z, h1'] at h; cases h) h
    have hx3 : ExAt H3 (.ref t) (.two (ownW ps j) e e2) := ⟨t, v, v2, rfl, et, ExAt.keep (fun a xs h => u a _ (kt2 _ _ (kt1 _ _ h))) hx, ExAt.keep (fun a xs h => u a _ h) hx2⟩
    have hl3 := hl2.keep u
    have b3 : ButL p H H3 := ((b.trans b1).trans b2).trans (sameL u)
    obtain ⟨dx3, L3, as3, h3, _⟩ := id hl3
    have next : ¬ (nextLev ps j = 4 ∧ nextLev ps j2 = 4) → ∃ m', m' < g' + 1 ∧ Inv m' [some (.ref p), some (.int (level : Int)), some (.int (many : Int)), some (.ref t), some (.str (ownW ps j))] H3 := fun hn => by
      refine ⟨g', by omega, _, j2, _, _, rfl, b3, hl3, k1, by omega, by show e.size + e2.size + 1 + i ≤ j2; omega, hx3, by omega, ?_⟩
      rw [htot]
      exact if_neg hn
    refine ⟨_, rfl, dL, _, _, rfl, rfl, kdct, rfl, _, rfl, ite2 (fun c4 => ?_) (fun c4 => ?_)⟩
    · have h4 : nextLev ps j = 4 := by
        have h := of_decide_eq_true c4
        injection h with h
        omega
      refine ⟨_, rfl, p, n, ps, j2, rfl, hl3, k1, he, rfl, _, rfl, ite2 (fun c5 => ?_) (fun c5 => ?_)⟩
      · have h5 : nextLev ps j2 = 4 := by
          have h := of_decide_eq_true c5
          injection h with h
          omega
        refine ⟨_, rfl, p, dx3, _, rfl, h3, rfl, p, n, ps, j2, rfl, hl3, k1, (qe j2 ?_).at b3⟩
        rw [eP, htot]
        show thenR (if nextLev ps j = 4 ∧ nextLev ps j2 = 4 then .error j2 else _) _ = _
        rw [if_pos ⟨h4, h5⟩]
        rfl
      · exact next fun z => c5 (decide_eq_true (by rw [z.2]; rfl))
    · exact next fun z => c4 (decide_eq_true (by rw [z.1]; rfl))
  · have hle : ¬ level ≤ nextLev ps j := fun z => c (decide_eq_true (by omega))
    rw [rdLoop, if_neg hle] at htot
    rw [htot] at eP
    have e1 : rdPart ps (f + 1) level i = if level = 1 ∧ largeE e = true then .error j else .ok (e, j) := eP
    have size : e.size ≤ 10000 := by omega
    refine ⟨_, rfl, rfl, _, rfl, ite2 (fun c1 => ?_) (fun c1 => ?_)⟩
    · have hl1 : level = 1 := by
        have h := of_decide_eq_true c1
        injection h with h
        omega
      refine ⟨_, rfl, v, e, rfl, hx, size, fun H1 s1 => ⟨_, rfl, ite2 (fun c2 => ?_) (fun c2 => ?_)⟩⟩
      · rw [if_pos ⟨hl1, c2⟩] at e1
        exact ⟨_, rfl, p, dx, _, rfl, s1 _ _ h1, rfl, p, n, ps, j, rfl, hlj.keep s1, hj, (qe j e1).at (b.trans (sameL s1))⟩
      · rw [if_neg (fun z => c2 z.2)] at e1
        exact ⟨_, rfl, q e j e1 v _ (b.trans (sameL s1)) (hlj.keep s1) (ExAt.keep (fun a xs h => s1 a _ h) hx)⟩
    · rw [if_neg (fun z => c1 (decide_eq_true (by rw [z.1]; rfl)))] at e1
      exact ⟨_, rfl, q e j e1 v _ b hlj hx⟩
end
end Kx

namespace Kx
open PySem PySem.Spec PyProof.Rows L2 TL
def spNo : Sp := fun _ _ _ _ => False
section
variable {P : Program} {w : World} {K : PySem.W.Frag} {mg : Str → Option Value} {base : Heap}
theorem no_defX {CX : CXT} {k : Nat} {f : Addr} {fd : FuncData} {sp : Sp} {ps : List Str} (h : ∀ vs H Q E, ¬ sp vs H Q E) : FnOk P w K mg base CX k f fd ps sp :=
  ⟨fun vs H Q E z => absurd z (h vs H Q E), fun A outer s H args us vs Q E _ _ _ _ z => absurd z (h vs H Q E)⟩
theorem ok_part0 {g C CL : Addr} {fd : FuncData} {k : Nat} (F : Fun K "read_part" "read_part" s_read_part g fd) (Z : LnC K CL) (LV : Lvl K w mg) (m_O : ∃ t, mg "MOST_OPEN" = some (.int 100 t)) (m_C : ∃ t, mg "COMPARISON" = some (.int 4 t)) (m_W : ∃ t, mg "WHOLE" = some (.int 1 t))
    (G_fail : ReadyM P w K mg base CL 2 "fail" ["self"] (spFail C CL)) (G_take : ReadyM P w K mg base CL 3 "take" ["self", "kind"] (spTake C CL)) (G_next : Ready P w K mg base 3 "next_level" ["line"] (spNextLv CL)) (G_large : Ready P w K mg base 4 "is_large" ["told"] spLarge)
    (G_oper : ReadyX P w K mg base (k + 4) "read_operand" ["line", "level", "many"] spNo) (G_part : ReadyX P w K mg base (k + 3) "read_part" ["line", "level", "many"] spNo) : FnOk P w K mg base (L2.CX P w) (k + 5) g fd ["line", "level", "many"] (spPart C CL 0) := by
  refine F.okX sc_part (fun vs H Q E h => ?_) (fun cdv A outer s H vs Q E hr h => ?_)
  · obtain ⟨p, n, ps, i, level, many, rfl, _⟩ := h
    rfl
  obtain ⟨p, n, ps, i, level, many, rfl, hm, hlev, hl, hi, he, hlen, q, qe⟩ := h
  obtain ⟨tO, mO⟩ := m_O
  obtain ⟨tC, mC⟩ := m_C
  obtain ⟨tW, mW⟩ := m_W
  obtain ⟨dL, esL, nL, m_L, kd, hk⟩ := LV.ex
  have nd := sc_part.nd
  have hr6 : Room (k + 4) _ := hr
  have hr5 : Room (k + 3) _ := hr6.mono (by omega)
  have hr4 : Room 4 _ := hr6.mono (by omega)
  have hr3 : Room 3 _ := hr6.mono (by omega)
  have hr2 : Room 2 _ := hr6.mono (by omega)
  refine ⟨_, pss_cons (ps_if (pt_cmpR op_gt (pv 2) (pe_glob (v := .int 100) rfl mO ⟨_, rfl⟩) (nomark _)) (pss_one (ps_expr (pe_m0' G_fail Z.cls hr2 (onward (takes_of rfl rfl rfl rfl)) (pv 0)))) (pss_nil))
      (pss_cons (ps_set (i := 3) nd rfl (.inl rfl) (pe_fnX G_oper hr6 (takes_of rfl rfl rfl rfl) (pa_cons (pv 0) (pa_cons (pv 1) (pa_cons (pv 2) pa_nil)))))
      (pss_cons (ps_while (passes_of rfl) (pt_cmpR op_ge (pe_fn G_next hr3 (pa_cons (pv 0) pa_nil)) (pv 1) (nomark _)) (pss_cons (ps_set (i := 4) nd rfl (.inl rfl) (pe_m G_take Z.cls hr3 (onward (takes_of rfl rfl rfl rfl)) (pv 0) (pa_cons pe_str pa_nil)))
      (pss_cons (ps_set (i := 3) nd rfl (.inl rfl) (pe_tup (pa_cons pe_str (pa_cons (pv 4) (pa_cons (pv 3) (pa_cons (pe_fnX G_part hr5 (takes_of rfl rfl rfl rfl) (pa_cons (pv 0) (pa_cons (pe_op op_add (pe_ix ix_kdict (pe_glob (v := .ref dL) rfl m_L rfl) (pv 4) (fun _ _ => rfl)) pe_int) (pa_cons (pe_op op_add (pv 2) pe_int) pa_nil)))) pa_nil))))))
      (pss_one (ps_if (PW.pt (pw_and (pt_cmpR op_eq (pe_ix ix_kdict (pe_glob (v := .ref dL) rfl m_L rfl) (pv 4) (fun _ _ => rfl)) (pe_glob (v := .int 4) rfl mC ⟨_, rfl⟩) (nomark _)) (pw_and1 (pt_cmpR op_eq (pe_fn G_next hr3 (pa_cons (pv 0) pa_nil)) (pe_glob (v := .int 4) rfl mC ⟨_, rfl⟩) (nomark _))))) (pss_one (ps_expr (pe_m0' G_fail Z.cls hr2 (onward (takes_of rfl rfl rfl rfl)) (pv 0)))) (pss_nil))))))
      (pss_cons (ps_if (PW.pt (pw_and (pt_cmpR op_eq (pv 1) (pe_glob (v := .int 1) rfl mW ⟨_, rfl⟩) (nomark _)) (pw_and1 (pt_val (pe_fn G_large hr4 (pa_cons (pv 3) pa_nil)))))) (pss_one (ps_expr (pe_m0' G_fail Z.cls hr2 (onward (takes_of rfl rfl rfl rfl)) (pv 0)))) (pss_nil))
      (pss_one (ps_ret (pv 3)))))), ?_⟩
  have e1 : rdPart ps 0 level i = .error i := rfl
  obtain ⟨dx, L, as, h1, _⟩ := id hl
  exact ⟨_, rfl, _, _, rfl, rfl, _, rfl, ite2 (fun _ => ⟨_, rfl, p, dx, _, rfl, h1, rfl, p, n, ps, i, rfl, hl, hi, (qe i e1).at (ButL.refl _ _)⟩) (fun c => absurd (decide_eq_true (by omega)) c)⟩
def spExpr (C CL : Addr) : Sp := fun vs H Q E => ∃ (p : Addr) (n : Int) (ps : List Pc) (i : Nat), vs = [.ref p] ∧ LineAt H CL p n ps i ∧ i < ps.length ∧ EndP ps ∧ ps.length ≤ 10000 ∧
  (∀ e j, rdPart ps 100 1 i = .ok (e, j) → ∀ v H', ButL p H H' → LineAt H' CL p n ps j → ExAt H' v e → Q v H') ∧ (∀ j, rdPart ps 100 1 i = .error j → BadP C p n ((curP ps j).col : Nat) H E)
theorem sc_expr : FnScope ["line"] ["line"] (defScope s_read_expression) := ⟨rfl, rfl, rfl, by decide +kernel, rfl, by decide +kernel, by decide +kernel⟩
theorem ok_expr {g C CL : Addr} {fd : FuncData} {k : Nat} (F : Fun K "read_expression" "read_expression" s_read_expression g fd) (m_W : ∃ t, mg "WHOLE" = some (.int 1 t)) (G_part : ReadyX P w K mg base k "read_part" ["line", "level", "many"] (spPart C CL 100)) : FnOk P w K mg base (L2.CX P w) (k + 1) g fd ["line"] (spExpr C CL) := by
  refine F.okX sc_expr (fun vs H Q E h => ?_) (fun cdv A outer s H vs Q E hr h => ?_)
  · obtain ⟨p, n, ps, i, rfl, _⟩ := h
    rfl
  obtain ⟨p, n, ps, i, rfl, hl, hi, he, hlen, q, qe⟩ := h
  obtain ⟨tW, mW⟩ := m_W
  have hrk : Room k _ := hr
  refine ⟨_, pss_one (ps_ret (pe_fnX G_part hrk (takes_of rfl rfl rfl rfl) (pa_cons (pv 0) (pa_cons (pe_glob (v := .int 1) rfl mW ⟨_, rfl⟩) (pa_cons pe_int pa_nil))))), ?_⟩
  exact ⟨_, rfl, p, n, ps, i, 1, 1, rfl, rfl, Nat.le_refl _, hl, hi, he, hlen, q, qe⟩
end
end Kx

namespace Kx
open PySem PySem.Spec PyProof.Rows L2 TL
abbrev s_read_list : Stmt := topS 37
abbrev s_read_name : Stmt := topS 38
abbrev s_read_column : Stmt := topS 39
abbrev s_read_new_name : Stmt := topS 40
abbrev s_read_mapped : Stmt := topS 41
abbrev s_read_folded : Stmt := topS 42
abbrev s_read_sorted : Stmt := topS 43
/-! ### a local name that holds one of some defs that may raise, called -/
structure CalX (P : Program) (w : World) (K : PySem.W.Frag) (mg : Str → Option Value) (base : Heap) (k : Nat) (f : Addr) (sp : Sp) : Prop where
  ex : ∃ (fd : FuncData) (ps : List Str), FnOk P w K mg base (L2.CX P w) k f fd ps sp ∧ PySem.W.keepIn K (.ref f) = true ∧ Binds K fd ps []
section
variable {X : Cx}
def tCallW (i : Nat) (fam : List (Addr × Sp)) (W : WX) (t : TA) : TE := fun σ H Q => ∃ p ∈ fam, σ[i]? = some (some (.ref p.1)) ∧ t σ H fun vs H1 => p.2 vs H1 Q (WE W σ)
theorem pe_cvX {i j : Nat} {fam : List (Addr × Sp)} {W : WX} {x : Str} {p pos : Pos} {e : Expr} {es : List Expr} {t : TA} (c : ∀ p ∈ fam, ∃ k, k ≤ j ∧ CalX X.prog X.w X.K X.mg X.base k p.1 p.2) (hr : Room j X.A) (tk : Takes X W) (hN : X.N[i]? = some x) (hv : Vis X.env.scope x) (ha : PA X (e :: es) t)
    (hd : (x == ("__debug__" : Str)) = false := by decide) (hcd : (x == ("__classdict__" : Str)) = false := by decide)
    (he : starEach (e :: es) X.env = (false, eval e X.env) :: starEach es X.env := by rfl) (hpl : (backTo pos (starEach es X.env)).any (·.1) = false := by rfl) :
    PE X (.Call (.Name x p) (e :: es) [] pos) (tCallW i fam W t) := by
  constructor
  intro pins s σ H Q I h
  obtain ⟨⟨f, sp⟩, hm, hs, ht⟩ := h
  obtain ⟨k, hk, ⟨fd, ps, F, kp, b⟩⟩ := c _ hm
  refine wpAny_Call_Name_kw (thn ((pe_var (pos := p) hN hv hd hcd).run pins s σ H (fun v H1 => v = .ref f ∧ H1 = H) I ⟨.ref f, hs, rfl, rfl⟩) ?_)
  rintro u s1 ⟨v, H1, I1, r1, rfl, rfl⟩
  cases r1
  refine PySem.W.callWith_K (h₀ := X.base) I.ok.mod.kin kp (thn (ha.run pos pins s1 σ _ _ I1 ht) ?_) he hpl
  rintro us s2 ⟨vs, H2, I2, r, q⟩
  exact ⟨I2.kIn, run_fnS F (hr.mono hk) b (passAt tk σ) I2 r q⟩
end
theorem LineAt.put {H G : Hp} {CL p N : Addr} {n : Int} {ps : List Pc} {i j : Nat} {o : HO} (hl : LineAt H CL p n ps i) (b : ButL p H G) (hg : LineAt G CL p n ps j) (hN : H N = none) : LineAt (upd G N o) CL p n ps j := by
  obtain ⟨dx, L, as, h1, h2, h3, h4⟩ := hl
  obtain ⟨i', e⟩ := b.f _ _ _ _ _ h1
  obtain ⟨dx2, L2, as2, g1, _, _, _⟩ := hg
  have ej : i' = j := by
    rw [e] at g1
    injection g1 with g1
    injection g1 with _ _ g3
    have h0 := congrArg (List.lookup ("place" : Str)) g3
    rw [lk3, lk3] at h0
    injection h0 with h0
    injection h0 with h0
    omega
  subst ej
  have nt : ∀ {a : Addr} {o' : HO}, H a = some o' → a ≠ N := fun h z => by
    rw [z, hN] at h
    cases h
  have np : ∀ {a : Addr} {o' : HO}, H a = some o' → (∀ C d f, o' ≠ .ins C d f) → a ≠ p := fun h k z => by
    rw [z, h1] at h
    cases h
    exact k _ _ _ rfl
  refine ⟨dx, L, as, ?_, ?_, fun x hx => ?_, h4⟩
  · rw [upd_ne (nt h1)]
    exact e
  · rw [upd_ne (nt h2)]
    exact b.b _ _ (np h2 fun _ _ _ z => by cases z) h2
  · have h := h3 x hx
    rw [upd_ne (nt h)]
    exact b.b _ _ (np h fun _ _ _ z => by cases z) h
theorem ButL.put {p N : Addr} {H G : Hp} {o : HO} (b : ButL p H G) (hN : H N = none) : ButL p H (upd G N o) := ⟨fun a o' ha e => by
  rw [upd_ne (fun z => by rw [z, hN] at e; cases e)]
  exact b.b a o' ha e, fun C dx L n i e => by
  obtain ⟨i', e'⟩ := b.f C dx L n i e
  refine ⟨i', ?_⟩
  rw [upd_ne (fun z => by rw [z, hN] at e; cases e)]
  exact e'⟩
/-! ### readings of any kind -/
abbrev Rdg (A : Type) : Type := List Pc → Nat → Except Nat (A × Nat)
def thenA {A B : Type} (r : Except Nat (A × Nat)) (k : A → Nat → Except Nat (B × Nat)) : Except Nat (B × Nat) := match r with
  | .error j => .error j
  | .ok (a, j) => k a j
def FineF {A : Type} (rd : Rdg A) : Prop := ∀ ps, EndP ps → ∀ i, i < ps.length → ∀ a j, rd ps i = .ok (a, j) → i < j ∧ j < ps.length
def KeepAt {A : Type} (At : Hp → V → A → Prop) : Prop := ∀ (H H' : Hp) (v : V) (a : A), (∀ (t : Addr) (xs : List V), H t = some (.tup xs) → H' t = some (.tup xs)) → At H v a → At H' v a
def spRd {A : Type} (C CL : Addr) (At : Hp → V → A → Prop) (rd : Rdg A) : Sp := fun vs H Q E => ∃ (p : Addr) (n : Int) (ps : List Pc) (i : Nat), vs = [.ref p] ∧ LineAt H CL p n ps i ∧ i < ps.length ∧ EndP ps ∧ ps.length ≤ 10000 ∧
  (∀ a j, rd ps i = .ok (a, j) → ∀ v H', ButL p H H' → LineAt H' CL p n ps j → At H' v a → Q v H') ∧ (∀ j, rd ps i = .error j → BadP C p n ((curP ps j).col : Nat) H E)
def rdItems {A : Type} (rd : Rdg A) (ps : List Pc) : Nat → List A → Nat → Except Nat (List A × Nat)
  | 0, as, i => .ok (as, i)
  | g + 1, as, i => if ownW ps i = "," then thenA (rd ps (i + 1)) fun a j => rdItems rd ps g (as ++ [a]) j else .ok (as, i)
def rdList {A : Type} (rd : Rdg A) : Rdg (List A) := fun ps i => thenA (rd ps i) fun a j => rdItems rd ps ps.length [a] j
def ListAt {A : Type} (At : Hp → V → A → Prop) (H : Hp) (v : V) (as : List A) : Prop := ∃ (t : Addr) (xs : List V), v = .ref t ∧ H t = some (.tup xs) ∧ Paired (At H) xs as
theorem ListAt.keep {A : Type} {At : Hp → V → A → Prop} (k : KeepAt At) : KeepAt (ListAt At) := fun H H' v as h ⟨t, xs, e, h1, h2⟩ => ⟨t, xs, e, h _ _ h1, Paired.mapP h2 fun a b q => k H H' a b h q⟩
theorem items_fine {A : Type} {rd : Rdg A} (hr : FineF rd) {ps : List Pc} (he : EndP ps) : ∀ (g : Nat) (as : List A) (i : Nat) (bs : List A) (j : Nat), i < ps.length → rdItems rd ps g as i = .ok (bs, j) → i ≤ j ∧ j < ps.length
  | 0, as, i, bs, j, hi, h => by
    cases h
    exact ⟨Nat.le_refl _, hi⟩
  | g + 1, as, i, bs, j, hi, h => by
    rw [rdItems] at h
    by_cases c : ownW ps i = ","
    · rw [if_pos c] at h
      have hi1 := he.next hi (own_pos (by rw [c]; decide +kernel))
      cases hh : rd ps (i + 1) with
      | error k =>
        rw [hh] at h
        cases h
      | ok t =>
        obtain ⟨a, k⟩ := t
        rw [hh] at h
        obtain ⟨k1, k2⟩ := hr ps he (i + 1) hi1 a k hh
        obtain ⟨m1, m2⟩ := items_fine hr he g _ k bs j k2 h
        exact ⟨by omega, m2⟩
    · rw [if_neg c] at h
      cases h
      exact ⟨Nat.le_refl _, hi⟩
theorem list_fine {A : Type} {rd : Rdg A} (hr : FineF rd) : FineF (rdList rd) := fun ps he i hi bs j h => by
  unfold rdList at h
  cases hh : rd ps i with
  | error k =>
    rw [hh] at h
    cases h
  | ok t =>
    obtain ⟨a, k⟩ := t
    rw [hh] at h
    obtain ⟨k1, k2⟩ := hr ps he i hi a k hh
    obtain ⟨m1, m2⟩ := items_fine hr he _ _ k bs j k2 h
    exact ⟨by omega, m2⟩
section
variable {P : Program} {w : World} {K : PySem.W.Frag} {mg : Str → Option Value} {base : Heap}
def spList {A : Type} (C CL fr : Addr) (At : Hp → V → A → Prop) (rd : Rdg A) : Sp := fun vs H Q E => ∃ p : Addr, vs = [.ref p, .ref fr] ∧ spRd C CL (ListAt At) (rdList rd) [.ref p] H Q E
abbrev N_read_list : List Str := ["line", "read_one", "things"]
theorem sc_list : FnScope N_read_list ["line", "read_one"] (defScope s_read_list) := ⟨rfl, rfl, rfl, by decide +kernel, rfl, by decide +kernel, by decide +kernel⟩
theorem ok_list {A : Type} {g C CL fr : Addr} {fd : FuncData} {k : Nat} {At : Hp → V → A → Prop} {rd : Rdg A} (F : Fun K "read_list" "read_list" s_read_list g fd) (Z : LnC K CL) (m_tuple : mg "tuple" = none) (hA : KeepAt At) (hR : FineF rd) (G_took : ReadyM P w K mg base CL 3 "took" ["self", "word"] (spTook CL)) (G_one : CalX P w K mg base k fr (spRd C CL At rd)) (hk : 3 ≤ k) : FnOk P w K mg base (L2.CX P w) (k + 1) g fd ["line", "read_one"] (spList C CL fr At rd) := by
  refine F.okX sc_list (fun vs H Q E h => ?_) (fun cdv A' outer s H vs Q E hr h => ?_)
  · obtain ⟨p, rfl, _⟩ := h
    rfl
  obtain ⟨p, rfl, p', n, ps, i, ep, hl, hi, he, hlen, q, qe⟩ := h
  cases ep
  have nd := sc_list.nd
  have hrk : Room k _ := hr
  have hr3 : Room 3 _ := hrk.mono hk
  have cal : ∀ x ∈ [(fr, spRd C CL At rd)], ∃ k', k' ≤ k ∧ CalX P w K mg base k' x.1 x.2 := fun x hx => by
    rw [List.mem_singleton.mp hx]
    exact ⟨k, Nat.le_refl _, G_one⟩
  refine ⟨_, pss_cons (ps_set (i := 2) nd rfl (.inl rfl) (pe_lst (pa_cons (pe_cvX (i := 1) cal hrk (takes_of rfl rfl rfl rfl) rfl (.inl rfl) (pa_cons (pv 0) pa_nil)) pa_nil)))
      (pss_cons (ps_while (passes_of rfl) (pt_val (pe_m G_took Z.cls hr3 noE (pv 0) (pa_cons pe_str pa_nil))) (pss_one (ps_expr (pe_bm PySem.F.plainAttrs_list PySem.F.slot_list_append PySem.F.type_list_append mt_append (pv 2) (pa_cons (pe_cvX (i := 1) cal hrk (takes_of rfl rfl rfl rfl) rfl (.inl rfl) (pa_cons (pv 0) pa_nil)) pa_nil)))))
      (pss_one (ps_ret (pe_callTy call_tuple_of (by rfl) m_tuple PyProof.Rows.boot_tuple (pa_cons (pv 2) pa_nil))))), ?_⟩
  have z1 : 1 ≤ sizeLine := by decide
  have eAll : rdList rd ps i = thenA (rd ps i) fun a j => rdItems rd ps ps.length [a] j := rfl
  refine ⟨(fr, spRd C CL At rd), List.mem_cons_self, rfl, _, rfl, p, n, ps, i, rfl, hl, hi, he, hlen, fun a0 j0 hr0 v0 H1 b1 hl1 ha0 => ⟨z1, fun L hL => ?_⟩, fun j hr0 => qe j (by rw [eAll, hr0]; rfl)⟩
  obtain ⟨f1, f2⟩ := hR ps he i hi a0 j0 hr0
  rw [hr0] at eAll
  change rdList rd ps i = rdItems rd ps ps.length [a0] j0 at eAll
  obtain ⟨dx, L0, as0, hp, _⟩ := id hl
  have nLp : L ≠ p := fun z => by
    obtain ⟨dx1, L1, as1, h1, _⟩ := hl1
    rw [z, h1] at hL
    cases hL
  have hLH : H L = none := by
    cases e : H L with
    | none => rfl
    | some o =>
      rw [b1.b _ _ nLp e] at hL
      cases hL
  let Inv : Nat → L2.St → Hp → Prop := fun gg σ G => ∃ (as : List A) (j : Nat) (xs : List V), σ = [some (.ref p), some (.ref fr), some (.ref L)] ∧ ButL p H G ∧ LineAt G CL p n ps j ∧ j < ps.length ∧ G L = some (.lst xs) ∧ Paired (At G) xs as ∧ ps.length ≤ j + gg ∧ as.length ≤ j + 1 ∧ rdList rd ps i = rdItems rd ps gg as j
  refine ⟨Inv, ⟨ps.length, [a0], j0, [v0], rfl, b1.put hLH, hl.put b1 hl1 hLH, f2, upd_same, .cons (hA _ _ _ _ (fun t xs h => same_upd hL t _ h) ha0) .nil, by omega, by show 1 ≤ _; omega, eAll⟩, ?_⟩
  rintro gg σ G ⟨as, j, xs, rfl, b, hlj, hj, eL, hx, hg, hlen2, htot⟩
  obtain ⟨g', rfl⟩ : ∃ g', gg = g' + 1 := ⟨gg - 1, by omega⟩
  obtain ⟨dx1, L1, as1, h1, _⟩ := id hlj
  refine ⟨_, rfl, p, dx1, _, rfl, h1, rfl, p, n, ps, j, _, rfl, hlj, hj, he, fun hw G1 c1 hl2 => ?_, fun hw => ?_⟩
  · have hj1 := he.next hj (own_pos (by rw [hw]; decide +kernel))
    rw [rdItems, if_pos hw] at htot
    have eL1 := c1.b _ _ nLp eL
    have kt1 : ∀ (a : Addr) (xs : List V), G a = some (.tup xs) → G1 a = some (.tup xs) := fun a xs h => c1.b a _ (fun z => by rw [z, h1] at h; cases h) h
    obtain ⟨dx2, L2', as2, h2, _⟩ := id hl2
    refine ⟨_, rfl, iteT ⟨fun σ' G2 => ∃ m', m' < g' + 1 ∧ Inv m' σ' G2, fun σ' G2 h => h, ?_⟩⟩
    refine ⟨_, rfl, .inl ⟨rfl, _, SqL.of eL1⟩, (fr, spRd C CL At rd), List.mem_cons_self, rfl, _, rfl, p, n, ps, j + 1, rfl, hl2, hj1, he, hlen, fun a j2 hra v G2 c2 hl3 ha => ?_, fun j2 hra => (qe j2 (by rw [htot, hra]; rfl)).but (b.trans c1)⟩
    obtain ⟨m1, m2⟩ := hR ps he (j + 1) hj1 a j2 hra
    rw [hra] at htot
    have eL2 := c2.b _ _ nLp eL1
    have kt2 : ∀ (a : Addr) (xs : List V), G1 a = some (.tup xs) → G2 a = some (.tup xs) := fun a xs h => c2.b a _ (fun z => by rw [z, h2] at h; cases h) h
    have ktL : ∀ (a : Addr) (ys : List V), G2 a = some (.tup ys) → upd G2 L (.lst (xs ++ [v])) a = some (.tup ys) := fun a ys h => by
      rw [upd_ne (fun z => by rw [z, eL2] at h; cases h)]
      exact h
    have lx : xs.length = as.length := Paired.length hx
    refine ⟨L, _, _, rfl, rfl, eL2, Nat.lt_of_le_of_lt (show _ ≤ 10001 by omega) (by decide), ?_⟩
    refine ⟨g', by omega, as ++ [a], j2, xs ++ [v], rfl, ((b.trans c1).trans c2).put hLH, hl.put ((b.trans c1).trans c2) hl3 hLH, m2, upd_same, Paired.snoc (Paired.mapP hx fun x y h => hA _ _ _ _ (fun t ys e => ktL _ _ (kt2 _ _ (kt1 _ _ e))) h) (hA _ _ _ _ ktL ha), by omega, by rw [List.length_append]; show as.length + 1 ≤ j2 + 1; omega, htot⟩
  · rw [rdItems, if_neg hw] at htot
    refine ⟨_, rfl, iteF ?_⟩
    refine ⟨_, rfl, L, _, rfl, .inl ⟨SqL.of eL, fun t ht => ?_⟩⟩
    have u := same_upd (o := .tup xs) ht
    exact q as j htot (.ref t) _ (b.trans (sameL u)) (hlj.keep u) ⟨t, xs, rfl, upd_same, Paired.mapP hx fun x y h => hA _ _ _ _ (fun t' ys e => u t' _ e) h⟩
end
end Kx

namespace Kx
open PySem PySem.Spec PyProof.Rows L2 TL
def StrAt (_ : Hp) (v : V) (z : Str) : Prop := v = .str z
theorem StrAt.keep : KeepAt StrAt := fun _ _ _ _ _ h => h
def txt (v : PV) : Str := match v with
  | .tx z => z
  | .nm _ => ""
def rdName : Rdg Str := fun ps i => if (curP ps i).kind = "name" then .ok (txt (curP ps i).val, i + 1) else .error i
def rdWord (ws : List Str) : Rdg Str := fun ps i => if ownW ps i ∈ ws then .ok (ownW ps i, i + 1) else .error i
def rdTwo (ws : List Str) : Rdg (Str × Str) := fun ps i => thenA (rdName ps i) fun z j => thenA (rdWord ws ps j) fun w k => .ok ((z, w), k)
def rdNew : Rdg Str := fun ps i => thenA (rdWord ["as"] ps i) fun _ j => rdName ps j
def TwoAt (H : Hp) (v : V) (x : Str × Str) : Prop := ∃ t : Addr, v = .ref t ∧ H t = some (.tup [.str x.1, .str x.2])
theorem TwoAt.keep : KeepAt TwoAt := fun _ _ _ _ h ⟨t, e, q⟩ => ⟨t, e, h _ _ q⟩
theorem name_fine : FineF rdName := fun ps he i hi a j h => by
  unfold rdName at h
  by_cases c : (curP ps i).kind = "name"
  · rw [if_pos c] at h
    cases h
    exact ⟨Nat.lt_succ_self _, he.next hi (by rw [c]; decide +kernel)⟩
  · rw [if_neg c] at h
    cases h
theorem word_fine {ws : List Str} (h0 : ("" : Str) ∉ ws) : FineF (rdWord ws) := fun ps he i hi a j h => by
  unfold rdWord at h
  by_cases c : ownW ps i ∈ ws
  · rw [if_pos c] at h
    cases h
    exact ⟨Nat.lt_succ_self _, he.next hi (own_pos fun z => h0 (by rw [← z]; exact c))⟩
  · rw [if_neg c] at h
    cases h
theorem thenA_fine {A B : Type} {rd : Rdg A} {k : A → Rdg B} (hr : FineF rd) (hk : ∀ a, FineF (k a)) : FineF (fun ps i => thenA (rd ps i) fun a j => k a ps j) := fun ps he i hi b j h => by
  cases hh : rd ps i with
  | error m =>
    dsimp only at h
    rw [hh] at h
    cases h
  | ok t =>
    obtain ⟨a, m⟩ := t
    dsimp only at h
    rw [hh] at h
    obtain ⟨k1, k2⟩ := hr ps he i hi a m hh
    obtain ⟨m1, m2⟩ := hk a ps he m k2 b j h
    exact ⟨by omega, m2⟩
theorem two_fine {ws : List Str} (h0 : ("" : Str) ∉ ws) : FineF (rdTwo ws) := fun ps he i hi x j h => by
  unfold rdTwo at h
  cases hh : rdName ps i with
  | error m =>
    rw [hh] at h
    cases h
  | ok t =>
    obtain ⟨a, m⟩ := t
    rw [hh] at h
    obtain ⟨k1, k2⟩ := name_fine ps he i hi a m hh
    change thenA (rdWord ws ps m) _ = _ at h
    cases h2 : rdWord ws ps m with
    | error m2 =>
      rw [h2] at h
      cases h
    | ok t2 =>
      obtain ⟨b, m2⟩ := t2
      rw [h2] at h
      cases h
      obtain ⟨l1, l2⟩ := word_fine h0 ps he m k2 b j h2
      exact ⟨by omega, l2⟩
theorem new_fine : FineF rdNew := thenA_fine (k := fun _ => rdName) (word_fine (by decide +kernel)) fun _ => name_fine
section
variable {P : Program} {w : World} {K : PySem.W.Frag} {mg : Str → Option Value} {base : Heap}
theorem val_name {ps : List Pc} (he : EndP ps) {i : Nat} (hi : i < ps.length) (hk : (curP ps i).kind = "name") : pvV (curP ps i).val = .str (txt (curP ps i).val) := by
  obtain ⟨z, hv⟩ := (cur_ok he hi (by rw [hk]; decide +kernel)).txt (.inr hk)
  rw [hv]
  rfl
theorem sc_rname : FnScope ["line"] ["line"] (defScope s_read_name) := ⟨rfl, rfl, rfl, by decide +kernel, rfl, by decide +kernel, by decide +kernel⟩
theorem ok_rname {g C CL : Addr} {fd : FuncData} (F : Fun K "read_name" "read_name" s_read_name g fd) (Z : LnC K CL) (G_take : ReadyM P w K mg base CL 3 "take" ["self", "kind"] (spTake C CL)) : FnOk P w K mg base (L2.CX P w) 4 g fd ["line"] (spRd C CL StrAt rdName) := by
  refine F.okX sc_rname (fun vs H Q E h => ?_) (fun cdv A outer s H vs Q E hr h => ?_)
  · obtain ⟨p, n, ps, i, rfl, _⟩ := h
    rfl
  obtain ⟨p, n, ps, i, rfl, hl, hi, he, hlen, q, qe⟩ := h
  have hr3 : Room 3 _ := hr
  refine ⟨_, pss_one (ps_ret (pe_m G_take Z.cls hr3 (onward (takes_of rfl rfl rfl rfl)) (pv 0) (pa_cons pe_str pa_nil))), ?_⟩
  obtain ⟨dx, L, as, h1, _⟩ := id hl
  exact ⟨_, rfl, p, dx, _, rfl, h1, rfl, p, n, ps, i, _, rfl, hl, hi, fun hk H1 b1 hl1 => q _ _ (if_pos hk) _ H1 b1 hl1 (val_name he hi hk), fun hk => (qe i (if_neg hk)).at (ButL.refl _ _)⟩
theorem sc_rnew : FnScope ["line"] ["line"] (defScope s_read_new_name) := ⟨rfl, rfl, rfl, by decide +kernel, rfl, by decide +kernel, by decide +kernel⟩
theorem ok_rnew {g C CL : Addr} {fd : FuncData} (F : Fun K "read_new_name" "read_new_name" s_read_new_name g fd) (Z : LnC K CL) (G_expect : ReadyM P w K mg base CL 4 "expect" ["self", "word"] (spExpect C CL)) (G_take : ReadyM P w K mg base CL 3 "take" ["self", "kind"] (spTake C CL)) : FnOk P w K mg base (L2.CX P w) 5 g fd ["line"] (spRd C CL StrAt rdNew) := by
  refine F.okX sc_rnew (fun vs H Q E h => ?_) (fun cdv A outer s H vs Q E hr h => ?_)
  · obtain ⟨p, n, ps, i, rfl, _⟩ := h
    rfl
  obtain ⟨p, n, ps, i, rfl, hl, hi, he, hlen, q, qe⟩ := h
  have hr4 : Room 4 _ := hr
  have hr3 : Room 3 _ := hr.mono (by decide)
  refine ⟨_, pss_cons (ps_expr (pe_m G_expect Z.cls hr4 (onward (takes_of rfl rfl rfl rfl)) (pv 0) (pa_cons pe_str pa_nil)))
      (pss_one (ps_ret (pe_m G_take Z.cls hr3 (onward (takes_of rfl rfl rfl rfl)) (pv 0) (pa_cons pe_str pa_nil)))), ?_⟩
  obtain ⟨dx, L, as, h1, _⟩ := id hl
  refine ⟨_, rfl, p, dx, _, rfl, h1, rfl, p, n, ps, i, _, rfl, hl, hi, he, fun hw H1 b1 hl1 => ?_, fun hw => ?_⟩
  · have e1 : rdWord ["as"] ps i = .ok (ownW ps i, i + 1) := if_pos (by rw [hw]; exact List.mem_cons_self)
    have e2 : rdNew ps i = rdName ps (i + 1) := by
      unfold rdNew
      rw [e1]
      rfl
    have hi1 := he.next hi (own_pos (by rw [hw]; decide +kernel))
    obtain ⟨dx1, L1, as1, h1', _⟩ := id hl1
    exact ⟨_, rfl, p, dx1, _, rfl, h1', rfl, p, n, ps, i + 1, _, rfl, hl1, hi1, fun hk H2 b2 hl2 => q _ _ (e2.trans (if_pos hk)) _ H2 (b1.trans b2) hl2 (val_name he hi1 hk), fun hk => (qe (i + 1) (e2.trans (if_neg hk))).at b1⟩
  · have e1 : rdWord ["as"] ps i = .error i := if_neg (fun z => hw (List.mem_singleton.mp z))
    refine (qe i ?_).at (ButL.refl _ _)
    unfold rdNew
    rw [e1]
    rfl
theorem sc_rcolumn : FnScope ["line", "name"] ["line"] (defScope s_read_column) := ⟨rfl, rfl, rfl, by decide +kernel, rfl, by decide +kernel, by decide +kernel⟩
theorem ok_rcolumn {g C CL : Addr} {fd : FuncData} (F : Fun K "read_column" "read_column" s_read_column g fd) (Z : LnC K CL) (G_take : ReadyM P w K mg base CL 3 "take" ["self", "kind"] (spTake C CL)) (G_one : ReadyM P w K mg base CL 4 "take_one_of" ["self", "words"] (spTakeOne K C CL)) : FnOk P w K mg base (L2.CX P w) 5 g fd ["line"] (spRd C CL TwoAt (rdTwo ["int", "text"])) := by
  refine F.okX sc_rcolumn (fun vs H Q E h => ?_) (fun cdv A outer s H vs Q E hr h => ?_)
  · obtain ⟨p, n, ps, i, rfl, _⟩ := h
    rfl
  obtain ⟨p, n, ps, i, rfl, hl, hi, he, hlen, q, qe⟩ := h
  have nd := sc_rcolumn.nd
  have hr4 : Room 4 _ := hr
  have hr3 : Room 3 _ := hr.mono (by decide)
  have z2 : 2 ≤ sizeLine := by decide
  refine ⟨_, pss_cons (ps_set (i := 1) nd rfl (.inl rfl) (pe_m G_take Z.cls hr3 (onward (takes_of rfl rfl rfl rfl)) (pv 0) (pa_cons pe_str pa_nil)))
      (pss_one (ps_ret (pe_tup (pa_cons (pv 1) (pa_cons (pe_m G_one Z.cls hr4 (onward (takes_of rfl rfl rfl rfl)) (pv 0) (pa_cons (pe_tup (pa_cons pe_str (pa_cons pe_str pa_nil))) pa_nil)) pa_nil))))), ?_⟩
  obtain ⟨dx, L, as, h1, _⟩ := id hl
  refine ⟨_, rfl, p, dx, _, rfl, h1, rfl, p, n, ps, i, _, rfl, hl, hi, fun hk H1 b1 hl1 => ?_, fun hk => ?_⟩
  · have e1 : rdName ps i = .ok (txt (curP ps i).val, i + 1) := if_pos hk
    have hi1 := he.next hi (by rw [hk]; decide +kernel)
    have e2 : rdTwo ["int", "text"] ps i = thenA (rdWord ["int", "text"] ps (i + 1)) fun w k => .ok ((txt (curP ps i).val, w), k) := by
      unfold rdTwo
      rw [e1]
      rfl
    rw [val_name he hi hk]
    obtain ⟨dx1, L1, as1, h1', _⟩ := id hl1
    refine ⟨_, rfl, _, rfl, p, dx1, _, rfl, h1', rfl, z2, fun wt hwt => ?_⟩
    have u := same_upd (o := .tup ((["int", "text"] : List Str).map V.str)) hwt
    refine ⟨p, wt, n, ps, i + 1, ["int", "text"], rfl, hl1.keep u, hi1, he, .inr (SqT.of upd_same), by decide +kernel, fun hw H2 b2 hl2 => ⟨z2, fun t ht => ?_⟩, fun hw => ?_⟩
    · have e3 : rdWord ["int", "text"] ps (i + 1) = .ok (ownW ps (i + 1), i + 2) := if_pos hw
      have u2 := same_upd (o := .tup [.str (txt (curP ps i).val), .str (ownW ps (i + 1))]) ht
      exact q _ (i + 2) (by rw [e2, e3]; rfl) (.ref t) _ (((b1.trans (sameL u)).trans b2).trans (sameL u2)) (hl2.keep u2) ⟨t, rfl, upd_same⟩
    · have e3 : rdWord ["int", "text"] ps (i + 1) = .error (i + 1) := if_neg hw
      exact (qe (i + 1) (by rw [e2, e3]; rfl)).at (b1.trans (sameL u))
  · have e1 : rdName ps i = .error i := if_neg hk
    refine (qe i ?_).at (ButL.refl _ _)
    unfold rdTwo
    rw [e1]
    rfl
theorem sc_rsorted : FnScope ["line", "name"] ["line"] (defScope s_read_sorted) := ⟨rfl, rfl, rfl, by decide +kernel, rfl, by decide +kernel, by decide +kernel⟩
theorem ok_rsorted {g C CL : Addr} {fd : FuncData} (F : Fun K "read_sorted" "read_sorted" s_read_sorted g fd) (Z : LnC K CL) (G_take : ReadyM P w K mg base CL 3 "take" ["self", "kind"] (spTake C CL)) (G_one : ReadyM P w K mg base CL 4 "take_one_of" ["self", "words"] (spTakeOne K C CL)) : FnOk P w K mg base (L2.CX P w) 5 g fd ["line"] (spRd C CL TwoAt (rdTwo ["up", "down"])) := by
  refine F.okX sc_rsorted (fun vs H Q E h => ?_) (fun cdv A outer s H vs Q E hr h => ?_)
  · obtain ⟨p, n, ps, i, rfl, _⟩ := h
    rfl
  obtain ⟨p, n, ps, i, rfl, hl, hi, he, hlen, q, qe⟩ := h
  have nd := sc_rsorted.nd
  have hr4 : Room 4 _ := hr
  have hr3 : Room 3 _ := hr.mono (by decide)
  have z2 : 2 ≤ sizeLine := by decide
  refine ⟨_, pss_cons (ps_set (i := 1) nd rfl (.inl rfl) (pe_m G_take Z.cls hr3 (onward (takes_of rfl rfl rfl rfl)) (pv 0) (pa_cons pe_str pa_nil)))
      (pss_one (ps_ret (pe_tup (pa_cons (pv 1) (pa_cons (pe_m G_one Z.cls hr4 (onward (takes_of rfl rfl rfl rfl)) (pv 0) (pa_cons (pe_tup (pa_cons pe_str (pa_cons pe_str pa_nil))) pa_nil)) pa_nil))))), ?_⟩
  obtain ⟨dx, L, as, h1, _⟩ := id hl
  refine ⟨_, rfl, p, dx, _, rfl, h1, rfl, p, n, ps, i, _, rfl, hl, hi, fun hk H1 b1 hl1 => ?_, fun hk => ?_⟩
  · have e1 : rdName ps i = .ok (txt (curP ps i).val, i + 1) := if_pos hk
    have hi1 := he.next hi (by rw [hk]; decide +kernel)
    have e2 : rdTwo ["up", "down"] ps i = thenA (rdWord ["up", "down"] ps (i + 1)) fun w k => .ok ((txt (curP ps i).val, w), k) := by
      unfold rdTwo
      rw [e1]
      rfl
    rw [val_name he hi hk]
    obtain ⟨dx1, L1, as1, h1', _⟩ := id hl1
    refine ⟨_, rfl, _, rfl, p, dx1, _, rfl, h1', rfl, z2, fun wt hwt => ?_⟩
    have u := same_upd (o := .tup ((["up", "down"] : List Str).map V.str)) hwt
    refine ⟨p, wt, n, ps, i + 1, ["up", "down"], rfl, hl1.keep u, hi1, he, .inr (SqT.of upd_same), by decide +kernel, fun hw H2 b2 hl2 => ⟨z2, fun t ht => ?_⟩, fun hw => ?_⟩
    · have e3 : rdWord ["up", "down"] ps (i + 1) = .ok (ownW ps (i + 1), i + 2) := if_pos hw
      have u2 := same_upd (o := .tup [.str (txt (curP ps i).val), .str (ownW ps (i + 1))]) ht
      exact q _ (i + 2) (by rw [e2, e3]; rfl) (.ref t) _ (((b1.trans (sameL u)).trans b2).trans (sameL u2)) (hl2.keep u2) ⟨t, rfl, upd_same⟩
    · have e3 : rdWord ["up", "down"] ps (i + 1) = .error (i + 1) := if_neg hw
      exact (qe (i + 1) (by rw [e2, e3]; rfl)).at (b1.trans (sameL u))
  · have e1 : rdName ps i = .error i := if_neg hk
    refine (qe i ?_).at (ButL.refl _ _)
    unfold rdTwo
    rw [e1]
    rfl
end
end Kx

namespace Kx
open PySem PySem.Spec PyProof.Rows L2 TL
def rdExpr : Rdg Ex := fun ps i => rdPart ps 100 1 i
def ExA (H : Hp) (v : V) (e : Ex) : Prop := ExAt H v e
theorem ExA.keep : KeepAt ExA := fun _ _ _ _ h q => ExAt.keep h q
theorem expr_fine : FineF rdExpr := fun ps he i hi e j h => by
  have hf := part_fine he 100 1 i (Nat.le_refl _) hi
  unfold rdExpr at h
  rw [h] at hf
  exact ⟨hf.2.1, hf.1⟩
def Ex.word : Ex → Str
  | .num _ => "number"
  | .quo _ => "quoted"
  | .col _ => "column"
  | .two _ _ _ => "two"
  | .nt _ => "not"
  | .mn _ => "minus"
  | .ln _ => "length"
def Ex.colN : Ex → Str
  | .col x => x
  | _ => ""
theorem word_at {H : Hp} {v : V} : ∀ {e : Ex}, ExAt H v e → ∃ a xs, v = .ref a ∧ H a = some (.tup (.str e.word :: xs)) ∧ (e.word = "column" → xs = [.str e.colN])
  | .num i, ⟨a, e, h⟩ => ⟨a, _, e, h, fun z => absurd z (show ¬ ("number" : Str) = "column" by decide +kernel)⟩
  | .quo i, ⟨a, e, h⟩ => ⟨a, _, e, h, fun z => absurd z (show ¬ ("quoted" : Str) = "column" by decide +kernel)⟩
  | .col i, ⟨a, e, h⟩ => ⟨a, _, e, h, fun _ => rfl⟩
  | .two _ _ _, ⟨a, _, _, e, h, _⟩ => ⟨a, _, e, h, fun z => absurd z (show ¬ ("two" : Str) = "column" by decide +kernel)⟩
  | .nt _, ⟨a, _, e, h, _⟩ => ⟨a, _, e, h, fun z => absurd z (show ¬ ("not" : Str) = "column" by decide +kernel)⟩
  | .mn _, ⟨a, _, e, h, _⟩ => ⟨a, _, e, h, fun z => absurd z (show ¬ ("minus" : Str) = "column" by decide +kernel)⟩
  | .ln _, ⟨a, _, e, h, _⟩ => ⟨a, _, e, h, fun z => absurd z (show ¬ ("length" : Str) = "column" by decide +kernel)⟩
def rdMapped : Rdg (Ex × Str) := fun ps i => thenA (rdExpr ps i) fun e j => if e.word = "column" ∧ ownW ps j ≠ "as" then .ok ((e, e.colN), j) else thenA (rdNew ps j) fun z k => .ok ((e, z), k)
def MapAt (H : Hp) (v : V) (x : Ex × Str) : Prop := ∃ (t : Addr) (told : V), v = .ref t ∧ H t = some (.tup [told, .str x.2]) ∧ ExAt H told x.1
theorem MapAt.keep : KeepAt MapAt := fun _ _ _ _ h ⟨t, o, e, q, k⟩ => ⟨t, o, e, h _ _ q, ExAt.keep h k⟩
theorem mapped_fine : FineF rdMapped := fun ps he i hi x j h => by
  unfold rdMapped at h
  cases hh : rdExpr ps i with
  | error m =>
    rw [hh] at h
    cases h
  | ok t =>
    obtain ⟨e, m⟩ := t
    rw [hh] at h
    obtain ⟨k1, k2⟩ := expr_fine ps he i hi e m hh
    change (if e.word = "column" ∧ ownW ps m ≠ "as" then _ else _) = _ at h
    by_cases c : e.word = "column" ∧ ownW ps m ≠ "as"
    · rw [if_pos c] at h
      cases h
      exact ⟨k1, k2⟩
    · rw [if_neg c] at h
      cases h2 : rdNew ps m with
      | error m2 =>
        rw [h2] at h
        cases h
      | ok t2 =>
        obtain ⟨b, m2⟩ := t2
        rw [h2] at h
        cases h
        obtain ⟨l1, l2⟩ := new_fine ps he m k2 b j h2
        exact ⟨by omega, l2⟩
section
variable {P : Program} {w : World} {K : PySem.W.Frag} {mg : Str → Option Value} {base : Heap}
theorem sc_rmapped : FnScope ["line", "told"] ["line"] (defScope s_read_mapped) := ⟨rfl, rfl, rfl, by decide +kernel, rfl, by decide +kernel, by decide +kernel⟩
theorem ok_rmapped {g C CL : Addr} {fd : FuncData} {k : Nat} (F : Fun K "read_mapped" "read_mapped" s_read_mapped g fd) (Z : LnC K CL) (hk5 : 5 ≤ k) (G_own : ReadyM P w K mg base CL 2 "own_word" ["self"] (spOwn CL)) (G_expr : ReadyX P w K mg base k "read_expression" ["line"] (spRd C CL ExA rdExpr)) (G_new : ReadyX P w K mg base 5 "read_new_name" ["line"] (spRd C CL StrAt rdNew)) : FnOk P w K mg base (L2.CX P w) (k + 1) g fd ["line"] (spRd C CL MapAt rdMapped) := by
  refine F.okX sc_rmapped (fun vs H Q E h => ?_) (fun cdv A outer s H vs Q E hr h => ?_)
  · obtain ⟨p, n, ps, i, rfl, _⟩ := h
    rfl
  obtain ⟨p, n, ps, i, rfl, hl, hi, he, hlen, q, qe⟩ := h
  have nd := sc_rmapped.nd
  have hrk : Room k _ := hr
  have hr5 : Room 5 _ := hrk.mono hk5
  have hr2 : Room 2 _ := hrk.mono (by omega)
  have z2 : 2 ≤ sizeLine := by decide
  refine ⟨_, pss_cons (ps_set (i := 1) nd rfl (.inl rfl) (pe_fnX G_expr hrk (takes_of rfl rfl rfl rfl) (pa_cons (pv 0) pa_nil)))
      (pss_cons (ps_if (PW.pt (pw_and (pt_cmpR op_eq (pe_ix ix_tup (pv 1) pe_int (fun _ _ => rfl)) pe_str (nomark _)) (pw_and1 (pt_cmpR op_ne (pe_m0' G_own Z.cls hr2 noE (pv 0)) pe_str (nomark _))))) (pss_one (ps_ret (pe_tup (pa_cons (pv 1) (pa_cons (pe_ix ix_tup (pv 1) pe_int (fun _ _ => rfl)) pa_nil))))) (pss_nil))
      (pss_one (ps_ret (pe_tup (pa_cons (pv 1) (pa_cons (pe_fnX G_new hr5 (takes_of rfl rfl rfl rfl) (pa_cons (pv 0) pa_nil)) pa_nil)))))), ?_⟩
  have eAll : rdMapped ps i = thenA (rdExpr ps i) fun e j => if e.word = "column" ∧ ownW ps j ≠ "as" then .ok ((e, e.colN), j) else thenA (rdNew ps j) fun z k => .ok ((e, z), k) := rfl
  refine ⟨_, rfl, p, n, ps, i, rfl, hl, hi, he, hlen, fun e j hr0 v H1 b1 hl1 hx => ?_, fun j hr0 => qe j (by rw [eAll, hr0]; rfl)⟩
  obtain ⟨f1, f2⟩ := expr_fine ps he i hi e j hr0
  rw [hr0] at eAll
  change rdMapped ps i = (if e.word = "column" ∧ ownW ps j ≠ "as" then .ok ((e, e.colN), j) else thenA (rdNew ps j) fun z k => .ok ((e, z), k)) at eAll
  obtain ⟨a, xs, rfl, ha, hcol⟩ := word_at hx
  obtain ⟨dx, L, as, h1, _⟩ := id hl1
  have last : ¬ (e.word = "column" ∧ ownW ps j ≠ "as") → ∃ x, some (V.ref a) = some x ∧ ∃ x_1, some (V.ref p) = some x_1 ∧ True := fun _ => ⟨_, rfl, _, rfl, trivial⟩
  refine ⟨_, rfl, a, _, ((0 : Nat) : Int), _, rfl, rfl, SqT.of ha, atI_nat (j := 0) rfl, rfl, _, rfl, ?_⟩
  rw [dec_str]
  refine ite2 (fun c => ?_) (fun c => ?_)
  · have hw := of_decide_eq_true c
    refine ⟨_, rfl, p, dx, _, rfl, h1, rfl, p, n, ps, j, rfl, hl1, f2, he, rfl, _, rfl, ?_⟩
    rw [dec_str]
    by_cases c2 : ownW ps j = "as"
    · rw [decide_eq_true c2]
      refine iteF ?_
      rw [if_neg (fun z => z.2 c2)] at eAll
      refine ⟨_, rfl, _, rfl, p, n, ps, j, rfl, hl1, f2, he, hlen, fun z k hrz v2 H2 b2 hl2 hs => ⟨z2, fun t ht => ?_⟩, fun k hrz => (qe k (by rw [eAll, hrz]; rfl)).but b1⟩
      have hs' : v2 = .str z := hs
      subst hs'
      have u := same_upd (o := .tup [.ref a, .str z]) ht
      exact q (e, z) k (by rw [eAll, hrz]; rfl) (.ref t) _ ((b1.trans b2).trans (sameL u)) (hl2.keep u) ⟨t, .ref a, rfl, upd_same, ExAt.keep (fun x ys h => u x _ (b2.b x _ (fun zz => by rw [zz, h1] at h; cases h) h)) hx⟩
    · rw [decide_eq_false c2]
      refine iteT ?_
      rw [if_pos ⟨hw, c2⟩] at eAll
      have hxs := hcol hw
      subst hxs
      refine ⟨_, rfl, _, rfl, a, _, 1, _, rfl, rfl, SqT.of ha, rfl, z2, fun t ht => ?_⟩
      have u := same_upd (o := .tup [.ref a, .str e.colN]) ht
      exact q (e, e.colN) j eAll (.ref t) _ (b1.trans (sameL u)) (hl1.keep u) ⟨t, .ref a, rfl, upd_same, ExAt.keep (fun x ys h => u x _ h) hx⟩
  · have hw : ¬ e.word = "column" := fun z => c (decide_eq_true z)
    rw [if_neg (fun z => hw z.1)] at eAll
    refine ⟨_, rfl, _, rfl, p, n, ps, j, rfl, hl1, f2, he, hlen, fun z k hrz v2 H2 b2 hl2 hs => ⟨z2, fun t ht => ?_⟩, fun k hrz => (qe k (by rw [eAll, hrz]; rfl)).but b1⟩
    have hs' : v2 = .str z := hs
    subst hs'
    have u := same_upd (o := .tup [.ref a, .str z]) ht
    exact q (e, z) k (by rw [eAll, hrz]; rfl) (.ref t) _ ((b1.trans b2).trans (sameL u)) (hl2.keep u) ⟨t, .ref a, rfl, upd_same, ExAt.keep (fun x ys h => u x _ (b2.b x _ (fun zz => by rw [zz, h1] at h; cases h) h)) hx⟩
end
end Kx

namespace Kx
open PySem PySem.Spec PyProof.Rows L2 TL
def six : List Str := ["count", "sum", "least", "greatest", "mean", "unlike"]
def rdOpt (z : Str) : Rdg (Option Ex) := fun ps i => if z = "count" then .ok (none, i) else thenA (rdExpr ps i) fun e j => .ok (some e, j)
/-- from behind the opening bracket -/
def rdFold2 (z : Str) : Rdg (Str × Option Ex × Str) := fun ps i => thenA (rdOpt z ps i) fun o j => thenA (rdWord [")"] ps j) fun _ j2 => thenA (rdNew ps j2) fun x k => .ok ((z, o, x), k)
def rdFolded : Rdg (Str × Option Ex × Str) := fun ps i => thenA (rdWord six ps i) fun z j => thenA (rdWord ["("] ps j) fun _ j2 => rdFold2 z ps j2
def OptAt (H : Hp) (v : V) : Option Ex → Prop
  | none => v = .non
  | some e => ExAt H v e
theorem OptAt.keep {H H' : Hp} {v : V} (k : ∀ (t : Addr) (xs : List V), H t = some (.tup xs) → H' t = some (.tup xs)) : ∀ {o : Option Ex}, OptAt H v o → OptAt H' v o
  | none, h => h
  | some _, h => ExAt.keep k h
def FoldAt (H : Hp) (v : V) (x : Str × Option Ex × Str) : Prop := ∃ (t : Addr) (told : V), v = .ref t ∧ H t = some (.tup [.str x.1, told, .str x.2.2]) ∧ OptAt H told x.2.1
theorem FoldAt.keep : KeepAt FoldAt := fun _ _ _ _ h ⟨t, o, e, q, k⟩ => ⟨t, o, e, h _ _ q, OptAt.keep h k⟩
theorem fold2_fine {z : Str} {ps : List Pc} (he : EndP ps) {i : Nat} (hi : i < ps.length) {x : Str × Option Ex × Str} {j : Nat} (h : rdFold2 z ps i = .ok (x, j)) : i < j ∧ j < ps.length := by
  have opt : ∀ o m, rdOpt z ps i = .ok (o, m) → i ≤ m ∧ m < ps.length := fun o m h => by
    unfold rdOpt at h
    by_cases c : z = "count"
    · rw [if_pos c] at h
      cases h
      exact ⟨Nat.le_refl _, hi⟩
    · rw [if_neg c] at h
      cases hh : rdExpr ps i with
      | error m2 =>
        rw [hh] at h
        cases h
      | ok t =>
        obtain ⟨e, m2⟩ := t
        rw [hh] at h
        cases h
        obtain ⟨k1, k2⟩ := expr_fine ps he i hi e m hh
        exact ⟨by omega, k2⟩
  unfold rdFold2 at h
  cases h1 : rdOpt z ps i with
  | error m =>
    rw [h1] at h
    cases h
  | ok t =>
    obtain ⟨o, m⟩ := t
    rw [h1] at h
    obtain ⟨k1, k2⟩ := opt o m h1
    change thenA (rdWord [")"] ps m) _ = _ at h
    cases h2 : rdWord [")"] ps m with
    | error m2 =>
      rw [h2] at h
      cases h
    | ok t2 =>
      obtain ⟨b, m2⟩ := t2
      rw [h2] at h
      obtain ⟨l1, l2⟩ := word_fine (by decide +kernel) ps he m k2 b m2 h2
      change thenA (rdNew ps m2) _ = _ at h
      cases h3 : rdNew ps m2 with
      | error m3 =>
        rw [h3] at h
        cases h
      | ok t3 =>
        obtain ⟨b3, m3⟩ := t3
        rw [h3] at h
        cases h
        obtain ⟨n1, n2⟩ := new_fine ps he m2 l2 b3 j h3
        exact ⟨by omega, n2⟩
theorem folded_fine : FineF rdFolded := fun ps he i hi x j h => by
  unfold rdFolded at h
  cases h1 : rdWord six ps i with
  | error m =>
    rw [h1] at h
    cases h
  | ok t =>
    obtain ⟨o, m⟩ := t
    rw [h1] at h
    obtain ⟨k1, k2⟩ := word_fine (by decide +kernel) ps he i hi o m h1
    change thenA (rdWord ["("] ps m) _ = _ at h
    cases h2 : rdWord ["("] ps m with
    | error m2 =>
      rw [h2] at h
      cases h
    | ok t2 =>
      obtain ⟨b, m2⟩ := t2
      rw [h2] at h
      obtain ⟨l1, l2⟩ := word_fine (by decide +kernel) ps he m k2 b m2 h2
      obtain ⟨n1, n2⟩ := fold2_fine he l2 h
      exact ⟨by omega, n2⟩
section
variable {P : Program} {w : World} {K : PySem.W.Frag} {mg : Str → Option Value} {base : Heap}
theorem sc_rfolded : FnScope ["line", "kind", "told"] ["line"] (defScope s_read_folded) := ⟨rfl, rfl, rfl, by decide +kernel, rfl, by decide +kernel, by decide +kernel⟩
theorem ok_rfolded {g C CL : Addr} {fd : FuncData} {k : Nat} (F : Fun K "read_folded" "read_folded" s_read_folded g fd) (Z : LnC K CL) (hk5 : 5 ≤ k) (G_one : ReadyM P w K mg base CL 4 "take_one_of" ["self", "words"] (spTakeOne K C CL)) (G_expect : ReadyM P w K mg base CL 4 "expect" ["self", "word"] (spExpect C CL)) (G_expr : ReadyX P w K mg base k "read_expression" ["line"] (spRd C CL ExA rdExpr)) (G_new : ReadyX P w K mg base 5 "read_new_name" ["line"] (spRd C CL StrAt rdNew)) : FnOk P w K mg base (L2.CX P w) (k + 1) g fd ["line"] (spRd C CL FoldAt rdFolded) := by
  refine F.okX sc_rfolded (fun vs H Q E h => ?_) (fun cdv A outer s H vs Q E hr h => ?_)
  · obtain ⟨p, n, ps, i, rfl, _⟩ := h
    rfl
  obtain ⟨p, n, ps, i, rfl, hl, hi, he, hlen, q, qe⟩ := h
  have nd := sc_rfolded.nd
  have hrk : Room k _ := hr
  have hr5 : Room 5 _ := hrk.mono hk5
  have hr4 : Room 4 _ := hrk.mono (by omega)
  have z3 : 3 ≤ sizeLine := by decide
  refine ⟨_, pss_cons (ps_set (i := 1) nd rfl (.inl rfl) (pe_m G_one Z.cls hr4 (onward (takes_of rfl rfl rfl rfl)) (pv 0) (pa_cons (pe_tup (pa_cons pe_str (pa_cons pe_str (pa_cons pe_str (pa_cons pe_str (pa_cons pe_str (pa_cons pe_str pa_nil))))))) pa_nil)))
      (pss_cons (ps_expr (pe_m G_expect Z.cls hr4 (onward (takes_of rfl rfl rfl rfl)) (pv 0) (pa_cons pe_str pa_nil)))
      (pss_cons (ps_set (i := 2) nd rfl (.inl rfl) pe_non)
      (C8.pss_cut (ps_if (pt_cmpR op_ne (pv 1) pe_str (nomark _)) (pss_one (ps_set (i := 2) nd rfl (.inl rfl) (pe_fnX G_expr hrk (takes_of rfl rfl rfl rfl) (pa_cons (pv 0) pa_nil)))) (pss_nil))
      (pss_cons (ps_expr (pe_m G_expect Z.cls hr4 (onward (takes_of rfl rfl rfl rfl)) (pv 0) (pa_cons pe_str pa_nil)))
      (pss_one (ps_ret (pe_tup (pa_cons (pv 1) (pa_cons (pv 2) (pa_cons (pe_fnX G_new hr5 (takes_of rfl rfl rfl rfl) (pa_cons (pv 0) pa_nil)) pa_nil)))))))))), ?_⟩
  obtain ⟨dx, L, as, h1, _⟩ := id hl
  have eAll : rdFolded ps i = thenA (rdWord six ps i) fun z j => thenA (rdWord ["("] ps j) fun _ j2 => rdFold2 z ps j2 := rfl
  refine ⟨_, rfl, p, dx, _, rfl, h1, rfl, by show 6 ≤ sizeLine; decide, fun wt hwt => ?_⟩
  have u := same_upd (o := .tup (six.map V.str)) hwt
  refine ⟨p, wt, n, ps, i, six, rfl, hl.keep u, hi, he, .inr (SqT.of upd_same), by decide +kernel, fun hw H1 b1 hl1 => ?_, fun hw => ?_⟩
  · have e1 : rdWord six ps i = .ok (ownW ps i, i + 1) := if_pos hw
    rw [e1] at eAll
    change rdFolded ps i = thenA (rdWord ["("] ps (i + 1)) fun _ j2 => rdFold2 (ownW ps i) ps j2 at eAll
    have hi1 := he.next hi (own_pos fun z => absurd (show ("" : Str) ∈ six by rw [← z]; exact hw) (by decide +kernel))
    obtain ⟨dx1, L1, as1, h1', _⟩ := id hl1
    have c1 : ButL p H H1 := (sameL u).trans b1
    refine ⟨_, rfl, p, dx1, _, rfl, h1', rfl, p, n, ps, i + 1, _, rfl, hl1, hi1, he, fun hw2 H2 b2 hl2 => ?_, fun hw2 => ?_⟩
    · have e2 : rdWord ["("] ps (i + 1) = .ok (ownW ps (i + 1), i + 2) := if_pos (by rw [hw2]; exact List.mem_cons_self)
      rw [e2] at eAll
      change rdFolded ps i = rdFold2 (ownW ps i) ps (i + 2) at eAll
      have hi2 := he.next hi1 (own_pos (by rw [hw2]; decide +kernel))
      have c2 := c1.trans b2
      generalize ownW ps i = kd at eAll ⊢
      refine ⟨fun σ G => ∃ (o : Option Ex) (j : Nat) (v : V), σ = [some (.ref p), some (.str kd), some v] ∧ ButL p H G ∧ LineAt G CL p n ps j ∧ j < ps.length ∧ OptAt G v o ∧ rdOpt kd ps (i + 2) = .ok (o, j), ?_, ?_⟩
      · refine ⟨_, rfl, rfl, _, rfl, ?_⟩
        rw [dec_str]
        by_cases hc : kd = "count"
        · rw [decide_eq_true hc]
          exact iteF ⟨none, i + 2, .non, rfl, c2, hl2, hi2, rfl, if_pos hc⟩
        · rw [decide_eq_false hc]
          have e3 : rdOpt kd ps (i + 2) = thenA (rdExpr ps (i + 2)) fun e j => .ok (some e, j) := if_neg hc
          refine iteT ⟨_, rfl, p, n, ps, i + 2, rfl, hl2, hi2, he, hlen, fun e j hr0 v H3 b3 hl3 hx => ?_, fun j hr0 => (qe j ?_).but c2⟩
          · obtain ⟨f1, f2⟩ := expr_fine ps he (i + 2) hi2 e j hr0
            exact ⟨some e, j, v, rfl, c2.trans b3, hl3, f2, hx, by rw [e3, hr0]; rfl⟩
          · rw [eAll]
            unfold rdFold2
            rw [e3, hr0]
            rfl
      · rintro σ G ⟨o, j, v, rfl, cG, hlG, hj, ho, eo⟩
        have e4 : rdFolded ps i = thenA (rdWord [")"] ps j) fun _ j2 => thenA (rdNew ps j2) fun x k => .ok ((kd, o, x), k) := by
          rw [eAll]
          unfold rdFold2
          rw [eo]
          rfl
        obtain ⟨dxG, LG, asG, hG, _⟩ := id hlG
        refine ⟨_, rfl, p, dxG, _, rfl, hG, rfl, p, n, ps, j, _, rfl, hlG, hj, he, fun hw3 G1 b3 hl3 => ?_, fun hw3 => ?_⟩
        · have e5 : rdWord [")"] ps j = .ok (ownW ps j, j + 1) := if_pos (by rw [hw3]; exact List.mem_cons_self)
          rw [e5] at e4
          change rdFolded ps i = thenA (rdNew ps (j + 1)) fun x k => .ok ((kd, o, x), k) at e4
          have hj1 := he.next hj (own_pos (by rw [hw3]; decide +kernel))
          obtain ⟨dx4, L4, as4, h4, _⟩ := id hl3
          refine ⟨_, rfl, _, rfl, _, rfl, p, n, ps, j + 1, rfl, hl3, hj1, he, hlen, fun x k hrz v2 G2 b4 hl4 hs => ⟨z3, fun t ht => ?_⟩, fun k hrz => (qe k (by rw [e4, hrz]; rfl)).but (cG.trans b3)⟩
          have hs' : v2 = .str x := hs
          subst hs'
          have u4 := same_upd (o := .tup [.str kd, v, .str x]) ht
          exact q (kd, o, x) k (by rw [e4, hrz]; rfl) (.ref t) _ (((cG.trans b3).trans b4).trans (sameL u4)) (hl4.keep u4) ⟨t, v, rfl, upd_same, OptAt.keep (fun x ys h => u4 x _ (b4.b x _ (fun zz => by rw [zz, hG] at h; cases h) (b3.b x _ (fun zz => by rw [zz, hG] at h; cases h) h))) ho⟩
        · have e5 : rdWord [")"] ps j = .error j := if_neg (fun z => hw3 (List.mem_singleton.mp z))
          rw [e5] at e4
          exact (qe j e4).at cG
    · have e2 : rdWord ["("] ps (i + 1) = .error (i + 1) := if_neg (fun z => hw2 (List.mem_singleton.mp z))
      rw [e2] at eAll
      exact (qe (i + 1) eAll).at c1
  · have e1 : rdWord six ps i = .error i := if_neg hw
    rw [e1] at eAll
    exact (qe i eAll).at (sameL u)
end
end Kx

namespace Kx
open PySem PySem.Spec PyProof.Rows L2 TL
abbrev s_read_one_input : Stmt := topS 44
abbrev s_read_two_inputs : Stmt := topS 45
abbrev s_read_filter : Stmt := topS 46
abbrev s_read_map : Stmt := topS 47
abbrev s_read_fold : Stmt := topS 48
abbrev s_read_join : Stmt := topS 49
abbrev s_read_union : Stmt := topS 50
abbrev s_read_unlike : Stmt := topS 51
abbrev s_read_sort : Stmt := topS 52
abbrev s_read_table_head : Stmt := topS 54
def rdOne : Rdg (List Str) := fun ps i => thenA (rdName ps i) fun z j => .ok ([z], j)
def rdThen {A B : Type} (rx : Rdg A) (w : Str) (ry : Rdg B) : Rdg (A × B) := fun ps i => thenA (rx ps i) fun a j => thenA (rdWord [w] ps j) fun _ j2 => thenA (ry ps j2) fun b k => .ok ((a, b), k)
def rdTwoIn : Rdg (List Str) := fun ps i => thenA (rdThen rdName "," rdName ps i) fun x k => .ok ([x.1, x.2], k)
def InAt : Hp → V → List Str → Prop := ListAt StrAt
theorem InAt.keep : KeepAt InAt := ListAt.keep StrAt.keep
def PairAt {A B : Type} (At1 : Hp → V → A → Prop) (At2 : Hp → V → B → Prop) (H : Hp) (v : V) (x : A × B) : Prop := ∃ (t : Addr) (a b : V), v = .ref t ∧ H t = some (.tup [a, b]) ∧ At1 H a x.1 ∧ At2 H b x.2
theorem PairAt.keep {A B : Type} {At1 : Hp → V → A → Prop} {At2 : Hp → V → B → Prop} (k1 : KeepAt At1) (k2 : KeepAt At2) : KeepAt (PairAt At1 At2) := fun H H' v x h ⟨t, a, b, e, q, q1, q2⟩ => ⟨t, a, b, e, h _ _ q, k1 H H' _ _ h q1, k2 H H' _ _ h q2⟩
theorem then_fine {A B : Type} {rx : Rdg A} {w : Str} {ry : Rdg B} (hw : w ≠ "") (h1 : FineF rx) (h2 : FineF ry) : FineF (rdThen rx w ry) := fun ps he i hi x j h => by
  unfold rdThen at h
  cases e1 : rx ps i with
  | error m =>
    rw [e1] at h
    cases h
  | ok t =>
    obtain ⟨a, m⟩ := t
    rw [e1] at h
    obtain ⟨k1, k2⟩ := h1 ps he i hi a m e1
    change thenA (rdWord [w] ps m) _ = _ at h
    cases e2 : rdWord [w] ps m with
    | error m2 =>
      rw [e2] at h
      cases h
    | ok t2 =>
      obtain ⟨b, m2⟩ := t2
      rw [e2] at h
      obtain ⟨l1, l2⟩ := word_fine (fun z => hw (List.mem_singleton.mp z).symm) ps he m k2 b m2 e2
      change thenA (ry ps m2) _ = _ at h
      cases e3 : ry ps m2 with
      | error m3 =>
        rw [e3] at h
        cases h
      | ok t3 =>
        obtain ⟨c, m3⟩ := t3
        rw [e3] at h
        cases h
        obtain ⟨n1, n2⟩ := h2 ps he m2 l2 c j e3
        exact ⟨by omega, n2⟩
theorem map_fine {A B : Type} {rd : Rdg A} {g : A → B} (h1 : FineF rd) : FineF (fun ps i => thenA (rd ps i) fun a j => .ok (g a, j)) := fun ps he i hi x j h => by
  cases e1 : rd ps i with
  | error m =>
    dsimp only at h
    rw [e1] at h
    cases h
  | ok t =>
    obtain ⟨a, m⟩ := t
    dsimp only at h
    rw [e1] at h
    cases h
    exact h1 ps he i hi a j e1
theorem one_fine : FineF rdOne := map_fine name_fine
theorem twoIn_fine : FineF rdTwoIn := map_fine (then_fine (by decide +kernel) name_fine name_fine)
section
variable {P : Program} {w : World} {K : PySem.W.Frag} {mg : Str → Option Value} {base : Heap}
theorem sc_rone : FnScope ["line"] ["line"] (defScope s_read_one_input) := ⟨rfl, rfl, rfl, by decide +kernel, rfl, by decide +kernel, by decide +kernel⟩
theorem ok_rone {g C CL : Addr} {fd : FuncData} (F : Fun K "read_one_input" "read_one_input" s_read_one_input g fd) (Z : LnC K CL) (G_take : ReadyM P w K mg base CL 3 "take" ["self", "kind"] (spTake C CL)) : FnOk P w K mg base (L2.CX P w) 4 g fd ["line"] (spRd C CL InAt rdOne) := by
  refine F.okX sc_rone (fun vs H Q E h => ?_) (fun cdv A outer s H vs Q E hr h => ?_)
  · obtain ⟨p, n, ps, i, rfl, _⟩ := h
    rfl
  obtain ⟨p, n, ps, i, rfl, hl, hi, he, hlen, q, qe⟩ := h
  have hr3 : Room 3 _ := hr
  refine ⟨_, pss_one (ps_ret (pe_tup (pa_cons (pe_m G_take Z.cls hr3 (onward (takes_of rfl rfl rfl rfl)) (pv 0) (pa_cons pe_str pa_nil)) pa_nil))), ?_⟩
  obtain ⟨dx, L, as, h1, _⟩ := id hl
  refine ⟨_, rfl, p, dx, _, rfl, h1, rfl, p, n, ps, i, _, rfl, hl, hi, fun hk H1 b1 hl1 => ⟨by show 1 ≤ sizeLine; decide, fun t ht => ?_⟩, fun hk => ?_⟩
  · have e1 : rdName ps i = .ok (txt (curP ps i).val, i + 1) := if_pos hk
    rw [val_name he hi hk]
    have u := same_upd (o := .tup [.str (txt (curP ps i).val)]) ht
    exact q [txt (curP ps i).val] (i + 1) (by unfold rdOne; rw [e1]; rfl) (.ref t) _ (b1.trans (sameL u)) (hl1.keep u) ⟨t, _, rfl, upd_same, .cons rfl .nil⟩
  · have e1 : rdName ps i = .error i := if_neg hk
    exact (qe i (by unfold rdOne; rw [e1]; rfl)).at (ButL.refl _ _)
theorem sc_rfilter : FnScope ["line", "inputs"] ["line"] (defScope s_read_filter) := ⟨rfl, rfl, rfl, by decide +kernel, rfl, by decide +kernel, by decide +kernel⟩
theorem ok_rfilter {g C CL : Addr} {fd : FuncData} {k : Nat} (F : Fun K "read_filter" "read_filter" s_read_filter g fd) (Z : LnC K CL) (hk6 : 6 ≤ k) (G_in : ReadyX P w K mg base 6 "read_one_input" ["line"] (spRd C CL InAt rdOne)) (G_expect : ReadyM P w K mg base CL 4 "expect" ["self", "word"] (spExpect C CL)) (G_y : ReadyX P w K mg base k "read_expression" ["line"] (spRd C CL ExA rdExpr)) : FnOk P w K mg base (L2.CX P w) (k + 1) g fd ["line"] (spRd C CL (PairAt InAt (ExA)) (rdThen rdOne "where" (rdExpr))) := by
  refine F.okX sc_rfilter (fun vs H Q E h => ?_) (fun cdv A outer s H vs Q E hr h => ?_)
  · obtain ⟨p, n, ps, i, rfl, _⟩ := h
    rfl
  obtain ⟨p, n, ps, i, rfl, hl, hi, he, hlen, q, qe⟩ := h
  have nd := sc_rfilter.nd
  have hrk : Room k _ := hr
  have hr6 : Room 6 _ := hrk.mono hk6
  have hr4 : Room 4 _ := hrk.mono (by omega)
  have z2 : 2 ≤ sizeLine := by decide
  refine ⟨_, pss_cons (ps_set (i := 1) nd rfl (.inl rfl) (pe_fnX G_in hr6 (takes_of rfl rfl rfl rfl) (pa_cons (pv 0) pa_nil)))
      (pss_cons (ps_expr (pe_m G_expect Z.cls hr4 (onward (takes_of rfl rfl rfl rfl)) (pv 0) (pa_cons pe_str pa_nil)))
      (pss_one (ps_ret (pe_tup (pa_cons (pv 1) (pa_cons (pe_fnX G_y hrk (takes_of rfl rfl rfl rfl) (pa_cons (pv 0) pa_nil)) pa_nil)))))), ?_⟩
  have eAll : rdThen rdOne "where" (rdExpr) ps i = thenA (rdOne ps i) fun a j => thenA (rdWord ["where"] ps j) fun _ j2 => thenA ((rdExpr) ps j2) fun b k => .ok ((a, b), k) := rfl
  refine ⟨_, rfl, p, n, ps, i, rfl, hl, hi, he, hlen, fun ins j hr0 v H1 b1 hl1 hx => ?_, fun j hr0 => qe j (by rw [eAll, hr0]; rfl)⟩
  obtain ⟨f1, f2⟩ := one_fine ps he i hi ins j hr0
  rw [hr0] at eAll
  change rdThen rdOne "where" (rdExpr) ps i = thenA (rdWord ["where"] ps j) fun _ j2 => thenA ((rdExpr) ps j2) fun b k => .ok ((ins, b), k) at eAll
  obtain ⟨dx, L, as, h1, _⟩ := id hl1
  refine ⟨_, rfl, p, dx, _, rfl, h1, rfl, p, n, ps, j, _, rfl, hl1, f2, he, fun hw H2 b2 hl2 => ?_, fun hw => ?_⟩
  · have e1 : rdWord ["where"] ps j = .ok (ownW ps j, j + 1) := if_pos (by rw [hw]; exact List.mem_cons_self)
    rw [e1] at eAll
    change rdThen rdOne "where" (rdExpr) ps i = thenA ((rdExpr) ps (j + 1)) fun b k => .ok ((ins, b), k) at eAll
    have hj1 := he.next f2 (own_pos (by rw [hw]; decide +kernel))
    obtain ⟨dx2, L2', as2, h2, _⟩ := id hl2
    refine ⟨_, rfl, _, rfl, p, n, ps, j + 1, rfl, hl2, hj1, he, hlen, fun b k hrb v2 H3 b3 hl3 hb => ⟨z2, fun t ht => ?_⟩, fun k hrb => (qe k (by rw [eAll, hrb]; rfl)).but (b1.trans b2)⟩
    have u := same_upd (o := .tup [v, v2]) ht
    exact q (ins, b) k (by rw [eAll, hrb]; rfl) (.ref t) _ (((b1.trans b2).trans b3).trans (sameL u)) (hl3.keep u) ⟨t, v, v2, rfl, upd_same, InAt.keep _ _ _ _ (fun x ys h => u x _ (b3.b x _ (fun zz => by rw [zz, h1] at h; cases h) (b2.b x _ (fun zz => by rw [zz, h1] at h; cases h) h))) hx, ExA.keep _ _ _ _ (fun x ys h => u x _ h) hb⟩
  · have e1 : rdWord ["where"] ps j = .error j := if_neg (fun z => hw (List.mem_singleton.mp z))
    rw [e1] at eAll
    exact (qe j eAll).at b1
theorem sc_rmap : FnScope ["line", "inputs"] ["line"] (defScope s_read_map) := ⟨rfl, rfl, rfl, by decide +kernel, rfl, by decide +kernel, by decide +kernel⟩
theorem ok_rmap {g C CL fr : Addr} {fd : FuncData} {k : Nat} (F : Fun K "read_map" "read_map" s_read_map g fd) (Z : LnC K CL) (hk6 : 6 ≤ k) (G_in : ReadyX P w K mg base 6 "read_one_input" ["line"] (spRd C CL InAt rdOne)) (G_expect : ReadyM P w K mg base CL 4 "expect" ["self", "word"] (spExpect C CL)) (m_f : mg "read_mapped" = some (.ref fr)) (G_y : ReadyX P w K mg base k "read_list" ["line", "read_one"] (spList C CL fr MapAt rdMapped)) : FnOk P w K mg base (L2.CX P w) (k + 1) g fd ["line"] (spRd C CL (PairAt InAt (ListAt MapAt)) (rdThen rdOne "to" (rdList rdMapped))) := by
  refine F.okX sc_rmap (fun vs H Q E h => ?_) (fun cdv A outer s H vs Q E hr h => ?_)
  · obtain ⟨p, n, ps, i, rfl, _⟩ := h
    rfl
  obtain ⟨p, n, ps, i, rfl, hl, hi, he, hlen, q, qe⟩ := h
  have nd := sc_rmap.nd
  have hrk : Room k _ := hr
  have hr6 : Room 6 _ := hrk.mono hk6
  have hr4 : Room 4 _ := hrk.mono (by omega)
  have z2 : 2 ≤ sizeLine := by decide
  refine ⟨_, pss_cons (ps_set (i := 1) nd rfl (.inl rfl) (pe_fnX G_in hr6 (takes_of rfl rfl rfl rfl) (pa_cons (pv 0) pa_nil)))
      (pss_cons (ps_expr (pe_m G_expect Z.cls hr4 (onward (takes_of rfl rfl rfl rfl)) (pv 0) (pa_cons pe_str pa_nil)))
      (pss_one (ps_ret (pe_tup (pa_cons (pv 1) (pa_cons (pe_fnX G_y hrk (takes_of rfl rfl rfl rfl) (pa_cons (pv 0) (pa_cons (pe_glob (v := .ref fr) rfl m_f rfl) pa_nil))) pa_nil)))))), ?_⟩
  have eAll : rdThen rdOne "to" (rdList rdMapped) ps i = thenA (rdOne ps i) fun a j => thenA (rdWord ["to"] ps j) fun _ j2 => thenA ((rdList rdMapped) ps j2) fun b k => .ok ((a, b), k) := rfl
  refine ⟨_, rfl, p, n, ps, i, rfl, hl, hi, he, hlen, fun ins j hr0 v H1 b1 hl1 hx => ?_, fun j hr0 => qe j (by rw [eAll, hr0]; rfl)⟩
  obtain ⟨f1, f2⟩ := one_fine ps he i hi ins j hr0
  rw [hr0] at eAll
  change rdThen rdOne "to" (rdList rdMapped) ps i = thenA (rdWord ["to"] ps j) fun _ j2 => thenA ((rdList rdMapped) ps j2) fun b k => .ok ((ins, b), k) at eAll
  obtain ⟨dx, L, as, h1, _⟩ := id hl1
  refine ⟨_, rfl, p, dx, _, rfl, h1, rfl, p, n, ps, j, _, rfl, hl1, f2, he, fun hw H2 b2 hl2 => ?_, fun hw => ?_⟩
  · have e1 : rdWord ["to"] ps j = .ok (ownW ps j, j + 1) := if_pos (by rw [hw]; exact List.mem_cons_self)
    rw [e1] at eAll
    change rdThen rdOne "to" (rdList rdMapped) ps i = thenA ((rdList rdMapped) ps (j + 1)) fun b k => .ok ((ins, b), k) at eAll
    have hj1 := he.next f2 (own_pos (by rw [hw]; decide +kernel))
    obtain ⟨dx2, L2', as2, h2, _⟩ := id hl2
    refine ⟨_, rfl, _, rfl, p, rfl, p, n, ps, j + 1, rfl, hl2, hj1, he, hlen, fun b k hrb v2 H3 b3 hl3 hb => ⟨z2, fun t ht => ?_⟩, fun k hrb => (qe k (by rw [eAll, hrb]; rfl)).but (b1.trans b2)⟩
    have u := same_upd (o := .tup [v, v2]) ht
    exact q (ins, b) k (by rw [eAll, hrb]; rfl) (.ref t) _ (((b1.trans b2).trans b3).trans (sameL u)) (hl3.keep u) ⟨t, v, v2, rfl, upd_same, InAt.keep _ _ _ _ (fun x ys h => u x _ (b3.b x _ (fun zz => by rw [zz, h1] at h; cases h) (b2.b x _ (fun zz => by rw [zz, h1] at h; cases h) h))) hx, (ListAt.keep MapAt.keep) _ _ _ _ (fun x ys h => u x _ h) hb⟩
  · have e1 : rdWord ["to"] ps j = .error j := if_neg (fun z => hw (List.mem_singleton.mp z))
    rw [e1] at eAll
    exact (qe j eAll).at b1
theorem sc_rjoin : FnScope ["line", "inputs"] ["line"] (defScope s_read_join) := ⟨rfl, rfl, rfl, by decide +kernel, rfl, by decide +kernel, by decide +kernel⟩
theorem ok_rjoin {g C CL fr : Addr} {fd : FuncData} {k : Nat} (F : Fun K "read_join" "read_join" s_read_join g fd) (Z : LnC K CL) (hk6 : 6 ≤ k) (G_in : ReadyX P w K mg base 6 "read_two_inputs" ["line"] (spRd C CL InAt rdTwoIn)) (G_expect : ReadyM P w K mg base CL 4 "expect" ["self", "word"] (spExpect C CL)) (m_f : mg "read_name" = some (.ref fr)) (G_y : ReadyX P w K mg base k "read_list" ["line", "read_one"] (spList C CL fr StrAt rdName)) : FnOk P w K mg base (L2.CX P w) (k + 1) g fd ["line"] (spRd C CL (PairAt InAt (ListAt StrAt)) (rdThen rdTwoIn "by" (rdList rdName))) := by
  refine F.okX sc_rjoin (fun vs H Q E h => ?_) (fun cdv A outer s H vs Q E hr h => ?_)
  · obtain ⟨p, n, ps, i, rfl, _⟩ := h
    rfl
  obtain ⟨p, n, ps, i, rfl, hl, hi, he, hlen, q, qe⟩ := h
  have nd := sc_rjoin.nd
  have hrk : Room k _ := hr
  have hr6 : Room 6 _ := hrk.mono hk6
  have hr4 : Room 4 _ := hrk.mono (by omega)
  have z2 : 2 ≤ sizeLine := by decide
  refine ⟨_, pss_cons (ps_set (i := 1) nd rfl (.inl rfl) (pe_fnX G_in hr6 (takes_of rfl rfl rfl rfl) (pa_cons (pv 0) pa_nil)))
      (pss_cons (ps_expr (pe_m G_expect Z.cls hr4 (onward (takes_of rfl rfl rfl rfl)) (pv 0) (pa_cons pe_str pa_nil)))
      (pss_one (ps_ret (pe_tup (pa_cons (pv 1) (pa_cons (pe_fnX G_y hrk (takes_of rfl rfl rfl rfl) (pa_cons (pv 0) (pa_cons (pe_glob (v := .ref fr) rfl m_f rfl) pa_nil))) pa_nil)))))), ?_⟩
  have eAll : rdThen rdTwoIn "by" (rdList rdName) ps i = thenA (rdTwoIn ps i) fun a j => thenA (rdWord ["by"] ps j) fun _ j2 => thenA ((rdList rdName) ps j2) fun b k => .ok ((a, b), k) := rfl
  refine ⟨_, rfl, p, n, ps, i, rfl, hl, hi, he, hlen, fun ins j hr0 v H1 b1 hl1 hx => ?_, fun j hr0 => qe j (by rw [eAll, hr0]; rfl)⟩
  obtain ⟨f1, f2⟩ := twoIn_fine ps he i hi ins j hr0
  rw [hr0] at eAll
  change rdThen rdTwoIn "by" (rdList rdName) ps i = thenA (rdWord ["by"] ps j) fun _ j2 => thenA ((rdList rdName) ps j2) fun b k => .ok ((ins, b), k) at eAll
  obtain ⟨dx, L, as, h1, _⟩ := id hl1
  refine ⟨_, rfl, p, dx, _, rfl, h1, rfl, p, n, ps, j, _, rfl, hl1, f2, he, fun hw H2 b2 hl2 => ?_, fun hw => ?_⟩
  · have e1 : rdWord ["by"] ps j = .ok (ownW ps j, j + 1) := if_pos (by rw [hw]; exact List.mem_cons_self)
    rw [e1] at eAll
    change rdThen rdTwoIn "by" (rdList rdName) ps i = thenA ((rdList rdName) ps (j + 1)) fun b k => .ok ((ins, b), k) at eAll
    have hj1 := he.next f2 (own_pos (by rw [hw]; decide +kernel))
    obtain ⟨dx2, L2', as2, h2, _⟩ := id hl2
    refine ⟨_, rfl, _, rfl, p, rfl, p, n, ps, j + 1, rfl, hl2, hj1, he, hlen, fun b k hrb v2 H3 b3 hl3 hb => ⟨z2, fun t ht => ?_⟩, fun k hrb => (qe k (by rw [eAll, hrb]; rfl)).but (b1.trans b2)⟩
    have u := same_upd (o := .tup [v, v2]) ht
    exact q (ins, b) k (by rw [eAll, hrb]; rfl) (.ref t) _ (((b1.trans b2).trans b3).trans (sameL u)) (hl3.keep u) ⟨t, v, v2, rfl, upd_same, InAt.keep _ _ _ _ (fun x ys h => u x _ (b3.b x _ (fun zz => by rw [zz, h1] at h; cases h) (b2.b x _ (fun zz => by rw [zz, h1] at h; cases h) h))) hx, (ListAt.keep StrAt.keep) _ _ _ _ (fun x ys h => u x _ h) hb⟩
  · have e1 : rdWord ["by"] ps j = .error j := if_neg (fun z => hw (List.mem_singleton.mp z))
    rw [e1] at eAll
    exact (qe j eAll).at b1
end
end Kx

namespace Kx
open PySem PySem.Spec PyProof.Rows L2 TL
def EmptyAt (H : Hp) (v : V) (_ : Unit) : Prop := ∃ t : Addr, v = .ref t ∧ H t = some (.tup [])
theorem EmptyAt.keep : KeepAt EmptyAt := fun _ _ _ _ h ⟨t, e, q⟩ => ⟨t, e, h _ _ q⟩
def rdUnit {A : Type} (rd : Rdg A) : Rdg (A × Unit) := fun ps i => thenA (rd ps i) fun a j => .ok ((a, ()), j)
theorem unit_fine {A : Type} {rd : Rdg A} (h : FineF rd) : FineF (rdUnit rd) := map_fine h
/-- name ( columns ) -/
def rdHead : Rdg (Str × List (Str × Str)) := fun ps i => thenA (rdThen rdName "(" (rdList (rdTwo ["int", "text"])) ps i) fun x j => thenA (rdWord [")"] ps j) fun _ k => .ok (x, k)
def HeadAt : Hp → V → Str × List (Str × Str) → Prop := PairAt StrAt (ListAt TwoAt)
theorem HeadAt.keep : KeepAt HeadAt := PairAt.keep StrAt.keep (ListAt.keep TwoAt.keep)
section
variable {P : Program} {w : World} {K : PySem.W.Frag} {mg : Str → Option Value} {base : Heap}
theorem sc_rtwoin : FnScope ["line", "one"] ["line"] (defScope s_read_two_inputs) := ⟨rfl, rfl, rfl, by decide +kernel, rfl, by decide +kernel, by decide +kernel⟩
theorem ok_rtwoin {g C CL : Addr} {fd : FuncData} (F : Fun K "read_two_inputs" "read_two_inputs" s_read_two_inputs g fd) (Z : LnC K CL) (G_take : ReadyM P w K mg base CL 3 "take" ["self", "kind"] (spTake C CL)) (G_expect : ReadyM P w K mg base CL 4 "expect" ["self", "word"] (spExpect C CL)) : FnOk P w K mg base (L2.CX P w) 5 g fd ["line"] (spRd C CL InAt rdTwoIn) := by
  refine F.okX sc_rtwoin (fun vs H Q E h => ?_) (fun cdv A outer s H vs Q E hr h => ?_)
  · obtain ⟨p, n, ps, i, rfl, _⟩ := h
    rfl
  obtain ⟨p, n, ps, i, rfl, hl, hi, he, hlen, q, qe⟩ := h
  have nd := sc_rtwoin.nd
  have hr4 : Room 4 _ := hr
  have hr3 : Room 3 _ := hr.mono (by decide)
  have z2 : 2 ≤ sizeLine := by decide
  refine ⟨_, pss_cons (ps_set (i := 1) nd rfl (.inl rfl) (pe_m G_take Z.cls hr3 (onward (takes_of rfl rfl rfl rfl)) (pv 0) (pa_cons pe_str pa_nil)))
      (pss_cons (ps_expr (pe_m G_expect Z.cls hr4 (onward (takes_of rfl rfl rfl rfl)) (pv 0) (pa_cons pe_str pa_nil)))
      (pss_one (ps_ret (pe_tup (pa_cons (pv 1) (pa_cons (pe_m G_take Z.cls hr3 (onward (takes_of rfl rfl rfl rfl)) (pv 0) (pa_cons pe_str pa_nil)) pa_nil)))))), ?_⟩
  obtain ⟨dx, L, as, h1, _⟩ := id hl
  have eAll : rdTwoIn ps i = thenA (thenA (rdName ps i) fun a j => thenA (rdWord [","] ps j) fun _ j2 => thenA (rdName ps j2) fun b k => .ok ((a, b), k)) fun x k => .ok ([x.1, x.2], k) := rfl
  refine ⟨_, rfl, p, dx, _, rfl, h1, rfl, p, n, ps, i, _, rfl, hl, hi, fun hk H1 b1 hl1 => ?_, fun hk => ?_⟩
  · have e1 : rdName ps i = .ok (txt (curP ps i).val, i + 1) := if_pos hk
    rw [e1] at eAll
    have hi1 := he.next hi (by rw [hk]; decide +kernel)
    rw [val_name he hi hk]
    obtain ⟨dx1, L1, as1, h1', _⟩ := id hl1
    refine ⟨_, rfl, p, dx1, _, rfl, h1', rfl, p, n, ps, i + 1, _, rfl, hl1, hi1, he, fun hw H2 b2 hl2 => ?_, fun hw => ?_⟩
    · have e2 : rdWord [","] ps (i + 1) = .ok (ownW ps (i + 1), i + 2) := if_pos (by rw [hw]; exact List.mem_cons_self)
      have hi2 := he.next hi1 (own_pos (by rw [hw]; decide +kernel))
      have e3 : rdTwoIn ps i = thenA (thenA (rdName ps (i + 2)) fun b k => .ok ((txt (curP ps i).val, b), k)) fun x k => .ok ([x.1, x.2], k) := by
        rw [eAll]
        show thenA (thenA (rdWord [","] ps (i + 1)) _) _ = _
        rw [e2]
        rfl
      obtain ⟨dx2, L2', as2, h2, _⟩ := id hl2
      refine ⟨_, rfl, _, rfl, p, dx2, _, rfl, h2, rfl, p, n, ps, i + 2, _, rfl, hl2, hi2, fun hk2 H3 b3 hl3 => ⟨z2, fun t ht => ?_⟩, fun hk2 => ?_⟩
      · have e4 : rdName ps (i + 2) = .ok (txt (curP ps (i + 2)).val, i + 3) := if_pos hk2
        rw [val_name he hi2 hk2]
        have u := same_upd (o := .tup [.str (txt (curP ps i).val), .str (txt (curP ps (i + 2)).val)]) ht
        exact q [txt (curP ps i).val, txt (curP ps (i + 2)).val] (i + 3) (by rw [e3, e4]; rfl) (.ref t) _ (((b1.trans b2).trans b3).trans (sameL u)) (hl3.keep u) ⟨t, _, rfl, upd_same, .cons rfl (.cons rfl .nil)⟩
      · have e4 : rdName ps (i + 2) = .error (i + 2) := if_neg hk2
        exact (qe (i + 2) (by rw [e3, e4]; rfl)).at (b1.trans b2)
    · have e2 : rdWord [","] ps (i + 1) = .error (i + 1) := if_neg (fun z => hw (List.mem_singleton.mp z))
      refine (qe (i + 1) ?_).at b1
      rw [eAll]
      show thenA (thenA (rdWord [","] ps (i + 1)) _) _ = _
      rw [e2]
      rfl
  · have e1 : rdName ps i = .error i := if_neg hk
    exact (qe i (by rw [eAll, e1]; rfl)).at (ButL.refl _ _)
theorem sc_runion : FnScope ["line"] ["line"] (defScope s_read_union) := ⟨rfl, rfl, rfl, by decide +kernel, rfl, by decide +kernel, by decide +kernel⟩
theorem ok_runion {g C CL : Addr} {fd : FuncData} (F : Fun K "read_union" "read_union" s_read_union g fd) (G_in : ReadyX P w K mg base 6 "read_two_inputs" ["line"] (spRd C CL InAt rdTwoIn)) : FnOk P w K mg base (L2.CX P w) 7 g fd ["line"] (spRd C CL (PairAt InAt EmptyAt) (rdUnit rdTwoIn)) := by
  refine F.okX sc_runion (fun vs H Q E h => ?_) (fun cdv A outer s H vs Q E hr h => ?_)
  · obtain ⟨p, n, ps, i, rfl, _⟩ := h
    rfl
  obtain ⟨p, n, ps, i, rfl, hl, hi, he, hlen, q, qe⟩ := h
  have hr6 : Room 6 _ := hr
  refine ⟨_, pss_one (ps_ret (pe_tup (pa_cons (pe_fnX G_in hr6 (takes_of rfl rfl rfl rfl) (pa_cons (pv 0) pa_nil)) (pa_cons (pe_tup pa_nil) pa_nil)))), ?_⟩
  have eAll : rdUnit rdTwoIn ps i = thenA (rdTwoIn ps i) fun a j => .ok ((a, ()), j) := rfl
  refine ⟨_, rfl, p, n, ps, i, rfl, hl, hi, he, hlen, fun ins j hr0 v H1 b1 hl1 hx => ⟨by show 0 ≤ sizeLine; decide, fun e0 he0 => ⟨by show 2 ≤ sizeLine; decide, fun t ht => ?_⟩⟩, fun j hr0 => qe j (by rw [eAll, hr0]; rfl)⟩
  have u1 := same_upd (o := .tup []) he0
  have u2 := same_upd (o := .tup [v, .ref e0]) ht
  have u := u1.trans u2
  exact q (ins, ()) j (by rw [eAll, hr0]; rfl) (.ref t) _ (b1.trans (sameL u)) (hl1.keep u) ⟨t, v, .ref e0, rfl, upd_same, InAt.keep _ _ _ _ (fun x ys h => u x _ h) hx, e0, rfl, u2 _ _ upd_same⟩
theorem sc_runlike : FnScope ["line"] ["line"] (defScope s_read_unlike) := ⟨rfl, rfl, rfl, by decide +kernel, rfl, by decide +kernel, by decide +kernel⟩
theorem ok_runlike {g C CL : Addr} {fd : FuncData} (F : Fun K "read_unlike" "read_unlike" s_read_unlike g fd) (G_in : ReadyX P w K mg base 6 "read_one_input" ["line"] (spRd C CL InAt rdOne)) : FnOk P w K mg base (L2.CX P w) 7 g fd ["line"] (spRd C CL (PairAt InAt EmptyAt) (rdUnit rdOne)) := by
  refine F.okX sc_runlike (fun vs H Q E h => ?_) (fun cdv A outer s H vs Q E hr h => ?_)
  · obtain ⟨p, n, ps, i, rfl, _⟩ := h
    rfl
  obtain ⟨p, n, ps, i, rfl, hl, hi, he, hlen, q, qe⟩ := h
  have hr6 : Room 6 _ := hr
  refine ⟨_, pss_one (ps_ret (pe_tup (pa_cons (pe_fnX G_in hr6 (takes_of rfl rfl rfl rfl) (pa_cons (pv 0) pa_nil)) (pa_cons (pe_tup pa_nil) pa_nil)))), ?_⟩
  have eAll : rdUnit rdOne ps i = thenA (rdOne ps i) fun a j => .ok ((a, ()), j) := rfl
  refine ⟨_, rfl, p, n, ps, i, rfl, hl, hi, he, hlen, fun ins j hr0 v H1 b1 hl1 hx => ⟨by show 0 ≤ sizeLine; decide, fun e0 he0 => ⟨by show 2 ≤ sizeLine; decide, fun t ht => ?_⟩⟩, fun j hr0 => qe j (by rw [eAll, hr0]; rfl)⟩
  have u1 := same_upd (o := .tup []) he0
  have u2 := same_upd (o := .tup [v, .ref e0]) ht
  have u := u1.trans u2
  exact q (ins, ()) j (by rw [eAll, hr0]; rfl) (.ref t) _ (b1.trans (sameL u)) (hl1.keep u) ⟨t, v, .ref e0, rfl, upd_same, InAt.keep _ _ _ _ (fun x ys h => u x _ h) hx, e0, rfl, u2 _ _ upd_same⟩
end
end Kx

namespace Kx
open PySem PySem.Spec PyProof.Rows L2 TL
theorem after_fine {A B C : Type} {rd : Rdg A} {w : Str} {g : A → C} (hw : w ≠ "") (h1 : FineF rd) : FineF (fun ps i => thenA (rd ps i) fun a j => thenA (rdWord [w] ps j) fun _ k => .ok (g a, k)) := fun ps he i hi x j h => by
  cases e1 : rd ps i with
  | error m =>
    dsimp only at h
    rw [e1] at h
    cases h
  | ok t =>
    obtain ⟨a, m⟩ := t
    dsimp only at h
    rw [e1] at h
    obtain ⟨k1, k2⟩ := h1 ps he i hi a m e1
    change thenA (rdWord [w] ps m) _ = _ at h
    cases e2 : rdWord [w] ps m with
    | error m2 =>
      rw [e2] at h
      cases h
    | ok t2 =>
      obtain ⟨b, m2⟩ := t2
      rw [e2] at h
      cases h
      obtain ⟨l1, l2⟩ := word_fine (fun z => hw (List.mem_singleton.mp z).symm) ps he m k2 b j e2
      exact ⟨by omega, l2⟩
theorem head_fine : FineF rdHead := after_fine (C := Str × List (Str × Str)) (g := id) (B := Unit) (by decide +kernel) (then_fine (by decide +kernel) name_fine (list_fine (two_fine (by decide +kernel))))
section
variable {P : Program} {w : World} {K : PySem.W.Frag} {mg : Str → Option Value} {base : Heap}
theorem sc_rhead : FnScope ["line", "name", "columns"] ["line"] (defScope s_read_table_head) := ⟨rfl, rfl, rfl, by decide +kernel, rfl, by decide +kernel, by decide +kernel⟩
theorem ok_rhead {g C CL fr : Addr} {fd : FuncData} (F : Fun K "read_table_head" "read_table_head" s_read_table_head g fd) (Z : LnC K CL) (m_f : mg "read_column" = some (.ref fr)) (G_take : ReadyM P w K mg base CL 3 "take" ["self", "kind"] (spTake C CL)) (G_expect : ReadyM P w K mg base CL 4 "expect" ["self", "word"] (spExpect C CL)) (G_y : ReadyX P w K mg base 6 "read_list" ["line", "read_one"] (spList C CL fr TwoAt (rdTwo ["int", "text"]))) : FnOk P w K mg base (L2.CX P w) 7 g fd ["line"] (spRd C CL HeadAt rdHead) := by
  refine F.okX sc_rhead (fun vs H Q E h => ?_) (fun cdv A outer s H vs Q E hr h => ?_)
  · obtain ⟨p, n, ps, i, rfl, _⟩ := h
    rfl
  obtain ⟨p, n, ps, i, rfl, hl, hi, he, hlen, q, qe⟩ := h
  have nd := sc_rhead.nd
  have hr6 : Room 6 _ := hr
  have hr4 : Room 4 _ := hr.mono (by decide)
  have hr3 : Room 3 _ := hr.mono (by decide)
  have z2 : 2 ≤ sizeLine := by decide
  refine ⟨_, pss_cons (ps_set (i := 1) nd rfl (.inl rfl) (pe_m G_take Z.cls hr3 (onward (takes_of rfl rfl rfl rfl)) (pv 0) (pa_cons pe_str pa_nil)))
      (pss_cons (ps_expr (pe_m G_expect Z.cls hr4 (onward (takes_of rfl rfl rfl rfl)) (pv 0) (pa_cons pe_str pa_nil)))
      (pss_cons (ps_set (i := 2) nd rfl (.inl rfl) (pe_fnX G_y hr6 (takes_of rfl rfl rfl rfl) (pa_cons (pv 0) (pa_cons (pe_glob (v := .ref fr) rfl m_f rfl) pa_nil))))
      (pss_cons (ps_expr (pe_m G_expect Z.cls hr4 (onward (takes_of rfl rfl rfl rfl)) (pv 0) (pa_cons pe_str pa_nil)))
      (pss_one (ps_ret (pe_tup (pa_cons (pv 1) (pa_cons (pv 2) pa_nil)))))))), ?_⟩
  obtain ⟨dx, L, as, h1, _⟩ := id hl
  have eAll : rdHead ps i = thenA (thenA (rdName ps i) fun a j => thenA (rdWord ["("] ps j) fun _ j2 => thenA (rdList (rdTwo ["int", "text"]) ps j2) fun b k => .ok ((a, b), k)) fun x j => thenA (rdWord [")"] ps j) fun _ k => .ok (x, k) := rfl
  refine ⟨_, rfl, p, dx, _, rfl, h1, rfl, p, n, ps, i, _, rfl, hl, hi, fun hk H1 b1 hl1 => ?_, fun hk => ?_⟩
  · have e1 : rdName ps i = .ok (txt (curP ps i).val, i + 1) := if_pos hk
    rw [e1] at eAll
    have hi1 := he.next hi (by rw [hk]; decide +kernel)
    rw [val_name he hi hk]
    obtain ⟨dx1, L1, as1, h1', _⟩ := id hl1
    generalize txt (curP ps i).val = nm at eAll ⊢
    refine ⟨_, rfl, p, dx1, _, rfl, h1', rfl, p, n, ps, i + 1, _, rfl, hl1, hi1, he, fun hw H2 b2 hl2 => ?_, fun hw => ?_⟩
    · have e2 : rdWord ["("] ps (i + 1) = .ok (ownW ps (i + 1), i + 2) := if_pos (by rw [hw]; exact List.mem_cons_self)
      have hi2 := he.next hi1 (own_pos (by rw [hw]; decide +kernel))
      have e3 : rdHead ps i = thenA (thenA (rdList (rdTwo ["int", "text"]) ps (i + 2)) fun b k => .ok ((nm, b), k)) fun x j => thenA (rdWord [")"] ps j) fun _ k => .ok (x, k) := by
        rw [eAll]
        show thenA (thenA (rdWord ["("] ps (i + 1)) _) _ = _
        rw [e2]
        rfl
      refine ⟨_, rfl, p, rfl, p, n, ps, i + 2, rfl, hl2, hi2, he, hlen, fun cs j hrc v H3 b3 hl3 hc => ?_, fun j hrc => (qe j (by rw [e3, hrc]; rfl)).but (b1.trans b2)⟩
      obtain ⟨f1, f2⟩ := list_fine (two_fine (by decide +kernel)) ps he (i + 2) hi2 cs j hrc
      rw [hrc] at e3
      change rdHead ps i = thenA (rdWord [")"] ps j) fun _ k => .ok ((nm, cs), k) at e3
      obtain ⟨dx3, L3, as3, h3, _⟩ := id hl3
      refine ⟨_, rfl, p, dx3, _, rfl, h3, rfl, p, n, ps, j, _, rfl, hl3, f2, he, fun hw2 H4 b4 hl4 => ?_, fun hw2 => ?_⟩
      · have e4 : rdWord [")"] ps j = .ok (ownW ps j, j + 1) := if_pos (by rw [hw2]; exact List.mem_cons_self)
        refine ⟨_, rfl, _, rfl, z2, fun t ht => ?_⟩
        have u := same_upd (o := .tup [.str nm, v]) ht
        exact q (nm, cs) (j + 1) (by rw [e3, e4]; rfl) (.ref t) _ ((((b1.trans b2).trans b3).trans b4).trans (sameL u)) (hl4.keep u) ⟨t, .str nm, v, rfl, upd_same, rfl, ListAt.keep TwoAt.keep _ _ _ _ (fun x ys h => u x _ (b4.b x _ (fun zz => by rw [zz, h3] at h; cases h) h)) hc⟩
      · have e4 : rdWord [")"] ps j = .error j := if_neg (fun z => hw2 (List.mem_singleton.mp z))
        exact (qe j (by rw [e3, e4]; rfl)).at ((b1.trans b2).trans b3)
    · have e2 : rdWord ["("] ps (i + 1) = .error (i + 1) := if_neg (fun z => hw (List.mem_singleton.mp z))
      refine (qe (i + 1) ?_).at b1
      rw [eAll]
      show thenA (thenA (rdWord ["("] ps (i + 1)) _) _ = _
      rw [e2]
      rfl
  · have e1 : rdName ps i = .error i := if_neg hk
    exact (qe i (by rw [eAll, e1]; rfl)).at (ButL.refl _ _)
end
end Kx

namespace Kx
open PySem PySem.Spec PyProof.Rows L2 TL
def rdNum : Rdg Nat := fun ps i => if (curP ps i).kind = "number" then .ok ((match (curP ps i).val with
  | .nm n => n
  | .tx _ => 0), i + 1) else .error i
def IntAt (_ : Hp) (v : V) (n : Nat) : Prop := v = .int (n : Int)
theorem IntAt.keep : KeepAt IntAt := fun _ _ _ _ _ h => h
theorem num_fine : FineF rdNum := fun ps he i hi a j h => by
  unfold rdNum at h
  by_cases c : (curP ps i).kind = "number"
  · rw [if_pos c] at h
    cases h
    exact ⟨Nat.lt_succ_self _, he.next hi (by rw [c]; decide +kernel)⟩
  · rw [if_neg c] at h
    cases h
def rdWays : Rdg (List (Str × Str)) := rdList (rdTwo ["up", "down"])
def rdSort : Rdg (List Str × List (Str × Str) × Nat) := fun ps i => thenA (rdThen rdOne "by" rdWays ps i) fun x j => thenA (rdWord ["first"] ps j) fun _ j2 => thenA (rdNum ps j2) fun m k => .ok ((x.1, x.2, m), k)
def SortAt : Hp → V → List Str × List (Str × Str) × Nat → Prop := PairAt InAt (PairAt (ListAt TwoAt) IntAt)
theorem SortAt.keep : KeepAt SortAt := PairAt.keep InAt.keep (PairAt.keep (ListAt.keep TwoAt.keep) IntAt.keep)
section
variable {P : Program} {w : World} {K : PySem.W.Frag} {mg : Str → Option Value} {base : Heap}
theorem sc_rsort : FnScope ["line", "inputs", "order"] ["line"] (defScope s_read_sort) := ⟨rfl, rfl, rfl, by decide +kernel, rfl, by decide +kernel, by decide +kernel⟩
theorem ok_rsort {g C CL fr : Addr} {fd : FuncData} (F : Fun K "read_sort" "read_sort" s_read_sort g fd) (Z : LnC K CL) (m_f : mg "read_sorted" = some (.ref fr)) (G_in : ReadyX P w K mg base 6 "read_one_input" ["line"] (spRd C CL InAt rdOne)) (G_take : ReadyM P w K mg base CL 3 "take" ["self", "kind"] (spTake C CL)) (G_expect : ReadyM P w K mg base CL 4 "expect" ["self", "word"] (spExpect C CL)) (G_y : ReadyX P w K mg base 6 "read_list" ["line", "read_one"] (spList C CL fr TwoAt (rdTwo ["up", "down"]))) : FnOk P w K mg base (L2.CX P w) 7 g fd ["line"] (spRd C CL SortAt rdSort) := by
  refine F.okX sc_rsort (fun vs H Q E h => ?_) (fun cdv A outer s H vs Q E hr h => ?_)
  · obtain ⟨p, n, ps, i, rfl, _⟩ := h
    rfl
  obtain ⟨p, n, ps, i, rfl, hl, hi, he, hlen, q, qe⟩ := h
  have nd := sc_rsort.nd
  have hr6 : Room 6 _ := hr
  have hr4 : Room 4 _ := hr.mono (by decide)
  have hr3 : Room 3 _ := hr.mono (by decide)
  have z2 : 2 ≤ sizeLine := by decide
  refine ⟨_, pss_cons (ps_set (i := 1) nd rfl (.inl rfl) (pe_fnX G_in hr6 (takes_of rfl rfl rfl rfl) (pa_cons (pv 0) pa_nil)))
      (pss_cons (ps_expr (pe_m G_expect Z.cls hr4 (onward (takes_of rfl rfl rfl rfl)) (pv 0) (pa_cons pe_str pa_nil)))
      (pss_cons (ps_set (i := 2) nd rfl (.inl rfl) (pe_fnX G_y hr6 (takes_of rfl rfl rfl rfl) (pa_cons (pv 0) (pa_cons (pe_glob (v := .ref fr) rfl m_f rfl) pa_nil))))
      (pss_cons (ps_expr (pe_m G_expect Z.cls hr4 (onward (takes_of rfl rfl rfl rfl)) (pv 0) (pa_cons pe_str pa_nil)))
      (pss_one (ps_ret (pe_tup (pa_cons (pv 1) (pa_cons (pe_tup (pa_cons (pv 2) (pa_cons (pe_m G_take Z.cls hr3 (onward (takes_of rfl rfl rfl rfl)) (pv 0) (pa_cons pe_str pa_nil)) pa_nil))) pa_nil)))))))), ?_⟩
  have eAll : rdSort ps i = thenA (thenA (rdOne ps i) fun a j => thenA (rdWord ["by"] ps j) fun _ j2 => thenA (rdWays ps j2) fun b k => .ok ((a, b), k)) fun x j => thenA (rdWord ["first"] ps j) fun _ j2 => thenA (rdNum ps j2) fun m k => .ok ((x.1, x.2, m), k) := rfl
  refine ⟨_, rfl, p, n, ps, i, rfl, hl, hi, he, hlen, fun ins j hr0 v H1 b1 hl1 hx => ?_, fun j hr0 => qe j (by rw [eAll, hr0]; rfl)⟩
  obtain ⟨f1, f2⟩ := one_fine ps he i hi ins j hr0
  rw [hr0] at eAll
  obtain ⟨dx1, L1, as1, h1, _⟩ := id hl1
  refine ⟨_, rfl, p, dx1, _, rfl, h1, rfl, p, n, ps, j, _, rfl, hl1, f2, he, fun hw H2 b2 hl2 => ?_, fun hw => ?_⟩
  · have e2 : rdWord ["by"] ps j = .ok (ownW ps j, j + 1) := if_pos (by rw [hw]; exact List.mem_cons_self)
    have hj1 := he.next f2 (own_pos (by rw [hw]; decide +kernel))
    have e3 : rdSort ps i = thenA (thenA (rdWays ps (j + 1)) fun b k => .ok ((ins, b), k)) fun x j => thenA (rdWord ["first"] ps j) fun _ j2 => thenA (rdNum ps j2) fun m k => .ok ((x.1, x.2, m), k) := by
      rw [eAll]
      show thenA (thenA (rdWord ["by"] ps j) _) _ = _
      rw [e2]
      rfl
    refine ⟨_, rfl, p, rfl, p, n, ps, j + 1, rfl, hl2, hj1, he, hlen, fun cs k hrc v2 H3 b3 hl3 hc => ?_, fun k hrc => (qe k (by rw [e3, show rdWays ps (j + 1) = .error k from hrc]; rfl)).but (b1.trans b2)⟩
    obtain ⟨g1, g2⟩ := list_fine (two_fine (by decide +kernel)) ps he (j + 1) hj1 cs k hrc
    rw [show rdWays ps (j + 1) = .ok (cs, k) from hrc] at e3
    change rdSort ps i = thenA (rdWord ["first"] ps k) fun _ j2 => thenA (rdNum ps j2) fun m k => .ok ((ins, cs, m), k) at e3
    obtain ⟨dx2, L2', as2, h2, _⟩ := id hl2
    obtain ⟨dx3, L3, as3, h3, _⟩ := id hl3
    refine ⟨_, rfl, p, dx3, _, rfl, h3, rfl, p, n, ps, k, _, rfl, hl3, g2, he, fun hw2 H4 b4 hl4 => ?_, fun hw2 => ?_⟩
    · have e4 : rdWord ["first"] ps k = .ok (ownW ps k, k + 1) := if_pos (by rw [hw2]; exact List.mem_cons_self)
      rw [e4] at e3
      change rdSort ps i = thenA (rdNum ps (k + 1)) fun m k => .ok ((ins, cs, m), k) at e3
      have hk1 := he.next g2 (own_pos (by rw [hw2]; decide +kernel))
      obtain ⟨dx4, L4, as4, h4, _⟩ := id hl4
      refine ⟨_, rfl, _, rfl, _, rfl, p, dx4, _, rfl, h4, rfl, p, n, ps, k + 1, _, rfl, hl4, hk1, fun hk H5 b5 hl5 => ⟨z2, fun t2 ht2 => ⟨z2, fun t ht => ?_⟩⟩, fun hk => ?_⟩
      · obtain ⟨m, hv⟩ := (cur_ok he hk1 (by rw [hk]; decide +kernel)).num hk
        have e5 : rdNum ps (k + 1) = .ok (m, k + 2) := by
          unfold rdNum
          rw [if_pos hk, hv]
        rw [hv] at ht ⊢
        have u1 := same_upd (o := .tup [v2, pvV (.nm m)]) ht2
        have u2 := same_upd (o := .tup [v, .ref t2]) ht
        have u := u1.trans u2
        have kA : ∀ (x : Addr) (ys : List V), H3 x = some (.tup ys) → upd (upd H5 t2 (.tup [v2, pvV (.nm m)])) t (.tup [v, .ref t2]) x = some (.tup ys) := fun x ys h => u x _ (b5.b x _ (fun zz => by rw [zz, h3] at h; cases h) (b4.b x _ (fun zz => by rw [zz, h3] at h; cases h) h))
        have kB : ∀ (x : Addr) (ys : List V), H1 x = some (.tup ys) → H3 x = some (.tup ys) := fun x ys h => b3.b x _ (fun zz => by rw [zz, h1] at h; cases h) (b2.b x _ (fun zz => by rw [zz, h1] at h; cases h) h)
        exact q (ins, cs, m) (k + 2) (by rw [e3, e5]; rfl) (.ref t) _ (((((b1.trans b2).trans b3).trans b4).trans b5).trans (sameL u)) (hl5.keep u) ⟨t, v, .ref t2, rfl, upd_same, InAt.keep _ _ _ _ (fun x ys h => kA _ _ (kB _ _ h)) hx, t2, v2, _, rfl, u2 _ _ upd_same, ListAt.keep TwoAt.keep _ _ _ _ kA hc, rfl⟩
      · have e5 : rdNum ps (k + 1) = .error (k + 1) := if_neg hk
        exact (qe (k + 1) (by rw [e3, e5]; rfl)).at (((b1.trans b2).trans b3).trans b4)
    · have e4 : rdWord ["first"] ps k = .error k := if_neg (fun z => hw2 (List.mem_singleton.mp z))
      exact (qe k (by rw [e3, e4]; rfl)).at ((b1.trans b2).trans b3)
  · have e2 : rdWord ["by"] ps j = .error j := if_neg (fun z => hw (List.mem_singleton.mp z))
    refine (qe j ?_).at b1
    rw [eAll]
    show thenA (thenA (rdWord ["by"] ps j) _) _ = _
    rw [e2]
    rfl
end
end Kx

namespace Kx
open PySem PySem.Spec PyProof.Rows L2 TL
def rdKeys : Rdg (List Str) := fun ps i => if ownW ps i = "by" then rdList rdName ps (i + 1) else .ok ([], i)
def rdFolds : Rdg (List (Str × Option Ex × Str)) := rdList rdFolded
def rdFoldAll : Rdg (List Str × List Str × List (Str × Option Ex × Str)) := fun ps i => thenA (rdOne ps i) fun ins j => thenA (rdKeys ps j) fun ks j2 => thenA (rdWord [":"] ps j2) fun _ j3 => thenA (rdFolds ps j3) fun fs k => .ok ((ins, ks, fs), k)
def FoldAllAt : Hp → V → List Str × List Str × List (Str × Option Ex × Str) → Prop := PairAt InAt (PairAt (ListAt StrAt) (ListAt FoldAt))
theorem FoldAllAt.keep : KeepAt FoldAllAt := PairAt.keep InAt.keep (PairAt.keep (ListAt.keep StrAt.keep) (ListAt.keep FoldAt.keep))
section
variable {P : Program} {w : World} {K : PySem.W.Frag} {mg : Str → Option Value} {base : Heap}
theorem sc_rfold : FnScope ["line", "inputs", "keys"] ["line"] (defScope s_read_fold) := ⟨rfl, rfl, rfl, by decide +kernel, rfl, by decide +kernel, by decide +kernel⟩
theorem ok_rfold {g C CL fn ff : Addr} {fd : FuncData} {k : Nat} (F : Fun K "read_fold" "read_fold" s_read_fold g fd) (Z : LnC K CL) (hk6 : 6 ≤ k) (m_n : mg "read_name" = some (.ref fn)) (m_f : mg "read_folded" = some (.ref ff)) (G_in : ReadyX P w K mg base 6 "read_one_input" ["line"] (spRd C CL InAt rdOne)) (G_took : ReadyM P w K mg base CL 3 "took" ["self", "word"] (spTook CL)) (G_expect : ReadyM P w K mg base CL 4 "expect" ["self", "word"] (spExpect C CL)) (G_n : ReadyX P w K mg base 6 "read_list" ["line", "read_one"] (spList C CL fn StrAt rdName)) (G_y : ReadyX P w K mg base k "read_list" ["line", "read_one"] (spList C CL ff FoldAt rdFolded)) : FnOk P w K mg base (L2.CX P w) (k + 1) g fd ["line"] (spRd C CL FoldAllAt rdFoldAll) := by
  refine F.okX sc_rfold (fun vs H Q E h => ?_) (fun cdv A outer s H vs Q E hr h => ?_)
  · obtain ⟨p, n, ps, i, rfl, _⟩ := h
    rfl
  obtain ⟨p, n, ps, i, rfl, hl, hi, he, hlen, q, qe⟩ := h
  have nd := sc_rfold.nd
  have hrk : Room k _ := hr
  have hr6 : Room 6 _ := hrk.mono hk6
  have hr4 : Room 4 _ := hrk.mono (by omega)
  have hr3 : Room 3 _ := hrk.mono (by omega)
  have z2 : 2 ≤ sizeLine := by decide
  refine ⟨_, pss_cons (ps_set (i := 1) nd rfl (.inl rfl) (pe_fnX G_in hr6 (takes_of rfl rfl rfl rfl) (pa_cons (pv 0) pa_nil)))
      (pss_cons (ps_set (i := 2) nd rfl (.inl rfl) (pe_tup pa_nil))
      (C8.pss_cut (ps_if (pt_val (pe_m G_took Z.cls hr3 noE (pv 0) (pa_cons pe_str pa_nil))) (pss_one (ps_set (i := 2) nd rfl (.inl rfl) (pe_fnX G_n hr6 (takes_of rfl rfl rfl rfl) (pa_cons (pv 0) (pa_cons (pe_glob (v := .ref fn) rfl m_n rfl) pa_nil))))) (pss_nil))
      (pss_cons (ps_expr (pe_m G_expect Z.cls hr4 (onward (takes_of rfl rfl rfl rfl)) (pv 0) (pa_cons pe_str pa_nil)))
      (pss_one (ps_ret (pe_tup (pa_cons (pv 1) (pa_cons (pe_tup (pa_cons (pv 2) (pa_cons (pe_fnX G_y hrk (takes_of rfl rfl rfl rfl) (pa_cons (pv 0) (pa_cons (pe_glob (v := .ref ff) rfl m_f rfl) pa_nil))) pa_nil))) pa_nil)))))))), ?_⟩
  have eAll : rdFoldAll ps i = thenA (rdOne ps i) fun ins j => thenA (rdKeys ps j) fun ks j2 => thenA (rdWord [":"] ps j2) fun _ j3 => thenA (rdFolds ps j3) fun fs k => .ok ((ins, ks, fs), k) := rfl
  refine ⟨_, rfl, p, n, ps, i, rfl, hl, hi, he, hlen, fun ins j hr0 v H1 b1 hl1 hx => ?_, fun j hr0 => qe j (by rw [eAll, hr0]; rfl)⟩
  obtain ⟨f1, f2⟩ := one_fine ps he i hi ins j hr0
  rw [hr0] at eAll
  change rdFoldAll ps i = thenA (rdKeys ps j) fun ks j2 => thenA (rdWord [":"] ps j2) fun _ j3 => thenA (rdFolds ps j3) fun fs k => .ok ((ins, ks, fs), k) at eAll
  refine ⟨by show 0 ≤ sizeLine; decide, fun e0 he0 => ?_⟩
  have u0 := same_upd (o := .tup []) he0
  have hl2 := hl1.keep u0
  have c1 : ButL p H (upd H1 e0 (.tup [])) := b1.trans (sameL u0)
  have hx2 : InAt (upd H1 e0 (.tup [])) v ins := InAt.keep _ _ _ _ (fun x ys h => u0 x _ h) hx
  have ee : upd H1 e0 (.tup []) e0 = some (.tup []) := upd_same
  generalize upd H1 e0 (.tup []) = H2 at hl2 c1 hx2 ee ⊢
  obtain ⟨dx2, L2', as2, h2, _⟩ := id hl2
  refine ⟨fun σ G => ∃ (ks : List Str) (m : Nat) (kv : V), σ = [some (.ref p), some v, some kv] ∧ ButL p H G ∧ LineAt G CL p n ps m ∧ m < ps.length ∧ InAt G v ins ∧ ListAt StrAt G kv ks ∧ rdKeys ps j = .ok (ks, m), ?_, ?_⟩
  · refine ⟨_, rfl, p, dx2, _, rfl, h2, rfl, p, n, ps, j, _, rfl, hl2, f2, he, fun hw H3 b3 hl3 => ?_, fun hw => ?_⟩
    · have hj1 := he.next f2 (own_pos (by rw [hw]; decide +kernel))
      have e1 : rdKeys ps j = rdList rdName ps (j + 1) := if_pos hw
      obtain ⟨dx3, L3, as3, h3, _⟩ := id hl3
      refine ⟨_, rfl, iteT ⟨_, rfl, p, rfl, p, n, ps, j + 1, rfl, hl3, hj1, he, hlen, fun ks m hrk' kv H4 b4 hl4 hkv => ?_, fun m hrk' => (qe m (by rw [eAll, e1, hrk']; rfl)).but (c1.trans b3)⟩⟩
      obtain ⟨g1, g2⟩ := list_fine name_fine ps he (j + 1) hj1 ks m hrk'
      exact ⟨ks, m, kv, rfl, (c1.trans b3).trans b4, hl4, g2, InAt.keep _ _ _ _ (fun x ys h => b4.b x _ (fun zz => by rw [zz, h2] at h; cases h) (b3.b x _ (fun zz => by rw [zz, h2] at h; cases h) h)) hx2, hkv, e1.trans hrk'⟩
    · exact ⟨_, rfl, iteF ⟨[], j, .ref e0, rfl, c1, hl2, f2, hx2, ⟨e0, [], rfl, ee, .nil⟩, if_neg hw⟩⟩
  · rintro σ G ⟨ks, m, kv, rfl, cG, hlG, hm, hxG, hkG, ek⟩
    rw [ek] at eAll
    change rdFoldAll ps i = thenA (rdWord [":"] ps m) fun _ j3 => thenA (rdFolds ps j3) fun fs k => .ok ((ins, ks, fs), k) at eAll
    obtain ⟨dxG, LG, asG, hG, _⟩ := id hlG
    refine ⟨_, rfl, p, dxG, _, rfl, hG, rfl, p, n, ps, m, _, rfl, hlG, hm, he, fun hw G1 b5 hl5 => ?_, fun hw => ?_⟩
    · have e4 : rdWord [":"] ps m = .ok (ownW ps m, m + 1) := if_pos (by rw [hw]; exact List.mem_cons_self)
      rw [e4] at eAll
      change rdFoldAll ps i = thenA (rdFolds ps (m + 1)) fun fs k => .ok ((ins, ks, fs), k) at eAll
      have hm1 := he.next hm (own_pos (by rw [hw]; decide +kernel))
      refine ⟨_, rfl, _, rfl, _, rfl, p, rfl, p, n, ps, m + 1, rfl, hl5, hm1, he, hlen, fun fs k hrf fv G2 b6 hl6 hf => ⟨z2, fun t2 ht2 => ⟨z2, fun t ht => ?_⟩⟩, fun k hrf => (qe k (by rw [eAll, show rdFolds ps (m + 1) = .error k from hrf]; rfl)).but (cG.trans b5)⟩
      have u1 := same_upd (o := .tup [kv, fv]) ht2
      have u2 := same_upd (o := .tup [v, .ref t2]) ht
      have u := u1.trans u2
      have kA : ∀ (x : Addr) (ys : List V), G x = some (.tup ys) → upd (upd G2 t2 (.tup [kv, fv])) t (.tup [v, .ref t2]) x = some (.tup ys) := fun x ys h => u x _ (b6.b x _ (fun zz => by rw [zz, hG] at h; cases h) (b5.b x _ (fun zz => by rw [zz, hG] at h; cases h) h))
      exact q (ins, ks, fs) k (by rw [eAll, show rdFolds ps (m + 1) = .ok (fs, k) from hrf]; rfl) (.ref t) _ (((cG.trans b5).trans b6).trans (sameL u)) (hl6.keep u) ⟨t, v, .ref t2, rfl, upd_same, InAt.keep _ _ _ _ kA hxG, t2, kv, fv, rfl, u2 _ _ upd_same, ListAt.keep StrAt.keep _ _ _ _ kA hkG, ListAt.keep FoldAt.keep _ _ _ _ (fun x ys h => u x _ h) hf⟩
    · have e4 : rdWord [":"] ps m = .error m := if_neg (fun z => hw (List.mem_singleton.mp z))
      rw [e4] at eAll
      exact (qe m eAll).at cG
end
end Kx

namespace Kx
open PySem PySem.Spec PyProof.Rows L2 TL
abbrev s_read_step : Stmt := topS 55
/-! ### list(d) of a written dict -/
theorem dicW_at {K : PySem.W.Frag} {w : World} {a : Addr} {ks : List Str} (h : He.dicW K a = some (He.keysIn w.params ks)) : ∃ es n, KDict K w a es n ∧ es.toList.map He.keyOf = He.keysIn w.params ks := by
  obtain ⟨es, n, D⟩ := He.dicW_ok h
  refine ⟨es, n, D, ?_⟩
  unfold He.dicW at h
  rw [D.at_] at h
  have e : (decide (("dict" : String) = "dict") && ((#[] : Array (Option Value)).isEmpty && !(a == sysModules))) = true := by
    rw [D.low]
    rfl
  dsimp only at h
  rw [e] at h
  exact Option.some.inj h
theorem pairs_of {P : Program} {w : World} : ∀ {l : List DictEntry} {ks : List Str}, l.map He.keyOf = He.keysIn w.params ks → ∃ kvs : List (Str × Value), Pairs (strKind P w) l kvs ∧ kvs.map (·.1) = ks
  | [], [], _ => ⟨[], .nil, rfl⟩
  | [], _ :: _, h => by cases h
  | _ :: _, [], h => by cases h
  | e :: r, k :: ks, h => by
    have h1 : He.keyOf e :: r.map He.keyOf = some (k, PyData.keyHash w.params k) :: He.keysIn w.params ks := h
    injection h1 with h2 h3
    obtain ⟨kvs, h4, h5⟩ := pairs_of (P := P) (w := w) h3
    refine ⟨(k, e.val) :: kvs, .cons ?_ rfl h4, by rw [List.map_cons, h5]⟩
    unfold He.keyOf at h2
    split at h2
    · rename_i x t q
      have h6 := Option.some.inj h2
      obtain ⟨h7, _⟩ := Prod.mk.inj h6
      subst h7
      rw [q]
      exact strKind_is P w x t
    · cases h2
theorem keysOf_lit {P : Program} {w : World} {es : Array DictEntry} (h : PySem.W.KeysLit w.params es.toList) : KeysOf (strKind P w) es := fun e he => by
  obtain ⟨x, t, e1, e2⟩ := h.all e (Array.mem_toList_iff.mpr he)
  exact ⟨x, by rw [e1]; exact strKind_is P w x t, e2⟩
def rListKd (K : PySem.W.Frag) (w : World) : List V → Hp → VK → Prop := fun xs H Q => ∃ (d : Addr) (ks : List Str), xs = [.ref d] ∧ He.dicW K d = some (He.keysIn w.params ks) ∧ ks.Nodup ∧ ks.length ≤ 1000 ∧ ∀ p, H p = none → Q (.ref p) (upd H p (.lst (ks.map V.str)))
theorem call_list_kd {X : Cx} (hc : X.calm = true) : CallR X (.type "list") (rListKd X.K X.w) := by
  intro pins s σ H xs us Q I r q
  obtain ⟨d, ks, rfl, hd, hn, hz, q⟩ := q
  obtain ⟨u, rfl, rx⟩ := vals1 r
  cases rx
  obtain ⟨es, n, D, he⟩ := dicW_at hd
  obtain ⟨kvs, hp, hk⟩ := pairs_of (P := X.prog) he
  have hlen : kvs.length = ks.length := by rw [← hk, List.length_map]
  have hat : s.heap.DictAt (strKind X.prog X.w) d kvs n := ⟨_, es, I.kIn _ _ D.at_, ⟨rfl, rfl, rfl⟩, rfl, keysOf_lit D.lit, hp, by rw [hk]; exact hn⟩
  have z1 : 1000 ≤ sizeLine := by decide
  refine PySem.W.kdl_call (PySem.W.kdl_dict (knd := strKind X.prog X.w) (kvs := kvs) (ep := n) D.low) (I.ok.hd hc) hat (by rw [hlen]; omega) fun h' tk acc c' hkp hD hacc => ?_
  have hv : Vals (ks.map V.str) acc.toList := vals_of_at (by rw [List.length_map, Array.length_toList]; exact (hacc.1.trans hlen).symm) fun j x u ex eu => by
    obtain ⟨k, y, e1, e2⟩ := hacc.2 j u (by rw [← Array.getElem?_toList]; exact eu)
    have e3 : ks[j]? = some k := by rw [← hk, List.getElem?_map, e1]; rfl
    rw [List.getElem?_map, e3] at ex
    cases ex
    have e4 : Value.isStrOf k u = true := e2
    cases u with
    | str z t =>
      have e5 : k = z := (by simpa [Value.isStrOf] using e4 : z = k).symm
      exact ⟨t, by rw [e5]⟩
    | _ => cases e4
  refine ⟨.ref s.heap.objs.size, upd H s.heap.objs.size (.lst (ks.map V.str)), I.laid (t' := tk) hkp (Nat.le_refl _)
    (show ObjOk X.prog X.w _ _ _ (.lst (ks.map V.str)) from ⟨by rw [List.length_map]; omega, acc.toList, c', hv, by rw [Array.toArray_toList]; exact hD⟩), rfl, q _ (I.hok.fresh (Nat.le_refl _))⟩
/-! ### fineness that was left -/
theorem thenA_fine2 {A B : Type} {rd : Rdg A} {k : A → Nat → Nat → Except Nat (B × Nat)} {ps : List Pc} {i : Nat} {b : B} {j : Nat} {L : Nat} (h1 : ∀ a m, rd ps i = .ok (a, m) → i ≤ m ∧ m < L) (h2 : ∀ a m, i ≤ m → m < L → k a m L = .ok (b, j) → m < j ∧ j < L) (h : thenA (rd ps i) (fun a m => k a m L) = .ok (b, j)) : i < j ∧ j < L := by
  cases hh : rd ps i with
  | error m =>
    rw [hh] at h
    cases h
  | ok t =>
    obtain ⟨a, m⟩ := t
    rw [hh] at h
    obtain ⟨k1, k2⟩ := h1 a m hh
    obtain ⟨m1, m2⟩ := h2 a m k1 k2 h
    exact ⟨by omega, m2⟩
/-- weakly fine: the place doesn't fall -/
def WeakF {A : Type} (rd : Rdg A) : Prop := ∀ ps, EndP ps → ∀ i, i < ps.length → ∀ a j, rd ps i = .ok (a, j) → i ≤ j ∧ j < ps.length
theorem FineF.weak {A : Type} {rd : Rdg A} (h : FineF rd) : WeakF rd := fun ps he i hi a j e => let ⟨h1, h2⟩ := h ps he i hi a j e; ⟨Nat.le_of_lt h1, h2⟩
theorem then_weak {A B : Type} {rd : Rdg A} {k : A → Rdg B} (hr : WeakF rd) (hk : ∀ a, WeakF (k a)) : WeakF (fun ps i => thenA (rd ps i) fun a j => k a ps j) := fun ps he i hi b j h => by
  cases hh : rd ps i with
  | error m =>
    dsimp only at h
    rw [hh] at h
    cases h
  | ok t =>
    obtain ⟨a, m⟩ := t
    dsimp only at h
    rw [hh] at h
    obtain ⟨k1, k2⟩ := hr ps he i hi a m hh
    obtain ⟨m1, m2⟩ := hk a ps he m k2 b j h
    exact ⟨by omega, m2⟩
theorem then_fineW {A B : Type} {rd : Rdg A} {k : A → Rdg B} (hr : FineF rd) (hk : ∀ a, WeakF (k a)) : FineF (fun ps i => thenA (rd ps i) fun a j => k a ps j) := fun ps he i hi b j h => by
  cases hh : rd ps i with
  | error m =>
    dsimp only at h
    rw [hh] at h
    cases h
  | ok t =>
    obtain ⟨a, m⟩ := t
    dsimp only at h
    rw [hh] at h
    obtain ⟨k1, k2⟩ := hr ps he i hi a m hh
    obtain ⟨m1, m2⟩ := hk a ps he m k2 b j h
    exact ⟨by omega, m2⟩
theorem pure_weak {A : Type} {a : A} : WeakF (fun _ i => (.ok (a, i) : Except Nat (A × Nat))) := fun ps he i hi b j h => by
  cases h
  exact ⟨Nat.le_refl _, hi⟩
theorem ways_fine : FineF rdWays := list_fine (two_fine (by decide +kernel))
theorem sort_fine : FineF rdSort := then_fineW (B := List Str × List (Str × Str) × Nat) (rd := rdThen rdOne "by" rdWays) (k := fun x ps j => thenA (rdWord ["first"] ps j) fun _ j2 => thenA (rdNum ps j2) fun m k => .ok ((x.1, x.2, m), k)) (then_fine (by decide +kernel) one_fine ways_fine) fun x => then_weak (B := List Str × List (Str × Str) × Nat) (rd := rdWord ["first"]) (k := fun _ ps j2 => thenA (rdNum ps j2) fun m k => .ok ((x.1, x.2, m), k)) (word_fine (by decide +kernel)).weak fun _ => then_weak (B := List Str × List (Str × Str) × Nat) (rd := rdNum) (k := fun m _ k => .ok ((x.1, x.2, m), k)) num_fine.weak fun m => pure_weak
theorem keys_weak : WeakF rdKeys := fun ps he i hi ks j h => by
  unfold rdKeys at h
  by_cases c : ownW ps i = "by"
  · rw [if_pos c] at h
    have hi1 := he.next hi (own_pos (by rw [c]; decide +kernel))
    obtain ⟨k1, k2⟩ := list_fine name_fine ps he (i + 1) hi1 ks j h
    exact ⟨by omega, k2⟩
  · rw [if_neg c] at h
    cases h
    exact ⟨Nat.le_refl _, hi⟩
abbrev FoldV : Type := List Str × List Str × List (Str × Option Ex × Str)
theorem foldAll_fine : FineF rdFoldAll := then_fineW (B := FoldV) (rd := rdOne) (k := fun ins ps j => thenA (rdKeys ps j) fun ks j2 => thenA (rdWord [":"] ps j2) fun _ j3 => thenA (rdFolds ps j3) fun fs k => .ok ((ins, ks, fs), k)) one_fine fun ins => then_weak (B := FoldV) (rd := rdKeys) (k := fun ks ps j2 => thenA (rdWord [":"] ps j2) fun _ j3 => thenA (rdFolds ps j3) fun fs k => .ok ((ins, ks, fs), k)) keys_weak fun ks => then_weak (B := FoldV) (rd := rdWord [":"]) (k := fun _ ps j3 => thenA (rdFolds ps j3) fun fs k => .ok ((ins, ks, fs), k)) (word_fine (by decide +kernel)).weak fun _ => then_weak (B := FoldV) (rd := rdFolds) (k := fun fs _ k => .ok ((ins, ks, fs), k)) (list_fine folded_fine).weak fun fs => pure_weak
/-! ### steps -/
inductive Dt where
  | filter (e : Ex)
  | map (ms : List (Ex × Str))
  | fold (ks : List Str) (fs : List (Str × Option Ex × Str))
  | join (ks : List Str)
  | union
  | unlike
  | sort (ws : List (Str × Str)) (n : Nat)
def DtAt (H : Hp) (v : V) : Dt → Prop
  | .filter e => ExA H v e
  | .map ms => ListAt MapAt H v ms
  | .fold ks fs => PairAt (ListAt StrAt) (ListAt FoldAt) H v (ks, fs)
  | .join ks => ListAt StrAt H v ks
  | .union => EmptyAt H v ()
  | .unlike => EmptyAt H v ()
  | .sort ws n => PairAt (ListAt TwoAt) IntAt H v (ws, n)
theorem DtAt.keep : KeepAt DtAt := fun H H' v d h q => by
  cases d with
  | filter e => exact ExA.keep H H' v e h q
  | map ms => exact ListAt.keep MapAt.keep H H' v ms h q
  | fold ks fs => exact PairAt.keep (ListAt.keep StrAt.keep) (ListAt.keep FoldAt.keep) H H' v (ks, fs) h q
  | join ks => exact ListAt.keep StrAt.keep H H' v ks h q
  | union => exact EmptyAt.keep H H' v () h q
  | unlike => exact EmptyAt.keep H H' v () h q
  | sort ws n => exact PairAt.keep (ListAt.keep TwoAt.keep) IntAt.keep H H' v (ws, n) h q
abbrev Rst : Type := List Str × Dt
def RstAt : Hp → V → Rst → Prop := PairAt InAt DtAt
theorem RstAt.keep : KeepAt RstAt := PairAt.keep InAt.keep DtAt.keep
def mapR {A B : Type} (g : A → B) (rd : Rdg A) : Rdg B := fun ps i => thenA (rd ps i) fun a j => .ok (g a, j)
theorem mapR_fine {A B : Type} {g : A → B} {rd : Rdg A} (h : FineF rd) : FineF (mapR g rd) := map_fine h
theorem spRd_map {A B : Type} {C CL : Addr} {At : Hp → V → A → Prop} {At' : Hp → V → B → Prop} {g : A → B} {rd : Rdg A} (h : ∀ H v a, At H v a → At' H v (g a)) : ∀ vs H Q E, spRd C CL At' (mapR g rd) vs H Q E → spRd C CL At rd vs H Q E := fun vs H Q E ⟨p, n, ps, i, e, hl, hi, he, hz, q, qe⟩ =>
  ⟨p, n, ps, i, e, hl, hi, he, hz, fun a j hr v H' b hl' ha => q (g a) j (by unfold mapR; rw [hr]; rfl) v H' b hl' (h H' v a ha), fun j hr => qe j (by unfold mapR; rw [hr]; rfl)⟩
def seven : List Str := ["filter", "map", "fold", "join", "union", "unlike", "sort"]
def rdRest (wh : Str) : Rdg Rst :=
  if wh = "filter" then mapR (fun x => (x.1, .filter x.2)) (rdThen rdOne "where" rdExpr)
  else if wh = "map" then mapR (fun x => (x.1, .map x.2)) (rdThen rdOne "to" (rdList rdMapped))
  else if wh = "fold" then mapR (fun x => (x.1, .fold x.2.1 x.2.2)) rdFoldAll
  else if wh = "join" then mapR (fun x => (x.1, .join x.2)) (rdThen rdTwoIn "by" (rdList rdName))
  else if wh = "union" then mapR (fun x => (x.1, .union)) (rdUnit rdTwoIn)
  else if wh = "unlike" then mapR (fun x => (x.1, .unlike)) (rdUnit rdOne)
  else mapR (fun x => (x.1, .sort x.2.1 x.2.2)) rdSort
theorem rest_fine {wh : Str} : FineF (rdRest wh) := by
  unfold rdRest
  repeat' split
  · exact mapR_fine (then_fine (by decide +kernel) one_fine expr_fine)
  · exact mapR_fine (then_fine (by decide +kernel) one_fine (list_fine mapped_fine))
  · exact mapR_fine foldAll_fine
  · exact mapR_fine (then_fine (by decide +kernel) twoIn_fine (list_fine name_fine))
  · exact mapR_fine (unit_fine twoIn_fine)
  · exact mapR_fine (unit_fine one_fine)
  · exact mapR_fine sort_fine
inductive Stq where
  | read (nm : Str) (cs : List (Str × Str))
  | step (nm wh : Str) (r : Rst)
def StqAt (H : Hp) (v : V) : Stq → Prop
  | .read nm cs => ∃ (t e : Addr) (c : V), v = .ref t ∧ H t = some (.tup [.str nm, .str "read", .ref e, c]) ∧ H e = some (.tup []) ∧ ListAt TwoAt H c cs
  | .step nm wh r => ∃ (t : Addr) (a b : V), v = .ref t ∧ H t = some (.tup [.str nm, .str wh, a, b]) ∧ InAt H a r.1 ∧ DtAt H b r.2
theorem StqAt.keep : KeepAt StqAt := fun H H' v s h q => by
  cases s with
  | read nm cs =>
    obtain ⟨t, e, c, rfl, h1, h2, h3⟩ := q
    exact ⟨t, e, c, rfl, h _ _ h1, h _ _ h2, ListAt.keep TwoAt.keep H H' c cs h h3⟩
  | step nm wh r =>
    obtain ⟨t, a, b, rfl, h1, h2, h3⟩ := q
    exact ⟨t, a, b, rfl, h _ _ h1, InAt.keep H H' a _ h h2, DtAt.keep H H' b _ h h3⟩
def rdStepN : Rdg Stq := fun ps i => thenA (rdName ps i) fun nm j => thenA (rdWord ["="] ps j) fun _ j2 => thenA (rdWord seven ps j2) fun wh j3 => thenA (rdRest wh ps j3) fun r k => .ok (.step nm wh r, k)
def rdStep : Rdg Stq := fun ps i => if ownW ps i = "read" then thenA (rdHead ps (i + 1)) fun x j => .ok (.read x.1 x.2, j) else rdStepN ps i
theorem stepN_fine : FineF rdStepN := then_fineW (B := Stq) (rd := rdName) (k := fun nm ps j => thenA (rdWord ["="] ps j) fun _ j2 => thenA (rdWord seven ps j2) fun wh j3 => thenA (rdRest wh ps j3) fun r k => .ok (.step nm wh r, k)) name_fine fun nm => then_weak (B := Stq) (rd := rdWord ["="]) (k := fun _ ps j2 => thenA (rdWord seven ps j2) fun wh j3 => thenA (rdRest wh ps j3) fun r k => .ok (.step nm wh r, k)) (word_fine (by decide +kernel)).weak fun _ => then_weak (B := Stq) (rd := rdWord seven) (k := fun wh ps j3 => thenA (rdRest wh ps j3) fun r k => .ok (.step nm wh r, k)) (word_fine (by decide +kernel)).weak fun wh => then_weak (B := Stq) (rd := rdRest wh) (k := fun r _ k => .ok (.step nm wh r, k)) rest_fine.weak fun r => pure_weak
theorem step_fine : FineF rdStep := fun ps he i hi s j h => by
  unfold rdStep at h
  by_cases c : ownW ps i = "read"
  · rw [if_pos c] at h
    have hi1 := he.next hi (own_pos (by rw [c]; decide +kernel))
    obtain ⟨k1, k2⟩ := map_fine (g := fun x => Stq.read x.1 x.2) head_fine ps he (i + 1) hi1 s j h
    exact ⟨by omega, k2⟩
  · rw [if_neg c] at h
    exact stepN_fine ps he i hi s j h
/-- the table of the readers -/
def RdsAt (P : Program) (w : World) (K : PySem.W.Frag) (mg : Str → Option Value) (base : Heap) (C CL : Addr) (k : Nat) : Prop := ∃ (dl : Addr) (ff : Str → Addr), mg "READERS" = some (.ref dl) ∧ He.dicW K dl = some (He.keysIn w.params seven) ∧ ∀ wh ∈ seven, KDct K w dl wh (.ref (ff wh)) ∧ ∃ j, j ≤ k ∧ CalX P w K mg base j (ff wh) (spRd C CL RstAt (rdRest wh))
section
variable {P : Program} {w : World} {K : PySem.W.Frag} {mg : Str → Option Value} {base : Heap}
abbrev N_rstep : List Str := ["line", "name", "columns", "what", "read_rest", "inputs", "details"]
theorem sc_rstep : FnScope N_rstep ["line"] (defScope s_read_step) := ⟨rfl, rfl, rfl, by decide +kernel, rfl, by decide +kernel, by decide +kernel⟩
theorem ok_rstep {g C CL : Addr} {fd : FuncData} {k : Nat} (F : Fun K "read_step" "read_step" s_read_step g fd) (Z : LnC K CL) (hk8 : 8 ≤ k) (m_list : mg "list" = none) (RD : RdsAt P w K mg base C CL k) (G_took : ReadyM P w K mg base CL 3 "took" ["self", "word"] (spTook CL)) (G_take : ReadyM P w K mg base CL 3 "take" ["self", "kind"] (spTake C CL)) (G_expect : ReadyM P w K mg base CL 4 "expect" ["self", "word"] (spExpect C CL)) (G_takeone : ReadyM P w K mg base CL 4 "take_one_of" ["self", "words"] (spTakeOne K C CL)) (G_head : ReadyX P w K mg base 8 "read_table_head" ["line"] (spRd C CL HeadAt rdHead)) : FnOk P w K mg base (L2.CX P w) (k + 1) g fd ["line"] (spRd C CL StqAt rdStep) := by
  refine F.okX sc_rstep (fun vs H Q E h => ?_) (fun cdv A outer s H vs Q E hr h => ?_)
  · obtain ⟨p, n, ps, i, rfl, _⟩ := h
    rfl
  obtain ⟨p, n, ps, i, rfl, hl, hi, he, hlen, q, qe⟩ := h
  obtain ⟨dl, ff, m_R, hdk, hck⟩ := RD
  have cal : ∀ p ∈ (seven.map fun wh => (ff wh, spRd C CL RstAt (rdRest wh))), ∃ j, j ≤ k ∧ CalX P w K mg base j p.1 p.2 := fun p hp => by
    obtain ⟨wh, hw, rfl⟩ := List.mem_map.mp hp
    exact (hck wh hw).2
  have nd := sc_rstep.nd
  have hrk : Room k _ := hr
  have hr8 : Room 8 _ := hrk.mono hk8
  have hr4 : Room 4 _ := hrk.mono (by omega)
  have hr3 : Room 3 _ := hrk.mono (by omega)
  refine ⟨_, pss_cons (ps_if (pt_val (pe_m G_took Z.cls hr3 noE (pv 0) (pa_cons pe_str pa_nil))) (pss_cons (ps_asg (pe_fnX G_head hr8 (takes_of rfl rfl rfl rfl) (pa_cons (pv 0) pa_nil)) (pg_tup rfl (pgs_cons (pg_name (i := 1) nd rfl (.inl rfl)) (pgs_cons (pg_name (i := 2) nd rfl (.inl rfl)) pgs_nil))))
      (pss_one (ps_ret (pe_tup (pa_cons (pv 1) (pa_cons pe_str (pa_cons (pe_tup pa_nil) (pa_cons (pv 2) pa_nil)))))))) (pss_nil))
      (pss_cons (ps_set (i := 1) nd rfl (.inl rfl) (pe_m G_take Z.cls hr3 (onward (takes_of rfl rfl rfl rfl)) (pv 0) (pa_cons pe_str pa_nil)))
      (pss_cons (ps_expr (pe_m G_expect Z.cls hr4 (onward (takes_of rfl rfl rfl rfl)) (pv 0) (pa_cons pe_str pa_nil)))
      (pss_cons (ps_set (i := 3) nd rfl (.inl rfl) (pe_m G_takeone Z.cls hr4 (onward (takes_of rfl rfl rfl rfl)) (pv 0) (pa_cons (pe_callTy (call_list_kd rfl) (by rfl) m_list PyProof.Rows.boot_list (pa_cons (pe_glob (v := .ref dl) rfl m_R rfl) pa_nil)) pa_nil)))
      (pss_cons (ps_set (i := 4) nd rfl (.inl rfl) (pe_ix ix_kdict (pe_glob (v := .ref dl) rfl m_R rfl) (pv 3) (fun _ _ => rfl)))
      (pss_cons (ps_asg (pe_cvX (i := 4) cal hrk (takes_of rfl rfl rfl rfl) rfl (.inl rfl) (pa_cons (pv 0) pa_nil)) (pg_tup rfl (pgs_cons (pg_name (i := 5) nd rfl (.inl rfl)) (pgs_cons (pg_name (i := 6) nd rfl (.inl rfl)) pgs_nil))))
      (pss_one (ps_ret (pe_tup (pa_cons (pv 1) (pa_cons (pv 3) (pa_cons (pv 5) (pa_cons (pv 6) pa_nil)))))))))))), ?_⟩
  obtain ⟨dx, L, as, h1, _⟩ := id hl
  refine ⟨_, rfl, p, dx, _, rfl, h1, rfl, p, n, ps, i, _, rfl, hl, hi, he, fun hw H1 b1 hl1 => ?_, fun hw => ?_⟩
  · have e1 : rdStep ps i = thenA (rdHead ps (i + 1)) fun x j => .ok (.read x.1 x.2, j) := if_pos hw
    have hi1 := he.next hi (own_pos (by rw [hw]; decide +kernel))
    refine ⟨_, rfl, iteT ⟨_, rfl, p, n, ps, i + 1, rfl, hl1, hi1, he, hlen, fun x j hrd v H2 b2 hl2 hx => ?_, fun j hrd => (qe j (by rw [e1, hrd]; rfl)).but b1⟩⟩
    obtain ⟨t, a, c, rfl, ht, ha, hc⟩ := hx
    cases ha
    refine ⟨t, _, rfl, SqT.of ht, rfl, _, _, rfl, _, _, rfl, rfl, _, rfl, by show 0 ≤ sizeLine; decide, fun e0 he0 => ⟨_, rfl, by show 4 ≤ sizeLine; decide, fun t4 ht4 => ?_⟩⟩
    have u1 := same_upd (o := .tup []) he0
    have u2 := same_upd (o := .tup [.str x.1, .str "read", .ref e0, c]) ht4
    have u := u1.trans u2
    exact q (.read x.1 x.2) j (by rw [e1, hrd]; rfl) (.ref t4) _ ((b1.trans b2).trans (sameL u)) (hl2.keep u) ⟨t4, e0, c, rfl, upd_same, u2 _ _ upd_same, ListAt.keep TwoAt.keep _ _ _ _ (fun y ys h => u y _ h) hc⟩
  · have e1 : rdStep ps i = thenA (rdName ps i) fun nm j => thenA (rdWord ["="] ps j) fun _ j2 => thenA (rdWord seven ps j2) fun wh j3 => thenA (rdRest wh ps j3) fun r k => .ok (.step nm wh r, k) := if_neg hw
    refine ⟨_, rfl, iteF ⟨_, rfl, p, dx, _, rfl, h1, rfl, p, n, ps, i, _, rfl, hl, hi, fun hk H1 b1 hl1 => ?_, fun hk => ?_⟩⟩
    · have e2 : rdName ps i = .ok (txt (curP ps i).val, i + 1) := if_pos hk
      rw [e2] at e1
      have hi1 := he.next hi (by rw [hk]; decide +kernel)
      rw [val_name he hi hk]
      obtain ⟨dx1, L1, as1, h1', _⟩ := id hl1
      generalize txt (curP ps i).val = nm at e1 ⊢
      change rdStep ps i = thenA (rdWord ["="] ps (i + 1)) fun _ j2 => thenA (rdWord seven ps j2) fun wh j3 => thenA (rdRest wh ps j3) fun r k => .ok (.step nm wh r, k) at e1
      refine ⟨_, rfl, p, dx1, _, rfl, h1', rfl, p, n, ps, i + 1, _, rfl, hl1, hi1, he, fun hw1 H2 b2 hl2 => ?_, fun hw1 => ?_⟩
      · have e3 : rdWord ["="] ps (i + 1) = .ok (ownW ps (i + 1), i + 2) := if_pos (by rw [hw1]; exact List.mem_cons_self)
        rw [e3] at e1
        have hi2 := he.next hi1 (own_pos (by rw [hw1]; decide +kernel))
        change rdStep ps i = thenA (rdWord seven ps (i + 2)) fun wh j3 => thenA (rdRest wh ps j3) fun r k => .ok (.step nm wh r, k) at e1
        obtain ⟨dx2, L2', as2, h2, _⟩ := id hl2
        refine ⟨_, rfl, p, dx2, _, rfl, h2, rfl, dl, seven, rfl, hdk, by decide +kernel, by decide, fun W hW => ?_⟩
        have s3 := same_upd (o := .lst (seven.map V.str)) hW
        have hl3 := hl2.keep s3
        have eW : upd H2 W (.lst (seven.map V.str)) W = some (.lst (seven.map V.str)) := upd_same
        have c3 : ButL p H (upd H2 W (.lst (seven.map V.str))) := (b1.trans b2).trans (sameL s3)
        generalize upd H2 W (.lst (seven.map V.str)) = H3 at s3 hl3 eW c3 ⊢
        obtain ⟨dx3, L3, as3, h3, _⟩ := id hl3
        refine ⟨p, W, n, ps, i + 2, seven, rfl, hl3, hi2, he, .inl (SqL.of eW), by decide +kernel, fun hin H4 b4 hl4 => ?_, fun hin => ?_⟩
        · have e4 : rdWord seven ps (i + 2) = .ok (ownW ps (i + 2), i + 3) := if_pos hin
          rw [e4] at e1
          have hi3 := he.next hi2 (own_pos fun z => (by decide +kernel : ("" : Str) ∉ seven) (z ▸ hin))
          generalize ownW ps (i + 2) = wh at e1 hin ⊢
          change rdStep ps i = thenA (rdRest wh ps (i + 3)) fun r k => .ok (.step nm wh r, k) at e1
          refine ⟨_, rfl, dl, wh, _, rfl, rfl, (hck wh hin).1, ?_⟩
          refine ⟨(ff wh, spRd C CL RstAt (rdRest wh)), List.mem_map.mpr ⟨wh, hin, rfl⟩, rfl, _, rfl, p, n, ps, i + 3, rfl, hl4, hi3, he, hlen, fun r j hr0 v H5 b5 hl5 hr1 => ?_, fun j hr0 => (qe j (by rw [e1, hr0]; rfl)).but (c3.trans b4)⟩
          obtain ⟨t, a, b, rfl, ht, ha, hb⟩ := hr1
          refine ⟨t, _, rfl, SqT.of ht, rfl, _, _, rfl, _, _, rfl, rfl, _, rfl, _, rfl, _, rfl, _, rfl, by show 4 ≤ sizeLine; decide, fun t4 ht4 => ?_⟩
          have u := same_upd (o := .tup [.str nm, .str wh, a, b]) ht4
          exact q (.step nm wh r) j (by rw [e1, hr0]; rfl) (.ref t4) _ (((c3.trans b4).trans b5).trans (sameL u)) (hl5.keep u) ⟨t4, a, b, rfl, upd_same, InAt.keep _ _ _ _ (fun y ys h => u y _ h) ha, DtAt.keep _ _ _ _ (fun y ys h => u y _ h) hb⟩
        · have e4 : rdWord seven ps (i + 2) = .error (i + 2) := if_neg hin
          exact (qe (i + 2) (by rw [e1, e4]; rfl)).at c3
      · have e3 : rdWord ["="] ps (i + 1) = .error (i + 1) := if_neg (fun z => hw1 (List.mem_singleton.mp z))
        exact (qe (i + 1) (by rw [e1, e3]; rfl)).at b1
    · have e2 : rdName ps i = .error i := if_neg hk
      exact (qe i (by rw [e1, e2]; rfl)).at (ButL.refl _ _)
end
end Kx

namespace Kx
open PySem PySem.Spec PyProof.Rows L2 TL
abbrev s_read_job : Stmt := topS 56
/-! ### a class of one's own, made -/
structure ReadyC (P : Program) (w : World) (K : PySem.W.Frag) (mg : Str → Option Value) (base : Heap) (CL : Addr) (k : Nat) (x : Str) (ps : List Str) (sp : Sp) : Prop where
  ex : ∃ f fd, mg x = some (.ref CL) ∧ Mk K CL f ∧ FnOk P w K mg base (L2.CX P w) k f fd ps sp ∧ Binds K fd ps []
theorem pe_mk {X : Cx} {E : XK} {CL : Addr} {k : Nat} {x : Str} {ps : List Str} {sp : Sp} {p pos : Pos} {e : Expr} {es : List Expr} {t : TA} (G : ReadyC X.prog X.w X.K X.mg X.base CL k x ps sp) (hr : Room (k + 1) X.A) (hx : Passes (L2.CX X.prog X.w) X E) (ha : PA X (e :: es) t) (hg : Gl X x := by rfl)
    (hdb : (x == ("__debug__" : Str)) = false := by decide) (he : starEach (e :: es) X.env = (false, eval e X.env) :: starEach es X.env := by rfl) (hpl : (backTo pos (starEach es X.env)).any (·.1) = false := by rfl) :
    PE X (.Call (.Name x p) (e :: es) [] pos) (tMake CL sp [] E t) := by
  obtain ⟨f, fd, hm, M, F, hb⟩ := G.ex
  exact pe_make M F hr hg hm hb .nil hx ha hdb he hpl
/-! ### rows and jobs -/
abbrev JSt : Type := Option Str × List Stq
def rdTold (st : JSt) (ps : List Pc) : Except Nat (JSt × Nat) := match st.1 with
  | some a => .ok ((some a, st.2), 0)
  | none => if ownW ps 0 = "answer" then thenA (rdName ps 1) fun nm j => .ok ((some nm, st.2), j) else if (curP ps 0).kind = "end" then .ok ((none, st.2), 0) else thenA (rdStep ps 0) fun s j => .ok ((none, st.2 ++ [s]), j)
def toEnd (ps : List Pc) (r : Except Nat (JSt × Nat)) : Except Nat JSt := match r with
  | .error j => .error (curP ps j).col
  | .ok (st, j) => if (curP ps j).kind = "end" then .ok st else .error (curP ps j).col
def rdRow (st : JSt) (z : Str) : Except Nat JSt := match piecesOf z with
  | .error c => .error c
  | .ok ps => toEnd ps (rdTold st ps)
def rdRows : List Str → JSt → Nat → Except (Nat × Nat) JSt
  | [], st, _ => .ok st
  | z :: r, st, n => match rdRow st z with
    | .error c => .error (n, c)
    | .ok st' => rdRows r st' (n + 1)
def lastLen (z : Str) : Nat := ((linesOf z).getLastD "").length
def rdJob (z : Str) : Except (Nat × Nat) (List Stq × Str) := match rdRows (linesOf z) (none, []) 1 with
  | .error e => .error e
  | .ok (none, _) => .error ((linesOf z).length, lastLen z + 1)
  | .ok (some a, sts) => .ok (sts, a)
def JobAt : Hp → V → List Stq × Str → Prop := PairAt (ListAt StqAt) StrAt
theorem JobAt.keep : KeepAt JobAt := PairAt.keep (ListAt.keep StqAt.keep) StrAt.keep
def ansV : Option Str → V
  | none => .non
  | some a => .str a
/-! ### how many pieces there are at most -/
theorem pcs_len {all : Nat} : ∀ (f at_ many : Nat) (l : List Nat) (ps : List Pc), pcs all f at_ many l = .ok ps → ps.length ≤ l.length + 1
  | 0, at_, many, l, ps, h => by
    rw [pcs] at h
    cases h
    simp
  | f + 1, at_, many, [], ps, h => by
    rw [pcs] at h
    cases h
    simp
  | f + 1, at_, many, c :: r, ps, h => by
    by_cases h35 : c = 35
    · rw [pcs, if_pos h35] at h
      cases h
      simp
    · by_cases h32 : c = 32
      · rw [pcs, if_neg h35, if_pos h32] at h
        have := pcs_len f _ _ r ps h
        rw [List.length_cons]
        omega
      · rw [pcs_take (c := c) rfl h35 h32] at h
        cases hp : pcAt (c :: r) with
        | none =>
          rw [hp] at h
          cases h
        | some t =>
          obtain ⟨k, v, n⟩ := t
          rw [hp] at h
          dsimp only at h
          generalize (if isBr k v = true then many else many + 1) = mm at h
          by_cases h300 : 300 < mm
          · rw [if_pos h300] at h
            cases h
          · rw [if_neg h300] at h
            cases hr : pcs all f (at_ + n) mm ((c :: r).drop n) with
            | error e =>
              rw [hr] at h
              cases h
            | ok qs =>
              rw [hr] at h
              cases h
              have hn := (pcAt_pos hp).1
              have := pcs_len f _ _ _ qs hr
              rw [List.length_drop, List.length_cons] at this
              rw [List.length_cons, List.length_cons]
              omega
theorem pieces_len {z : Str} {ps : List Pc} (h : piecesOf z = .ok ps) : ps.length ≤ z.length + 1 := by
  have := pcs_len _ _ _ _ ps h
  rw [← len_tl] at this
  exact this
/-! ### a list of one's own steps grows while a line is read -/
theorem stq_tup {H : Hp} {v : V} : ∀ {s : Stq}, StqAt H v s → ∃ t a b c d, v = .ref t ∧ H t = some (.tup [a, b, c, d])
  | .read _ _, ⟨t, e, c, h1, h2, _⟩ => ⟨t, _, _, _, _, h1, h2⟩
  | .step _ _ _, ⟨t, a, b, h1, h2, _⟩ => ⟨t, _, _, _, _, h1, h2⟩
theorem EndP.pos {ps : List Pc} (h : EndP ps) : 0 < ps.length := by
  obtain ⟨qs, c, rfl, _⟩ := h
  rw [List.length_append]
  exact Nat.lt_of_lt_of_le Nat.zero_lt_one (Nat.le_add_left _ _)
theorem LineAt.grow {H : Hp} {CL p S : Addr} {n : Int} {ps : List Pc} {i : Nat} {vs : List V} {sts : List Stq} (hl : LineAt H CL p n ps i) (he : 0 < ps.length) (hS : H S = some (.lst vs)) (hp : Paired (StqAt H) vs sts) (ys : List V) : LineAt (upd H S (.lst ys)) CL p n ps i := by
  obtain ⟨dx, L, as, h1, h2, h3, h4⟩ := hl
  have nL : L ≠ S := fun z => by
    rw [z, hS] at h2
    cases as with
    | nil =>
      rw [List.map_nil] at h4
      rw [← h4] at he
      exact absurd he (Nat.lt_irrefl 0)
    | cons x r =>
      have e := h3 x List.mem_cons_self
      injection h2 with h2
      injection h2 with h2
      subst h2
      cases sts with
      | nil => cases hp
      | cons s ss =>
        cases hp with
        | cons hx _ =>
          obtain ⟨t, a, b, c, d, e1, e2⟩ := stq_tup hx
          cases e1
          rw [e] at e2
          cases e2
  refine ⟨dx, L, as, ?_, ?_, fun x hx => ?_, h4⟩
  · rw [upd_ne (fun z => by rw [z, hS] at h1; cases h1)]
    exact h1
  · rw [upd_ne nL]
    exact h2
  · have h := h3 x hx
    rw [upd_ne (fun z => by rw [z, hS] at h; cases h)]
    exact h
theorem atI_last2 {xs : List V} {v : V} (h : xs[xs.length - 1]? = some v) : atI xs (-1) = some v := by
  have h0 : 0 < xs.length := by
    cases xs with
    | nil => cases h
    | cons x r => exact Nat.succ_pos _
  unfold atI ixN
  rw [if_neg (by decide), if_pos (by omega)]
  show xs[((-1 : Int) + (xs.length : Int)).toNat]? = some v
  rw [show ((-1 : Int) + (xs.length : Int)).toNat = xs.length - 1 by omega]
  exact h
section
variable {P : Program} {w : World} {K : PySem.W.Frag} {mg : Str → Option Value} {base : Heap}
def spJob (C : Addr) : Sp := fun vs H Q E => (vs = [.non] ∧ BadAt C 0 0 H E) ∨ ∃ z : Str, vs = [.str z] ∧ z.length ≤ 99999 ∧ (∀ y ∈ linesOf z, y.length ≤ 9999) ∧
  (∀ x, rdJob z = .ok x → ∀ v H', Same H H' → JobAt H' v x → Q v H') ∧ (∀ n c, rdJob z = .error (n, c) → BadAt C (n : Nat) (c : Nat) H E)
abbrev N_rjob : List Str := ["text", "rows", "steps", "answer", "at", "row", "line"]
theorem sc_rjob : FnScope N_rjob ["text"] (defScope s_read_job) := ⟨rfl, rfl, rfl, by decide +kernel, rfl, by decide +kernel, by decide +kernel⟩
theorem ok_rjob {g C CL fI : Addr} {fd : FuncData} {k : Nat} (F : Fun K "read_job" "read_job" s_read_job g fd) (T : PySem.BadY.BadTxt K mg C fI) (Z : LnC K CL) (hk6 : 6 ≤ k) (m_isinstance : mg "isinstance" = none) (m_str : mg "str" = none) (m_enumerate : mg "enumerate" = none) (m_len : mg "len" = none) (m_tuple : mg "tuple" = none) (G_line : ReadyC P w K mg base CL 5 "Line" ["self", "text", "number"] (spInit C CL)) (G_is_kind : ReadyM P w K mg base CL 1 "is_kind" ["self", "kind"] (spIsKind CL)) (G_expend : ReadyM P w K mg base CL 3 "expect_end" ["self"] (spExpEnd C CL)) (G_took : ReadyM P w K mg base CL 3 "took" ["self", "word"] (spTook CL)) (G_take : ReadyM P w K mg base CL 3 "take" ["self", "kind"] (spTake C CL)) (G_step : ReadyX P w K mg base k "read_step" ["line"] (spRd C CL StqAt rdStep)) : FnOk P w K mg base (L2.CX P w) (k + 1) g fd ["text"] (spJob C) := by
  refine F.okX sc_rjob (fun vs H Q E h => ?_) (fun cdv A outer s H vs Q E hr h => ?_)
  · rcases h with ⟨rfl, _⟩ | ⟨z, rfl, _⟩ <;> rfl
  have nd := sc_rjob.nd
  have hrk : Room k _ := hr
  have hr6 : Room 6 _ := hrk.mono hk6
  have hr5 : Room 5 _ := hrk.mono (by omega)
  have hr3 : Room 3 _ := hrk.mono (by omega)
  have hr1 : Room 1 _ := hrk.mono (by omega)
  refine ⟨_, pss_cons (ps_if (pt_not (pt_val (pe_callB call_isi (by rfl) m_isinstance PyProof.Rows.boot_isinstance (pa_cons (pv 0) (pa_cons (pe_bltn (v := .ty "str") (by rfl) m_str PyProof.Rows.boot_str rfl) pa_nil))))) (pss_one (ps_raiseBad2 rfl T hr5 (takes_of rfl rfl rfl rfl) (pa_cons pe_int (pa_cons pe_int pa_nil)))) pss_nil)
      (pss_cons (ps_set (i := 1) nd rfl (.inl rfl) (pe_split (pv 0) pe_str))
      (pss_cons (ps_set (i := 2) nd rfl (.inl rfl) (pe_lst pa_nil))
      (pss_cons (ps_set (i := 3) nd rfl (.inl rfl) pe_non)
      (pss_cons (ps_for (passes_of rfl) rfl (pi_enum (by rfl) m_enumerate (pa_cons (pv 1) pa_nil)) (pg_tup rfl (pgs_cons (pg_name (i := 4) nd rfl (.inl rfl)) (pgs_cons (pg_name (i := 5) nd rfl (.inl rfl)) pgs_nil))) (pss_cons (ps_set (i := 6) nd rfl (.inl rfl) (pe_mk G_line hr6 (onward (takes_of rfl rfl rfl rfl)) (pa_cons (pv 5) (pa_cons (pe_op op_add (pv 4) pe_int) pa_nil))))
      (pss_one (ps_if (pt_cmpR op_notN (pv 3) pe_non (nomark _)) (pss_one (ps_expr (pe_m0' G_expend Z.cls hr3 (onward (takes_of rfl rfl rfl rfl)) (pv 6)))) (pss_one (ps_if (pt_val (pe_m G_took Z.cls hr3 noE (pv 6) (pa_cons pe_str pa_nil))) (pss_cons (ps_set (i := 3) nd rfl (.inl rfl) (pe_m G_take Z.cls hr3 (onward (takes_of rfl rfl rfl rfl)) (pv 6) (pa_cons pe_str pa_nil)))
      (pss_one (ps_expr (pe_m0' G_expend Z.cls hr3 (onward (takes_of rfl rfl rfl rfl)) (pv 6))))) (pss_one (ps_if (pt_not (pt_val (pe_m G_is_kind Z.cls hr1 noE (pv 6) (pa_cons pe_str pa_nil)))) (pss_cons (ps_expr (pe_bm PySem.F.plainAttrs_list PySem.F.slot_list_append PySem.F.type_list_append mt_append (pv 2) (pa_cons (pe_fnX G_step hrk (takes_of rfl rfl rfl rfl) (pa_cons (pv 6) pa_nil)) pa_nil)))
      (pss_one (ps_expr (pe_m0' G_expend Z.cls hr3 (onward (takes_of rfl rfl rfl rfl)) (pv 6))))) (pss_nil)))))))))
      (pss_cons (ps_if (pt_cmpR op_isN (pv 3) pe_non (nomark _)) (pss_one (ps_raiseBad2 rfl T hr5 (takes_of rfl rfl rfl rfl) (pa_cons (pe_callB call_len_seq (by rfl) m_len PySem.boot_len (pa_cons (pv 1) pa_nil)) (pa_cons (pe_op op_add (pe_callB call_len_str (by rfl) m_len PySem.boot_len (pa_cons (pe_ix (show IxR _ (rIxL K) from ix_list) (pv 1) (pe_un un_neg pe_int) (fun _ _ => rfl)) pa_nil)) pe_int) pa_nil)))) (pss_nil))
      (pss_one (ps_ret (pe_tup (pa_cons (pe_callTy call_tuple_of (by rfl) m_tuple PyProof.Rows.boot_tuple (pa_cons (pv 2) pa_nil)) (pa_cons (pv 3) pa_nil)))))))))), ?_⟩
  rcases h with ⟨rfl, qe⟩ | ⟨z, rfl, hz, hy, q, qe⟩
  · exact ⟨_, rfl, _, _, _, _, false, rfl, .ty _, .base .non, kit_ty (by decide +kernel : kitB "NoneType" "str" = some false), _, rfl, iteT ⟨_, _, rfl, fun d hd => qe _ d (Same.refl _) hd⟩⟩
  refine ⟨_, rfl, _, _, _, _, true, rfl, .ty _, .base (.str z), kit_ty (by decide +kernel : kitB "str" "str" = some true), _, rfl, iteF ?_⟩
  refine ⟨_, rfl, ⟨_, rfl⟩, _, _, rfl, rfl, (by decide +kernel), Nat.le_trans (show z.length + 2 ≤ 100001 by omega) (by decide), fun R hR => ?_⟩
  rw [split_lines]
  have s1 := same_upd (o := .lst ((linesOf z).map V.str)) hR
  have eR1 : upd H R (.lst ((linesOf z).map V.str)) R = some (.lst ((linesOf z).map V.str)) := upd_same
  generalize upd H R (.lst ((linesOf z).map V.str)) = H1 at s1 eR1 ⊢
  refine ⟨by show 0 ≤ sizeLine; decide, fun S hS => ?_⟩
  have s2 := s1.trans (same_upd (o := .lst []) hS)
  have eS2 : upd H1 S (.lst []) S = some (.lst []) := upd_same
  have nRS : R ≠ S := fun zz => by rw [zz, hS] at eR1; cases eR1
  have eR2 : upd H1 S (.lst []) R = some (.lst ((linesOf z).map V.str)) := by rw [upd_ne nRS]; exact eR1
  have hHS : H S = none := same_none s1 hS
  generalize upd H1 S (.lst []) = H2 at s2 eS2 eR2 ⊢
  have hsum := lines_sum z
  have hlast : lastLen z = ((linesOf z).getLastD "").length := rfl
  have eJ : rdJob z = match rdRows (linesOf z) (none, []) 1 with
    | .error e => .error e
    | .ok (none, _) => .error ((linesOf z).length, lastLen z + 1)
    | .ok (some a, sts) => .ok (sts, a) := rfl
  generalize lastLen z = ll at eJ hlast
  generalize rdJob z = rj at eJ q qe
  generalize linesOf z = ls at *
  refine ⟨_, rfl, R, _, rfl, SqL.of eR2, ?_⟩
  refine for_it walk_enum (fun i σ G => ∃ (y4 y5 y6 : Option V) (st : JSt) (vs : List V), σ = [some (.str z), some (.ref R), some (.ref S), some (ansV st.1), y4, y5, y6] ∧ Same H G ∧ G R = some (.lst (ls.map V.str)) ∧ G S = some (.lst vs) ∧ Paired (StqAt G) vs st.2 ∧ st.2.length ≤ i ∧ rdRows ls (none, []) 1 = rdRows (ls.drop i) st (i + 1))
    ⟨_, _, _, (none, []), [], rfl, s2, eR2, eS2, .nil, Nat.le_refl _, rfl⟩ (fun i σ G _ h => by
      obtain ⟨_, _, _, _, _, _, _, e, _⟩ := h
      exact SqL.of e) ?_ ?_
  · rintro i v σ G G1 hi ⟨y4, y5, y6, st, vs, rfl, sm, eR, eS, hp, hlen, htot⟩ ⟨T', x', y, rfl, nT, rfl, ex, ey⟩
    cases ex
    replace ey : (ls.map V.str)[i]? = some y := ey
    rw [List.getElem?_map] at ey
    obtain ⟨u, eu, rfl⟩ := Option.map_eq_some_iff.mp ey
    have hu := List.mem_of_getElem? eu
    have hil : i < ls.length := (List.getElem?_eq_some_iff.mp eu).1
    have edrop : ls.drop i = u :: ls.drop (i + 1) := by
      rw [List.drop_eq_getElem_cons hil]
      rw [List.getElem?_eq_getElem hil] at eu
      rw [Option.some.inj eu]
    rw [edrop, rdRows] at htot
    have herr : ∀ c, rdRow st u = .error c → BadAt C ((i : Int) + 1) (c : Nat) H E := fun c hc => by
      rw [hc] at htot
      dsimp only at htot
      rw [htot] at eJ
      exact qe (i + 1) c eJ
    have hnext : ∀ st', rdRow st u = .ok st' → rdRows ls (none, []) 1 = rdRows (ls.drop (i + 1)) st' (i + 1 + 1) := fun st' hc => by
      rw [hc] at htot
      exact htot
    have s3 := same_upd (o := .tup [.int (i : Nat), .str u]) nT
    have eT : upd G T' (.tup [.int (i : Nat), .str u]) T' = some (.tup [.int (i : Nat), .str u]) := upd_same
    generalize upd G T' (.tup [.int (i : Nat), .str u]) = G1 at s3 eT ⊢
    refine ⟨T', _, rfl, SqT.of eT, rfl, _, _, rfl, _, _, rfl, rfl, _, rfl, _, rfl, _, _, rfl, rfl, fun p dx hpn hdn ne => ?_⟩
    have s4 := same_upd (o := .own p) hdn
    have hpn2 : upd G1 dx (.own p) p = none := by rw [upd_ne ne.symm]; exact hpn
    have s5 := s4.trans (same_upd (o := .ins CL dx []) hpn2)
    have gp : G p = none := same_none s3 hpn
    refine ⟨p, dx, u, (i : Int) + 1, rfl, upd_same, Nat.le_trans (hy u hu) (by decide), fun ps hps G2 b2 hl2 => ⟨rfl, ?_⟩, fun c hc G2 d b2 nd' => ?_⟩
    · have S12 : Same G G2 := fun a o e => b2 a o (fun zz => by rw [zz, gp] at e; cases e) (s5 _ _ (s3 _ _ e))
      have he := pieces_end hps
      have hps0 := he.pos
      have hpl : ps.length ≤ 10000 := Nat.le_trans (pieces_len hps) (by have := hy u hu; omega)
      have up : ∀ {G' : Hp}, ButL p G2 G' → Same G G' := fun b a o e => b.b a o (fun zz => by rw [zz, gp] at e; cases e) (S12 a o e)
      have eRow : rdRow st u = toEnd ps (rdTold st ps) := by
        unfold rdRow
        rw [hps]
      have keepP : ∀ {G' : Hp}, Same G G' → Paired (StqAt G') vs st.2 := fun s => Paired.mapP hp fun a b h => StqAt.keep _ _ _ _ (fun t xs e => s t _ e) h
      clear eT
      obtain ⟨dx2, L2', as2, h2, _⟩ := id hl2
      obtain ⟨ans, sts⟩ := st
      dsimp only at hp hlen keepP eRow
      refine ⟨_, rfl, rfl, _, rfl, ?_⟩
      cases ans with
      | some a =>
        have eTold : rdTold (some a, sts) ps = .ok ((some a, sts), 0) := rfl
        rw [eTold] at eRow
        refine (show (if (!decide (V.str a = V.non)) = true then _ else _) from ?_)
        rw [show decide (V.str a = V.non) = false from decide_eq_false fun zz => by cases zz]
        refine iteT ⟨_, rfl, p, dx2, _, rfl, h2, rfl, p, _, ps, 0, rfl, hl2, hps0, fun hk => ?_, fun hk => ?_⟩
        · exact ⟨_, _, _, (some a, sts), vs, rfl, sm.trans S12, S12 _ _ eR, S12 _ _ eS, keepP S12, Nat.le_succ_of_le hlen, hnext _ (eRow.trans (if_pos hk))⟩
        · exact (herr _ (eRow.trans (if_neg hk))).same (sm.trans S12)
      | none =>
        refine (show (if (!decide (V.non = V.non)) = true then _ else _) from ?_)
        rw [show decide (V.non = V.non) = true from decide_eq_true rfl]
        refine iteF ⟨_, rfl, p, dx2, _, rfl, h2, rfl, p, _, ps, 0, _, rfl, hl2, hps0, he, fun hw G3 b3 hl3 => ?_, fun hw => ?_⟩
        · have eTold : rdTold (none, sts) ps = thenA (rdName ps 1) fun nm j => .ok ((some nm, sts), j) := if_pos hw
          rw [eTold] at eRow
          have hi1 := he.next hps0 (own_pos (by rw [hw]; decide +kernel))
          have S13 := up b3
          obtain ⟨dx3, L3, as3, h3, _⟩ := id hl3
          refine ⟨_, rfl, iteT ⟨_, rfl, p, dx3, _, rfl, h3, rfl, p, _, ps, 1, _, rfl, hl3, hi1, fun hk G4 b4 hl4 => ?_, fun hk => ?_⟩⟩
          · have e2 : rdName ps 1 = .ok (txt (curP ps 1).val, 2) := if_pos hk
            rw [e2] at eRow
            have hi2 := he.next hi1 (by rw [hk]; decide +kernel)
            rw [val_name he hi1 hk]
            generalize txt (curP ps 1).val = nm at eRow ⊢
            have S14 := up (b3.trans b4)
            obtain ⟨dx4, L4, as4, h4, _⟩ := id hl4
            refine ⟨_, rfl, p, dx4, _, rfl, h4, rfl, p, _, ps, 2, rfl, hl4, hi2, fun hk2 => ?_, fun hk2 => ?_⟩
            · exact ⟨_, _, _, (some nm, sts), vs, rfl, sm.trans S14, S14 _ _ eR, S14 _ _ eS, keepP S14, Nat.le_succ_of_le hlen, hnext _ (eRow.trans (if_pos hk2))⟩
            · exact (herr _ (eRow.trans (if_neg hk2))).same (sm.trans S14)
          · have e2 : rdName ps 1 = .error 1 := if_neg hk
            rw [e2] at eRow
            exact (herr _ eRow).same (sm.trans S13)
        · have eTold : rdTold (none, sts) ps = if (curP ps 0).kind = "end" then .ok ((none, sts), 0) else thenA (rdStep ps 0) fun s j => .ok ((none, sts ++ [s]), j) := if_neg hw
          refine ⟨_, rfl, iteF ⟨_, rfl, p, dx2, _, rfl, h2, rfl, p, _, ps, 0, _, rfl, hl2, hps0, _, rfl, ?_⟩⟩
          by_cases hk : (curP ps 0).kind = "end"
          · rw [decide_eq_true hk]
            rw [eTold, if_pos hk] at eRow
            exact iteF ⟨_, _, _, (none, sts), vs, rfl, sm.trans S12, S12 _ _ eR, S12 _ _ eS, keepP S12, Nat.le_succ_of_le hlen, hnext _ (eRow.trans (if_pos hk))⟩
          · rw [decide_eq_false hk]
            rw [eTold, if_neg hk] at eRow
            refine iteT ⟨_, rfl, .inl ⟨rfl, _, SqL.of (S12 _ _ eS)⟩, _, rfl, p, _, ps, 0, rfl, hl2, hps0, he, hpl, fun s j hrs v G3 b3 hl3 hs => ?_, fun j hrs => ?_⟩
            · rw [hrs] at eRow
              obtain ⟨_, hj⟩ := step_fine ps he 0 hps0 s j hrs
              have S13 := up b3
              have eS3 := S13 _ _ eS
              have lv : vs.length = sts.length := Paired.length hp
              refine ⟨S, _, _, rfl, rfl, eS3, Nat.lt_of_le_of_lt (show _ ≤ 100001 by have := hlen; omega) (by decide), ?_⟩
              have kt : ∀ (a : Addr) (ys : List V), G3 a = some (.tup ys) → upd G3 S (.lst (vs ++ [v])) a = some (.tup ys) := fun a ys h => by
                rw [upd_ne (fun zz => by rw [zz, eS3] at h; cases h)]
                exact h
              have hl4 := hl3.grow hps0 eS3 (keepP S13) (vs ++ [v])
              have sm4 : Same H (upd G3 S (.lst (vs ++ [v]))) := fun a o e => by
                rw [upd_ne (fun zz => by rw [zz, hHS] at e; cases e)]
                exact (sm.trans S13) _ _ e
              have eR4 : upd G3 S (.lst (vs ++ [v])) R = some (.lst (ls.map V.str)) := by
                rw [upd_ne nRS]
                exact S13 _ _ eR
              have eS4 : upd G3 S (.lst (vs ++ [v])) S = some (.lst (vs ++ [v])) := upd_same
              have hp4 : Paired (StqAt (upd G3 S (.lst (vs ++ [v])))) (vs ++ [v]) (sts ++ [s]) := Paired.snoc (Paired.mapP (keepP S13) fun a b h => StqAt.keep _ _ _ _ kt h) (StqAt.keep _ _ _ _ kt hs)
              generalize upd G3 S (.lst (vs ++ [v])) = G4 at hl4 sm4 eR4 eS4 hp4 ⊢
              obtain ⟨dx4, L4, as4, h4, _⟩ := id hl4
              refine ⟨_, rfl, p, dx4, _, rfl, h4, rfl, p, _, ps, j, rfl, hl4, hj, fun hk2 => ?_, fun hk2 => ?_⟩
              · exact ⟨_, _, _, (none, sts ++ [s]), vs ++ [v], rfl, sm4, eR4, eS4, hp4, by rw [List.length_append]; exact Nat.succ_le_succ hlen, hnext _ (eRow.trans (if_pos hk2))⟩
              · exact (herr _ (eRow.trans (if_neg hk2))).same sm4
            · rw [hrs] at eRow
              exact fun G' d b nd' => herr _ eRow G' d (sm.trans (up b)) nd'
    · have eRow : rdRow st u = .error c := by
        unfold rdRow
        rw [hc]
      exact herr _ eRow G2 d (fun a o e => b2 a o (fun zz => by rw [zz, same_none sm gp] at e; cases e) (s5 _ _ (s3 _ _ (sm _ _ e)))) nd'
  · rintro σ G ⟨y4, y5, y6, ⟨ans, sts⟩, vs, rfl, sm, eR, eS, hp, hlen, htot⟩
    rw [List.length_map, List.drop_length, rdRows] at htot
    rw [htot] at eJ
    refine ⟨_, rfl, rfl, _, rfl, ?_⟩
    cases ans with
    | none =>
      refine (show (if (decide (V.non = V.non)) = true then _ else _) from ?_)
      rw [show decide (V.non = V.non) = true from decide_eq_true rfl]
      have hne : ls ≠ [] := fun zz => by
        rw [zz] at hsum
        simp at hsum
      have hmem : ls.getLastD "" ∈ ls := by
        rw [List.getLastD_eq_getLast?, List.getLast?_eq_some_getLast hne]
        exact List.getLast_mem hne
      have hix : (ls.map V.str)[(ls.map V.str).length - 1]? = some (.str (ls.getLastD "")) := by
        rw [List.length_map, List.getElem?_map, ← List.getLast?_eq_getElem?, List.getLastD_eq_getLast?, List.getLast?_eq_some_getLast hne]
        rfl
      have hll := hy _ hmem
      refine iteT ⟨_, rfl, R, _, rfl, .inl (SqL.of eR), _, rfl, _, rfl, R, _, _, _, rfl, rfl, SqL.of eR, atI_last2 hix, _, rfl, Nat.le_trans hll (by decide), _, _, rfl, rfl, _, _, rfl, fun d nd' => ?_⟩
      have hB := (qe _ _ eJ).same sm
      rw [hlast, ← List.length_map (f := V.str) (as := ls)] at hB
      exact hB G d (Same.refl _) nd'
    | some a =>
      refine (show (if (decide (V.str a = V.non)) = true then _ else _) from ?_)
      rw [show decide (V.str a = V.non) = false from decide_eq_false fun zz => by cases zz]
      refine iteF ⟨_, rfl, S, _, rfl, .inl ⟨SqL.of eS, fun t ht => ⟨_, rfl, by show 2 ≤ sizeLine; decide, fun t2 ht2 => ?_⟩⟩⟩
      have u1 := same_upd (o := .tup vs) ht
      have u2 := same_upd (o := .tup [.ref t, .str a]) ht2
      have u := u1.trans u2
      exact q (sts, a) eJ (.ref t2) _ (sm.trans u) ⟨t2, .ref t, .str a, rfl, upd_same, ⟨t, vs, rfl, u2 _ _ upd_same, Paired.mapP hp fun x y h => StqAt.keep _ _ _ _ (fun t xs e => u t _ e) h⟩, rfl⟩
end
end Kx

namespace Kx
open PySem PySem.Spec PyProof.Rows L2 TL
/-! ### texts as they are laid, and their pieces -/
structure Tok where
  sp : Nat
  w : List Nat
  k : Str
  v : PV
def layT : List Tok → List Nat → List Nat
  | [], tail => tail
  | t :: r, tail => List.replicate t.sp 32 ++ (t.w ++ layT r tail)
def pcsT (all : Nat) : Nat → List Tok → List Pc
  | _, [] => [⟨"end", .tx "", all + 1⟩]
  | at_, t :: r => ⟨t.k, t.v, at_ + t.sp + 1⟩ :: pcsT all (at_ + t.sp + t.w.length) r
/-- what stands behind the last piece: blanks, and a remark -/
inductive TailOk : List Nat → Prop
  | nil : TailOk []
  | hash (r : List Nat) : TailOk (35 :: r)
  | blank {r : List Nat} : TailOk r → TailOk (32 :: r)
structure Fits (t : Tok) (l : List Nat) : Prop where
  at_ : pcAt (t.w ++ l) = some (t.k, t.v, t.w.length)
  hd : ∃ c r, t.w = c :: r ∧ c ≠ 35 ∧ c ≠ 32
def LaysOk : List Tok → List Nat → Prop
  | [], tail => TailOk tail
  | t :: r, tail => Fits t (layT r tail) ∧ LaysOk r tail
def nbr : List Tok → Nat
  | [] => 0
  | t :: r => (if isBr t.k t.v = true then 0 else 1) + nbr r
theorem layT_append (a b : List Tok) (tail : List Nat) : layT (a ++ b) tail = layT a (layT b tail) := by
  induction a with
  | nil => rfl
  | cons t r ih =>
    show List.replicate t.sp 32 ++ (t.w ++ layT (r ++ b) tail) = List.replicate t.sp 32 ++ (t.w ++ layT r (layT b tail))
    rw [ih]
theorem nbr_append (a b : List Tok) : nbr (a ++ b) = nbr a + nbr b := by
  induction a with
  | nil => exact (Nat.zero_add _).symm
  | cons t r ih =>
    show _ + nbr (r ++ b) = _ + nbr r + nbr b
    rw [ih, Nat.add_assoc]
theorem pcs_tail {all : Nat} : ∀ {l : List Nat}, TailOk l → ∀ (f at_ many : Nat), l.length < f → pcs all f at_ many l = .ok [⟨"end", .tx "", all + 1⟩]
  | _, .nil, f + 1, at_, many, _ => by rw [pcs]
  | _, .hash r, f + 1, at_, many, _ => by rw [pcs, if_pos rfl]
  | _, .blank (r := r) h, f + 1, at_, many, hl => by
    rw [pcs, if_neg (by decide), if_pos rfl]
    exact pcs_tail h f _ _ (Nat.lt_of_succ_lt_succ hl)
theorem pcs_blanks {all f at_ many : Nat} {l : List Nat} : ∀ n : Nat, pcs all (f + n) at_ many (List.replicate n 32 ++ l) = pcs all f (at_ + n) many l
  | 0 => rfl
  | n + 1 => by
    rw [← Nat.add_assoc, List.replicate_succ, List.cons_append, pcs, if_neg (by decide), if_pos rfl]
    have e : pcs all (f + n) (at_ + 1) many (List.replicate n 32 ++ l) = pcs all f (at_ + 1 + n) many l := pcs_blanks n
    rw [e, show at_ + 1 + n = at_ + (n + 1) by omega]
/-- the pieces of what is laid -/
theorem pcs_lay {all : Nat} {tail : List Nat} : ∀ (ts : List Tok) (f at_ many : Nat), LaysOk ts tail → (layT ts tail).length < f → many ≤ 300 → (many + nbr ts ≤ 300 → pcs all f at_ many (layT ts tail) = .ok (pcsT all at_ ts)) ∧ (300 < many + nbr ts → ∃ c, pcs all f at_ many (layT ts tail) = .error c)
  | [], f, at_, many, h, hl, hm => ⟨fun _ => pcs_tail h f at_ many hl, fun z => absurd (show 300 < many + 0 from z) (by omega)⟩
  | t :: r, f, at_, many, h, hl, hm => by
    obtain ⟨⟨hp, c, w', hw, h35, h32⟩, hr⟩ := h
    have el : (layT (t :: r) tail).length = t.sp + (t.w.length + (layT r tail).length) := by
      show (List.replicate t.sp 32 ++ (t.w ++ layT r tail)).length = _
      rw [List.length_append, List.length_replicate, List.length_append]
    rw [el] at hl
    have hw1 : 0 < t.w.length := by rw [hw]; exact Nat.succ_pos _
    obtain ⟨f', rfl⟩ : ∃ f', f = f' + 1 + t.sp := ⟨f - 1 - t.sp, by omega⟩
    have e1 : pcs all (f' + 1 + t.sp) at_ many (layT (t :: r) tail) = pcs all (f' + 1) (at_ + t.sp) many (t.w ++ layT r tail) := pcs_blanks t.sp
    have e2 : (t.w ++ layT r tail).drop t.w.length = layT r tail := by rw [List.drop_left]
    rw [e1, pcs_take (c := c) (by rw [hw]; rfl) h35 h32, hp]
    dsimp only
    rw [e2]
    have hn : nbr (t :: r) = (if isBr t.k t.v = true then 0 else 1) + nbr r := rfl
    have ec : (if isBr t.k t.v = true then many else many + 1) = many + (if isBr t.k t.v = true then 0 else 1) := by
      split
      · rfl
      · rfl
    rw [hn, ec]
    generalize (if isBr t.k t.v = true then 0 else 1) = b
    have hl' : (layT r tail).length < f' := by omega
    by_cases h300 : 300 < many + b
    · rw [if_pos h300]
      exact ⟨fun z => absurd z (by omega), fun _ => ⟨_, rfl⟩⟩
    · rw [if_neg h300]
      obtain ⟨i1, i2⟩ := pcs_lay r f' (at_ + t.sp + t.w.length) (many + b) hr hl' (by omega)
      refine ⟨fun z => ?_, fun z => ?_⟩
      · rw [i1 (by omega)]
        rfl
      · obtain ⟨c', e⟩ := i2 (by omega)
        rw [e]
        exact ⟨_, rfl⟩
theorem pieces_lay {z : Str} {ts : List Tok} {tail : List Nat} (h : tl z = layT ts tail) (ok : LaysOk ts tail) (hn : nbr ts ≤ 300) : piecesOf z = .ok (pcsT z.length 0 ts) := by
  unfold piecesOf
  rw [h]
  exact (pcs_lay ts _ 0 0 ok (by rw [← h, ← len_tl]; exact Nat.lt_succ_self _) (by decide)).1 (by rw [Nat.zero_add]; exact hn)
theorem pieces_many {z : Str} {ts : List Tok} {tail : List Nat} (h : tl z = layT ts tail) (ok : LaysOk ts tail) (hn : 300 < nbr ts) : ∃ c, piecesOf z = .error c := by
  unfold piecesOf
  rw [h]
  exact (pcs_lay ts _ 0 0 ok (by rw [← h, ← len_tl]; exact Nat.lt_succ_self _) (by decide)).2 (by rw [Nat.zero_add]; exact hn)
/-! ### what a piece is -/
def noRun (l : List Nat) : Prop := ∀ c r, l = c :: r → isRun c = false
theorem takeW_run {w l : List Nat} (hw : w.all isRun = true) (hl : noRun l) : (w ++ l).takeWhile isRun = w := by
  induction w with
  | nil =>
    cases l with
    | nil => rfl
    | cons c r => rw [List.nil_append, List.takeWhile_cons, hl c r rfl]; rfl
  | cons c r ih =>
    rw [List.all_cons, Bool.and_eq_true] at hw
    rw [List.cons_append, List.takeWhile_cons, hw.1]
    show c :: (r ++ l).takeWhile isRun = c :: r
    rw [ih hw.2]
/-- a word, own or a name -/
def tokW (sp : Nat) (z : Str) : Tok := ⟨sp, tl z, if z ∈ owns then "own" else "name", .tx z⟩
def wordB (z : Str) : Bool := match tl z with
  | [] => false
  | c :: r => isLet c && (c :: r).all isRun
theorem fits_word {sp : Nat} {z : Str} {l : List Nat} (hz : wordB z = true) (hl : noRun l) : Fits (tokW sp z) l := by
  unfold wordB at hz
  cases e : tl z with
  | nil => rw [e] at hz; cases hz
  | cons c r =>
    rw [e] at hz
    dsimp only at hz
    rw [Bool.and_eq_true] at hz
    obtain ⟨h1, h2⟩ := hz
    have et : ((c :: r) ++ l).takeWhile isRun = c :: r := takeW_run h2 hl
    have em : mkS (c :: r) = z := by rw [← e]; exact mk_tl z
    refine ⟨?_, c, r, e, fun x => ?_, fun x => ?_⟩
    · show pcAt (tl z ++ l) = (some ((if z ∈ owns then "own" else "name" : Str), PV.tx z, (tl z).length) : Option (Str × PV × Nat))
      rw [e]
      unfold pcAt
      rw [List.cons_append]
      dsimp only
      rw [← List.cons_append, if_pos h1]
      unfold runLen
      rw [et, em]
      split <;> rfl
    · rw [x] at h1; revert h1; decide
    · rw [x] at h1; revert h1; decide
/-- a sign of one letter -/
def tokS (sp : Nat) (c : Nat) : Tok := ⟨sp, [c], "own", .tx (mkS [c])⟩
def longN : List (List Nat) := [[33, 61], [60, 61], [62, 61]]
theorem longs_eq : longs = longN.map mkS := by decide +kernel
theorem mkS_inj {a b : List Nat} (h : mkS a = mkS b) : a = b := by
  exact congrArg tl h
theorem long_iff {l : List Nat} : mkS l ∈ longs ↔ l ∈ longN := by
  rw [longs_eq]
  refine ⟨fun h => ?_, fun h => List.mem_map.mpr ⟨l, h, rfl⟩⟩
  obtain ⟨a, ha, e⟩ := List.mem_map.mp h
  rw [← mkS_inj e]
  exact ha
theorem fits_sign {sp c : Nat} {l : List Nat} (hc : c ∈ shorts) (hl : (c = 60 ∨ c = 62) → ∀ r, l ≠ 61 :: r) : Fits (tokS sp c) l := by
  have hs : ∀ c ∈ shorts, isLet c = false ∧ isFig c = false ∧ c ≠ 34 ∧ c ≠ 35 ∧ c ≠ 32 ∧ c ≠ 33 := by decide +kernel
  obtain ⟨h1, h2, h3, h4, h5, h6⟩ := hs c hc
  refine ⟨?_, c, [], rfl, h4, h5⟩
  show pcAt (c :: l) = (some (("own" : Str), PV.tx (mkS [c]), 1) : Option (Str × PV × Nat))
  unfold pcAt
  dsimp only
  rw [h1, if_neg Bool.false_ne_true, h2, if_neg Bool.false_ne_true, if_neg h3]
  rw [if_neg (fun z => ?_), if_pos hc]
  rw [long_iff] at z
  cases l with
  | nil =>
    simp [longN] at z
  | cons d r =>
    have e : (c :: d :: r).take 2 = [c, d] := rfl
    rw [e] at z
    have z : [c, d] = [33, 61] ∨ [c, d] = [60, 61] ∨ [c, d] = [62, 61] := by simpa [longN] using z
    rcases z with z | z | z
    · injection z with z1 z2
      exact h6 z1
    · injection z with z1 z2
      injection z2 with z2 z3
      exact hl (.inl z1) r (by rw [z2])
    · injection z with z1 z2
      injection z2 with z2 z3
      exact hl (.inr z1) r (by rw [z2])
/-- a sign of two letters -/
def tokL (sp : Nat) (c : Nat) : Tok := ⟨sp, [c, 61], "own", .tx (mkS [c, 61])⟩
theorem fits_long {sp c : Nat} {l : List Nat} (hc : c ∈ [33, 60, 62]) : Fits (tokL sp c) l := by
  have hs : ∀ c ∈ [33, 60, 62], isLet c = false ∧ isFig c = false ∧ c ≠ 34 ∧ c ≠ 35 ∧ c ≠ 32 ∧ [c, 61] ∈ longN := by decide +kernel
  obtain ⟨h1, h2, h3, h4, h5, h6⟩ := hs c hc
  refine ⟨?_, c, [61], rfl, h4, h5⟩
  show pcAt (c :: 61 :: l) = (some (("own" : Str), PV.tx (mkS [c, 61]), 2) : Option (Str × PV × Nat))
  unfold pcAt
  dsimp only
  rw [h1, if_neg Bool.false_ne_true, h2, if_neg Bool.false_ne_true, if_neg h3]
  exact if_pos (long_iff.mpr h6)
/-- a number -/
def tokN (sp n : Nat) (w : List Nat) : Tok := ⟨sp, w, "number", .nm n⟩
theorem fits_num {sp n : Nat} {w l : List Nat} (hn : NumText.digitsVal w = n) (hw : isNumB w = true) (hf : w.all isFig = true) (h0 : w ≠ []) (hl : noRun l) : Fits (tokN sp n w) l := by
  have hr : w.all isRun = true := by
    rw [List.all_eq_true] at hf ⊢
    intro x hx
    unfold isRun
    rw [hf x hx, Bool.or_true]
  have et := takeW_run hr hl
  cases w with
  | nil => exact absurd rfl h0
  | cons c r =>
    rw [List.all_cons, Bool.and_eq_true] at hf
    have hc := hf.1
    have h1 : isLet c = false := by
      unfold isFig at hc
      unfold isLet
      have : 48 ≤ c ∧ c ≤ 57 := by simpa using hc
      have a : decide (97 ≤ c) = false := decide_eq_false (by omega)
      have b : decide (c = 95) = false := decide_eq_false (by omega)
      rw [a, b]
      rfl
    refine ⟨?_, c, r, rfl, fun x => ?_, fun x => ?_⟩
    · show pcAt ((c :: r) ++ l) = (some (("number" : Str), PV.nm n, (c :: r).length) : Option (Str × PV × Nat))
      unfold pcAt
      rw [List.cons_append]
      dsimp only
      rw [← List.cons_append, h1, if_neg Bool.false_ne_true, if_pos hc]
      unfold runLen
      rw [et, if_pos hw, hn]
    · rw [x] at hc; revert hc; decide
    · rw [x] at hc; revert hc; decide
/-- a text in quotes -/
def tokQ (sp : Nat) (z : Str) : Tok := ⟨sp, 34 :: (tl z ++ [34]), "quoted", .tx z⟩
theorem takeW_quo {q l : List Nat} (h : 34 ∉ q) : (q ++ 34 :: l).takeWhile (fun x => decide (x ≠ 34)) = q := by
  induction q with
  | nil => rfl
  | cons c r ih =>
    have hc : c ≠ 34 := fun z => h (by rw [← z]; exact List.mem_cons_self)
    rw [List.cons_append, List.takeWhile_cons, if_pos (decide_eq_true hc), ih fun z => h (List.mem_cons_of_mem _ z)]
theorem fits_quo {sp : Nat} {z : Str} {l : List Nat} (h : 34 ∉ tl z) : Fits (tokQ sp z) l := by
  refine ⟨?_, 34, tl z ++ [34], rfl, by decide, by decide⟩
  show pcAt ((34 :: (tl z ++ [34])) ++ l) = (some (("quoted" : Str), PV.tx z, (34 :: (tl z ++ [34])).length) : Option (Str × PV × Nat))
  have e : (34 :: (tl z ++ [34])) ++ l = 34 :: (tl z ++ 34 :: l) := by
    rw [List.cons_append, List.append_assoc]
    rfl
  rw [e]
  unfold pcAt
  dsimp only
  rw [show isLet 34 = false by decide, if_neg Bool.false_ne_true, show isFig 34 = false by decide, if_neg Bool.false_ne_true, if_pos rfl, if_pos (by simp), takeW_quo h, show mkS (tl z) = z from mk_tl z]
  simp
end Kx

namespace Kx
open PySem PySem.Spec PyProof.Rows L2 TL
/-! ### from a place on -/
/-- behind place i stand the pieces of ts; at_ signs stand ahead of them -/
def Rst' (ps : List Pc) (i all at_ : Nat) (ts : List Tok) : Prop := ps.drop i = pcsT all at_ ts
theorem pcsT_pos {all at_ : Nat} {ts : List Tok} : 0 < (pcsT all at_ ts).length := by
  cases ts with
  | nil => exact Nat.succ_pos _
  | cons t r => exact Nat.succ_pos _
theorem pcsT_len {all : Nat} : ∀ {at_ : Nat} {ts : List Tok}, (pcsT all at_ ts).length = ts.length + 1
  | _, [] => rfl
  | at_, t :: r => by
    show (pcsT all _ r).length + 1 = _
    rw [pcsT_len]
    rfl
section
variable {ps : List Pc} {i all at_ : Nat} {t : Tok} {r ts : List Tok}
theorem Rst'.lt (h : Rst' ps i all at_ ts) : i < ps.length := by
  have h1 : (ps.drop i).length = (pcsT all at_ ts).length := by rw [h]
  have h2 := pcsT_pos (all := all) (at_ := at_) (ts := ts)
  rw [List.length_drop] at h1
  omega
theorem Rst'.len (h : Rst' ps i all at_ ts) : ps.length = i + ts.length + 1 := by
  have h1 : (ps.drop i).length = (pcsT all at_ ts).length := by rw [h]
  have h2 := h.lt
  rw [List.length_drop, pcsT_len] at h1
  omega
theorem curP_drop (ps : List Pc) (i : Nat) : curP ps i = curP (ps.drop i) 0 := by
  unfold curP
  rw [List.getD_eq_getElem?_getD, List.getD_eq_getElem?_getD, List.getElem?_drop, Nat.add_zero]
theorem Rst'.cur (h : Rst' ps i all at_ (t :: r)) : curP ps i = ⟨t.k, t.v, at_ + t.sp + 1⟩ := by
  rw [curP_drop, show ps.drop i = _ from h]
  rfl
theorem Rst'.fin (h : Rst' ps i all at_ []) : curP ps i = ⟨"end", .tx "", all + 1⟩ := by
  rw [curP_drop, show ps.drop i = _ from h]
  rfl
theorem Rst'.next (h : Rst' ps i all at_ (t :: r)) : Rst' ps (i + 1) all (at_ + t.sp + t.w.length) r := by
  have e : ps.drop (i + 1) = (ps.drop i).drop 1 := by rw [List.drop_drop]
  unfold Rst'
  rw [e, show ps.drop i = _ from h]
  rfl
end
def lenT : List Tok → Nat
  | [] => 0
  | t :: r => t.sp + t.w.length + lenT r
theorem lenT_append (a b : List Tok) : lenT (a ++ b) = lenT a + lenT b := by
  induction a with
  | nil => exact (Nat.zero_add _).symm
  | cons t r ih =>
    show t.sp + t.w.length + lenT (r ++ b) = t.sp + t.w.length + lenT r + lenT b
    rw [ih, Nat.add_assoc (t.sp + t.w.length)]
theorem Rst'.skip {ps : List Pc} {all : Nat} : ∀ {i at_ : Nat} {a b : List Tok}, Rst' ps i all at_ (a ++ b) → Rst' ps (i + a.length) all (at_ + lenT a) b
  | _, _, [], _, h => h
  | i, at_, t :: a, b, h => by
    have h2 := Rst'.skip (a := a) (h : Rst' ps i all at_ (t :: (a ++ b))).next
    rw [show i + (t :: a).length = i + 1 + a.length by rw [List.length_cons]; omega, show at_ + lenT (t :: a) = at_ + t.sp + t.w.length + lenT a by show at_ + (t.sp + t.w.length + lenT a) = _; omega]
    exact h2
/-- the own word of a piece -/
def Tok.own (t : Tok) : Str := if t.k = "own" then txt t.v else ""
theorem own_rst {ps : List Pc} {i all at_ : Nat} {t : Tok} {r : List Tok} (h : Rst' ps i all at_ (t :: r)) : ownW ps i = t.own := by
  unfold ownW
  rw [h.cur]
  unfold Tok.own txt
  rfl
theorem own_fin {ps : List Pc} {i all at_ : Nat} (h : Rst' ps i all at_ []) : ownW ps i = "" := by
  unfold ownW
  rw [h.fin]
  exact if_neg (show ¬ ("end" : Str) = "own" by decide +kernel)
def ownH : List Tok → Str
  | [] => ""
  | t :: _ => t.own
theorem own_hd {ps : List Pc} {i all at_ : Nat} : ∀ {ts : List Tok}, Rst' ps i all at_ ts → ownW ps i = ownH ts
  | [], h => own_fin h
  | _ :: _, h => own_rst h
def nlev (ts : List Tok) : Nat := levW (ownH ts)
theorem nlev_hd {ps : List Pc} {i all at_ : Nat} {ts : List Tok} (h : Rst' ps i all at_ ts) : nextLev ps i = nlev ts := by
  unfold nextLev nlev
  rw [own_hd h]
/-! ### how expressions are written -/
def leafT (t : Tok) : Option Ex := leafP ⟨t.k, t.v, 0⟩
abbrev PtP : Type := Nat → Ex → List Tok → Nat → Prop
/-- an operand: the level, the expression, its pieces, and the least level of what stands open at its end -/
inductive OpnR (Q : PtP) : PtP
  | leaf {l : Nat} {e : Ex} {t : Tok} : leafT t = some e → t.k ≠ "own" → OpnR Q l e [t] 100
  | nt {l : Nat} {e : Ex} {ts : List Tok} {r : Nat} {t : Tok} : l ≤ 3 → t.own = "not" → Q 3 e ts r → OpnR Q l (.nt e) (t :: ts) (min 3 r)
  | mn {l : Nat} {e : Ex} {ts : List Tok} {r : Nat} {t : Tok} : t.own = "-" → Q 7 e ts r → OpnR Q l (.mn e) (t :: ts) (min 7 r)
  | par {l : Nat} {e : Ex} {ts : List Tok} {r : Nat} {a b : Tok} : a.own = "(" → b.own = ")" → largeE e = false → 0 < r → Q 1 e ts r → OpnR Q l e (a :: (ts ++ [b])) 100
  | ln {l : Nat} {e : Ex} {ts : List Tok} {r : Nat} {c a b : Tok} : c.own = "length" → a.own = "(" → b.own = ")" → largeE e = false → 0 < r → Q 1 e ts r → OpnR Q l (.ln e) (c :: a :: (ts ++ [b])) 100
/-- operands with signs between -/
inductive LpR (Q : PtP) (l : Nat) : Ex → List Tok → Nat → Prop
  | op {e : Ex} {ts : List Tok} {r : Nat} : OpnR Q l e ts r → LpR Q l e ts r
  | two {e e2 : Ex} {ts ts2 : List Tok} {r r2 k : Nat} {s : Tok} : LpR Q l e ts r → levW s.own = k → l ≤ k → 1 ≤ l → k < r → Q (k + 1) e2 ts2 r2 → LpR Q l (.two s.own e e2) (ts ++ s :: ts2) (min (if k = 4 then 4 else k + 1) r2)
def Pt : Nat → PtP
  | 0 => fun _ _ _ _ => False
  | f + 1 => fun l e ts r => LpR (Pt f) l e ts r
/-- what reading tells of what is so written -/
def Says (Q : PtP) (rec : List Pc → Nat → Nat → Rd1) : Prop := ∀ (l : Nat) (e : Ex) (ts : List Tok) (r : Nat), Q l e ts r → ∀ (ps : List Pc) (i all at_ : Nat) (rest : List Tok), Rst' ps i all at_ (ts ++ rest) → nlev rest < r → nlev rest < l → rec ps l i = if l = 1 ∧ largeE e = true then .error (i + ts.length) else .ok (e, i + ts.length)
theorem lev_rb : levW ")" = 0 := by decide +kernel
theorem own_ne {a b : Str} {t : Tok} (h : t.own = a) (hb : b ≠ a) : ¬ t.own = b := fun z => hb (z.symm.trans h)
theorem op_says {Q : PtP} {rec : List Pc → Nat → Nat → Rd1} (S : Says Q rec) {l : Nat} {e : Ex} {ts : List Tok} {r : Nat} (h : OpnR Q l e ts r) {ps : List Pc} {i all at_ : Nat} {rest : List Tok} (hr : Rst' ps i all at_ (ts ++ rest)) (hn : nlev rest < r) : rdOper ps (rec ps) l i = .ok (e, i + ts.length) := by
  cases h with
  | leaf hl hk =>
    rename_i t
    have h0 : ownW ps i = "" := (own_rst hr).trans (if_neg hk)
    unfold rdOper
    rw [h0, if_neg (fun z => absurd z.2 (show ¬ ("" : Str) = "not" by decide +kernel)), if_neg (show ¬ ("" : Str) = "-" by decide +kernel), if_neg (show ¬ ("" : Str) = "(" by decide +kernel), if_neg (show ¬ ("" : Str) = "length" by decide +kernel)]
    have hc : leafP (curP ps i) = some e := by
      rw [Rst'.cur hr]
      exact hl
    rw [hc]
    rfl
  | nt hl ho hq =>
    rename_i e' ts' r' t
    have h0 : ownW ps i = "not" := (own_rst hr).trans ho
    unfold rdOper
    rw [h0, if_pos ⟨hl, rfl⟩]
    have := S 3 e' ts' r' hq ps (i + 1) all _ rest (Rst'.next hr) (by omega) (by omega)
    rw [this, if_neg (fun z => absurd z.1 (by decide))]
    show Except.ok (Ex.nt e', i + 1 + ts'.length) = _
    rw [List.length_cons, show i + 1 + ts'.length = i + (ts'.length + 1) by omega]
  | mn ho hq =>
    rename_i e' ts' r' t
    have h0 : ownW ps i = "-" := (own_rst hr).trans ho
    unfold rdOper
    rw [h0, if_neg (fun z => absurd z.2 (show ¬ ("-" : Str) = "not" by decide +kernel)), if_pos rfl]
    have := S 7 e' ts' r' hq ps (i + 1) all _ rest (Rst'.next hr) (by omega) (by omega)
    rw [this, if_neg (fun z => absurd z.1 (by decide))]
    show Except.ok (Ex.mn e', i + 1 + ts'.length) = _
    rw [List.length_cons, show i + 1 + ts'.length = i + (ts'.length + 1) by omega]
  | par ha hb hg hr0 hq =>
    rename_i ts' r' a b
    have h0 : ownW ps i = "(" := (own_rst hr).trans ha
    have hr' : Rst' ps (i + 1) all (at_ + a.sp + a.w.length) (ts' ++ b :: rest) := by
      have this : Rst' ps (i + 1) all (at_ + a.sp + a.w.length) ((ts' ++ [b]) ++ rest) := Rst'.next hr
      rw [List.append_assoc] at this
      exact this
    have hb0 : nlev (b :: rest) = 0 := by
      show levW b.own = 0
      rw [hb]
      exact lev_rb
    unfold rdOper
    rw [h0, if_neg (fun z => absurd z.2 (show ¬ ("(" : Str) = "not" by decide +kernel)), if_neg (show ¬ ("(" : Str) = "-" by decide +kernel), if_pos rfl]
    have := S 1 e ts' r' hq ps (i + 1) all _ (b :: rest) hr' (by omega) (by omega)
    rw [this, if_neg (fun z => absurd z.2 (by rw [hg]; exact Bool.false_ne_true))]
    have hs := hr'.skip
    show closeR ps id e (i + 1 + ts'.length) = _
    unfold closeR
    rw [if_pos ((own_rst hs).trans hb), List.length_cons, List.length_append, show i + 1 + ts'.length + 1 = i + (ts'.length + ([b] : List Tok).length + 1) by show _ = i + (ts'.length + 1 + 1); omega]
    rfl
  | ln hc ha hb hg hr0 hq =>
    rename_i e' ts' r' c a b
    have h0 : ownW ps i = "length" := (own_rst hr).trans hc
    have h1 : ownW ps (i + 1) = "(" := (own_rst (Rst'.next hr)).trans ha
    have hr' : Rst' ps (i + 2) all (at_ + c.sp + c.w.length + a.sp + a.w.length) (ts' ++ b :: rest) := by
      have this : Rst' ps (i + 2) all (at_ + c.sp + c.w.length + a.sp + a.w.length) ((ts' ++ [b]) ++ rest) := Rst'.next (Rst'.next hr)
      rw [List.append_assoc] at this
      exact this
    have hb0 : nlev (b :: rest) = 0 := by
      show levW b.own = 0
      rw [hb]
      exact lev_rb
    unfold rdOper
    rw [h0, if_neg (fun z => absurd z.2 (show ¬ ("length" : Str) = "not" by decide +kernel)), if_neg (show ¬ ("length" : Str) = "-" by decide +kernel), if_neg (show ¬ ("length" : Str) = "(" by decide +kernel), if_pos rfl, if_pos h1]
    have := S 1 e' ts' r' hq ps (i + 2) all _ (b :: rest) hr' (by omega) (by omega)
    rw [this, if_neg (fun z => absurd z.2 (by rw [hg]; exact Bool.false_ne_true))]
    have hs := hr'.skip
    show closeR ps Ex.ln e' (i + 2 + ts'.length) = _
    unfold closeR
    rw [if_pos ((own_rst hs).trans hb), List.length_cons, List.length_cons, List.length_append, show i + 2 + ts'.length + 1 = i + (ts'.length + ([b] : List Tok).length + 1 + 1) by show _ = i + (ts'.length + 1 + 1 + 1); omega]
theorem lp_pos {Q : PtP} {l : Nat} {e : Ex} {ts : List Tok} {r : Nat} (h : LpR Q l e ts r) : 0 < ts.length := by
  induction h with
  | op h => cases h <;> exact Nat.succ_pos _
  | two _ _ _ _ _ _ ih => rw [List.length_append]; omega
theorem lp_says {Q : PtP} {rec : List Pc → Nat → Nat → Rd1} (S : Says Q rec) {l : Nat} {e : Ex} {ts : List Tok} {r : Nat} (h : LpR Q l e ts r) : ∀ {ps : List Pc} {i all at_ : Nat} {rest : List Tok}, Rst' ps i all at_ (ts ++ rest) → nlev rest < r → ∃ g, ps.length < g + ts.length + 1 ∧ (thenR (rdOper ps (rec ps) l i) fun e j => rdLoop ps (rec ps) l ps.length e j) = rdLoop ps (rec ps) l g e (i + ts.length) := by
  induction h with
  | op h =>
    intro ps i all at_ rest hr hn
    refine ⟨ps.length, by omega, ?_⟩
    rw [op_says S h hr hn]
    rfl
  | two h1 hk hl hl1 hkr hq ih =>
    rename_i e e2 ts ts2 r r2 k s
    intro ps i all at_ rest hr hn
    have hr1 : Rst' ps i all at_ (ts ++ s :: (ts2 ++ rest)) := by
      rw [List.append_assoc] at hr
      exact hr
    have hnk : nlev (s :: (ts2 ++ rest)) = k := hk
    obtain ⟨g, hg, e1⟩ := ih hr1 (by rw [hnk]; exact hkr)
    have hs := hr1.skip
    have hl := hr1.len
    rw [List.length_append, List.length_cons, List.length_append] at hl
    obtain ⟨g', rfl⟩ : ∃ g', g = g' + 1 := ⟨g - 1, by omega⟩
    have hnl : nextLev ps (i + ts.length) = k := (nlev_hd hs).trans hnk
    have how : ownW ps (i + ts.length) = s.own := own_rst hs
    refine ⟨g', by rw [List.length_append, List.length_cons]; omega, ?_⟩
    have hmin : nlev rest < (if k = 4 then 4 else k + 1) ∧ nlev rest < r2 := by omega
    have hk1 : (if k = 4 then 4 else k + 1) ≤ k + 1 := by split <;> omega
    have e2' := S (k + 1) e2 ts2 r2 hq ps (i + ts.length + 1) all _ rest hs.next (by omega) (by omega)
    rw [if_neg (fun z => absurd z.1 (by omega))] at e2'
    have hend := hs.next.skip
    rw [e1, rdLoop, hnl, if_pos (by omega), e2', how]
    show (if k = 4 ∧ nextLev ps (i + ts.length + 1 + ts2.length) = 4 then _ else rdLoop ps (rec ps) l g' (.two s.own e e2) (i + ts.length + 1 + ts2.length)) = _
    rw [if_neg (fun z => by
      have h4 := (nlev_hd hend).symm.trans z.2
      rw [if_pos z.1] at hmin
      omega), List.length_append, List.length_cons, show i + ts.length + 1 + ts2.length = i + (ts.length + (ts2.length + 1)) by omega]
theorem pt_says : ∀ f : Nat, Says (Pt f) (fun ps l i => rdPart ps f l i)
  | 0 => fun l e ts r h => h.elim
  | f + 1 => fun l e ts r h ps i all at_ rest hr hn hl => by
    obtain ⟨g, hg, e1⟩ := lp_says (pt_says f) (h : LpR (Pt f) l e ts r) hr hn
    have hs := hr.skip
    have hz : rdLoop ps (rdPart ps f) l g e (i + ts.length) = .ok (e, i + ts.length) := by
      cases g with
      | zero => rfl
      | succ g =>
        rw [rdLoop, if_neg (by rw [nlev_hd hs]; omega)]
    show rdPart ps (f + 1) l i = _
    rw [rdPart]
    have e3 : (thenR (rdOper ps (rdPart ps f) l i) fun e j => thenR (rdLoop ps (rdPart ps f) l ps.length e j) fun e2 k => if l = 1 ∧ largeE e2 = true then .error k else .ok (e2, k)) = thenR (thenR (rdOper ps (rdPart ps f) l i) fun e j => rdLoop ps (rdPart ps f) l ps.length e j) fun e2 k => if l = 1 ∧ largeE e2 = true then .error k else .ok (e2, k) := by
      cases rdOper ps (rdPart ps f) l i <;> rfl
    rw [e3]
    have e4 : (thenR (rdOper ps (rdPart ps f) l i) fun e j => rdLoop ps (rdPart ps f) l ps.length e j) = .ok (e, i + ts.length) := e1.trans hz
    rw [e4]
    rfl
end Kx

namespace Kx
open PySem PySem.Spec PyProof.Rows L2 TL
/-! ### readings of what is written -/
/-- rd reads a from ts, where what comes behind is as ok says -/
def RdSays {A : Type} (rd : Rdg A) (a : A) (ts : List Tok) (ok : List Tok → Prop) : Prop := ∀ (ps : List Pc) (i all at_ : Nat) (rest : List Tok), Rst' ps i all at_ (ts ++ rest) → ok rest → rd ps i = .ok (a, i + ts.length)
theorem word_says {ws : List Str} {t : Tok} (h : t.own ∈ ws) : RdSays (rdWord ws) t.own [t] fun _ => True := fun ps i all at_ rest hr _ => by
  have h0 : ownW ps i = t.own := own_rst hr
  unfold rdWord
  rw [h0, if_pos h]
  rfl
theorem name_says {t : Tok} {z : Str} (hk : t.k = "name") (hv : t.v = .tx z) : RdSays rdName z [t] fun _ => True := fun ps i all at_ rest hr _ => by
  unfold rdName
  rw [Rst'.cur hr]
  dsimp only
  rw [if_pos hk, hv]
  rfl
theorem thenA_says {A B : Type} {rd : Rdg A} {k : A → Rdg B} {a : A} {b : B} {ts us : List Tok} {ok1 ok2 : List Tok → Prop} (h1 : RdSays rd a ts ok1) (h2 : RdSays (k a) b us ok2) (hok : ∀ rest, ok2 rest → ok1 (us ++ rest)) : RdSays (fun ps i => thenA (rd ps i) fun a j => k a ps j) b (ts ++ us) ok2 := fun ps i all at_ rest hr hok2 => by
  rw [List.append_assoc] at hr
  have e1 := h1 ps i all at_ (us ++ rest) hr (hok rest hok2)
  have e2 := h2 ps (i + ts.length) all _ rest hr.skip hok2
  dsimp only
  rw [e1]
  show k a ps (i + ts.length) = _
  rw [e2, List.length_append, Nat.add_assoc]
theorem pure_says {A : Type} {a : A} : RdSays (fun _ i => (.ok (a, i) : Except Nat (A × Nat))) a [] fun _ => True := fun ps i all at_ rest hr _ => rfl
theorem RdSays.mono {A : Type} {rd : Rdg A} {a : A} {ts : List Tok} {ok ok2 : List Tok → Prop} (h : RdSays rd a ts ok) (hk : ∀ r, ok2 r → ok r) : RdSays rd a ts ok2 := fun ps i all at_ rest hr h2 => h ps i all at_ rest hr (hk rest h2)
theorem expr_says {e : Ex} {ts : List Tok} {r : Nat} (h : Pt 100 1 e ts r) (hr : 0 < r) (hg : largeE e = false) : RdSays rdExpr e ts fun rest => nlev rest = 0 := fun ps i all at_ rest h1 h2 => by
  have := pt_says 100 1 e ts r h ps i all at_ rest h1 (by omega) (by omega)
  rw [if_neg (fun z => absurd z.2 (by rw [hg]; exact Bool.false_ne_true))] at this
  exact this
/-- a row with commas between -/
def commaT {A : Type} (c : Tok) : List (A × List Tok) → List Tok
  | [] => []
  | x :: r => c :: (x.2 ++ commaT c r)
theorem items_says {A : Type} {rd : Rdg A} {c : Tok} {ok okEnd : List Tok → Prop} (hc : c.own = ",") (hok : ∀ r, ok (c :: r)) (hend : ∀ r, okEnd r → ok r ∧ ownH r ≠ ",") : ∀ (xs : List (A × List Tok)), (∀ x ∈ xs, RdSays rd x.1 x.2 ok) → ∀ (as : List A) (g : Nat), xs.length ≤ g → RdSays (fun ps i => rdItems rd ps g as i) (as ++ xs.map (·.1)) (commaT c xs) okEnd
  | [], _, as, g, _ => fun ps i all at_ rest hr h => by
    have hn : ¬ ownW ps i = "," := by
      rw [own_hd hr]
      exact (hend rest h).2
    show rdItems rd ps g as i = _
    rw [List.map_nil, List.append_nil]
    cases g with
    | zero => rfl
    | succ g =>
      rw [rdItems, if_neg hn]
      rfl
  | x :: xs, hx, as, g, hg => fun ps i all at_ rest hr h => by
    obtain ⟨g', rfl⟩ : ∃ g', g = g' + 1 := ⟨g - 1, by rw [List.length_cons] at hg; omega⟩
    have hw : ownW ps i = "," := (own_rst hr).trans hc
    have hr2 : Rst' ps (i + 1) all (at_ + c.sp + c.w.length) (x.2 ++ (commaT c xs ++ rest)) := by
      have this : Rst' ps (i + 1) all (at_ + c.sp + c.w.length) ((x.2 ++ commaT c xs) ++ rest) := Rst'.next hr
      rw [List.append_assoc] at this
      exact this
    have okx : ok (commaT c xs ++ rest) := by
      cases xs with
      | nil => exact (hend rest h).1
      | cons y ys => exact hok _
    have e1 := hx x List.mem_cons_self ps (i + 1) all _ _ hr2 okx
    have e2 := items_says hc hok hend xs (fun y hy => hx y (List.mem_cons_of_mem _ hy)) (as ++ [x.1]) g' (by rw [List.length_cons] at hg; omega) ps (i + 1 + x.2.length) all _ rest hr2.skip h
    show rdItems rd ps (g' + 1) as i = _
    rw [rdItems, if_pos hw, e1]
    show rdItems rd ps g' (as ++ [x.1]) (i + 1 + x.2.length) = _
    refine Eq.trans e2 ?_
    rw [List.map_cons, List.append_assoc]
    show Except.ok (as ++ ([x.1] ++ xs.map (·.1)), i + 1 + x.2.length + (commaT c xs).length) = Except.ok (as ++ x.1 :: xs.map (·.1), i + (x.2 ++ commaT c xs).length.succ)
    rw [List.length_append, show i + 1 + x.2.length + (commaT c xs).length = i + (x.2.length + (commaT c xs).length).succ by omega]
    rfl
theorem list_says {A : Type} {rd : Rdg A} {c : Tok} {ok okEnd : List Tok → Prop} (hc : c.own = ",") (hok : ∀ r, ok (c :: r)) (hend : ∀ r, okEnd r → ok r ∧ ownH r ≠ ",") {x : A × List Tok} {xs : List (A × List Tok)} (hx : ∀ y ∈ x :: xs, RdSays rd y.1 y.2 ok) : RdSays (rdList rd) ((x :: xs).map (·.1)) (x.2 ++ commaT c xs) okEnd := fun ps i all at_ rest hr h => by
  rw [List.append_assoc] at hr
  have okx : ok (commaT c xs ++ rest) := by
    cases xs with
    | nil => exact (hend rest h).1
    | cons y ys => exact hok _
  have e1 := hx x List.mem_cons_self ps i all at_ _ hr okx
  have hl := hr.len
  have hcl : xs.length ≤ (commaT c xs).length := by
    clear e1 okx hr hl hx
    induction xs with
    | nil => exact Nat.le_refl _
    | cons y ys ih =>
      show ys.length + 1 ≤ (y.2 ++ commaT c ys).length + 1
      rw [List.length_append]
      omega
  rw [List.length_append, List.length_append] at hl
  have e2 := items_says hc hok hend xs (fun y hy => hx y (List.mem_cons_of_mem _ hy)) [x.1] ps.length (by omega) ps (i + x.2.length) all _ rest hr.skip h
  unfold rdList
  rw [e1]
  show rdItems rd ps ps.length [x.1] (i + x.2.length) = _
  refine Eq.trans e2 ?_
  rw [List.length_append, Nat.add_assoc]
  rfl
/-! ### rows and jobs -/
theorem row_of {z : Str} {ts : List Tok} {tail : List Nat} {st : JSt} (h : tl z = layT ts tail) (ok : LaysOk ts tail) (hn : nbr ts ≤ 300) : rdRow st z = toEnd (pcsT z.length 0 ts) (rdTold st (pcsT z.length 0 ts)) := by
  unfold rdRow
  rw [pieces_lay h ok hn]
theorem rst_start {z : Str} {ts : List Tok} : Rst' (pcsT z.length 0 ts) 0 z.length 0 ts := rfl
/-- a step's row -/
theorem row_step {z : Str} {ts : List Tok} {tail : List Nat} {sts : List Stq} {s : Stq} (h : tl z = layT ts tail) (ok : LaysOk ts tail) (hn : nbr ts ≤ 300) (h0 : ts ≠ []) (ha : ownH ts ≠ "answer") (hs : RdSays rdStep s ts fun r => r = []) : rdRow (none, sts) z = .ok (none, sts ++ [s]) := by
  rw [row_of h ok hn]
  have hr : Rst' (pcsT z.length 0 ts) 0 z.length 0 (ts ++ []) := by
    rw [List.append_nil]
    exact rst_start
  generalize pcsT z.length 0 ts = ps at hr ⊢
  have hr' := hr
  rw [List.append_nil] at hr'
  have e1 := hs ps 0 z.length 0 [] hr rfl
  have hfin := hr.skip.fin
  cases ts with
  | nil => exact absurd rfl h0
  | cons t r =>
    have ho : ¬ ownW ps 0 = "answer" := by
      rw [own_hd hr']
      exact ha
    have hk : ¬ (curP ps 0).kind = "end" := by
      rw [hr'.cur]
      exact (pcAt_ok (c := 0) ok.1.at_).ne
    unfold rdTold
    dsimp only
    rw [if_neg ho, e1]
    rw [if_neg hk]
    show (if (curP ps (0 + (t :: r).length)).kind = "end" then _ else _) = _
    rw [hfin, if_pos rfl]
/-- a step that is wrong -/
theorem row_wrong {z : Str} {ts : List Tok} {tail : List Nat} {sts : List Stq} {j : Nat} (h : tl z = layT ts tail) (ok : LaysOk ts tail) (hn : nbr ts ≤ 300) (h0 : ts ≠ []) (ha : ownH ts ≠ "answer") (hs : rdStep (pcsT z.length 0 ts) 0 = .error j) : rdRow (none, sts) z = .error (curP (pcsT z.length 0 ts) j).col := by
  rw [row_of h ok hn]
  have hr : Rst' (pcsT z.length 0 ts) 0 z.length 0 ts := rst_start
  generalize pcsT z.length 0 ts = ps at hr hs ⊢
  cases ts with
  | nil => exact absurd rfl h0
  | cons t r =>
    have ho : ¬ ownW ps 0 = "answer" := by
      rw [own_hd hr]
      exact ha
    have hk : ¬ (curP ps 0).kind = "end" := by
      rw [hr.cur]
      exact (pcAt_ok (c := 0) ok.1.at_).ne
    unfold rdTold
    dsimp only
    rw [if_neg ho, hs, if_neg hk]
    rfl
/-- the answer's row -/
theorem row_answer {z nm : Str} {t1 t2 : Tok} {tail : List Nat} {sts : List Stq} (h : tl z = layT [t1, t2] tail) (ok : LaysOk [t1, t2] tail) (h1 : t1.own = "answer") (h2 : t2.k = "name") (h3 : t2.v = .tx nm) : rdRow (none, sts) z = .ok (some nm, sts) := by
  have hn : nbr [t1, t2] ≤ 300 := by
    show _ + (_ + 0) ≤ 300
    have : ∀ b : Bool, (if b = true then 0 else 1) ≤ 1 := fun b => by cases b <;> decide
    have a := this (isBr t1.k t1.v)
    have b := this (isBr t2.k t2.v)
    omega
  rw [row_of h ok hn]
  have hr : Rst' (pcsT z.length 0 [t1, t2]) 0 z.length 0 [t1, t2] := rst_start
  generalize pcsT z.length 0 [t1, t2] = ps at hr ⊢
  have ho : ownW ps 0 = "answer" := (own_rst hr).trans h1
  have e1 : rdName ps 1 = .ok (nm, 1 + 1) := name_says h2 h3 ps 1 z.length _ [] hr.next trivial
  unfold rdTold
  dsimp only
  rw [if_pos ho, e1]
  show (if (curP ps 2).kind = "end" then _ else _) = _
  rw [hr.next.next.fin, if_pos rfl]
/-- a row of blanks -/
theorem row_blank {z : Str} {tail : List Nat} {st : JSt} (h : tl z = tail) (ok : TailOk tail) : rdRow st z = .ok st := by
  rw [row_of (ts := []) (tail := tail) h ok (Nat.zero_le _)]
  have hr : Rst' (pcsT z.length 0 []) 0 z.length 0 [] := rst_start
  generalize pcsT z.length 0 [] = ps at hr ⊢
  obtain ⟨a, sts⟩ := st
  have hf := hr.fin
  have hk : (curP ps 0).kind = "end" := by rw [hf]
  have ho : ¬ ownW ps 0 = "answer" := by
    rw [own_fin hr]
    decide +kernel
  unfold rdTold
  cases a with
  | some a => exact if_pos hk
  | none =>
    dsimp only
    rw [if_neg ho, if_pos hk]
    exact if_pos hk
theorem rows_cons {z : Str} {r : List Str} {st st' : JSt} {n : Nat} (h : rdRow st z = .ok st') : rdRows (z :: r) st n = rdRows r st' (n + 1) := by
  rw [rdRows, h]
theorem rows_wrong {z : Str} {r : List Str} {st : JSt} {n c : Nat} (h : rdRow st z = .error c) : rdRows (z :: r) st n = .error (n, c) := by
  rw [rdRows, h]
end Kx

namespace Kx
open PySem PySem.Spec PyProof.Rows L2 TL
/-! ### steps that are written -/
/-- a name's piece -/
structure NmT (t : Tok) (z : Str) : Prop where
  k : t.k = "name"
  v : t.v = .tx z
theorem NmT.own {t : Tok} {z : Str} (h : NmT t z) : t.own = "" := by
  unfold Tok.own
  rw [h.k]
  exact if_neg (show ¬ ("name" : Str) = "own" by decide +kernel)
theorem NmT.says {t : Tok} {z : Str} (h : NmT t z) : RdSays rdName z [t] fun _ => True := name_says h.k h.v
theorem nmT_word {sp : Nat} {z : Str} (h : z ∉ owns) : NmT (tokW sp z) z := ⟨if_neg h, rfl⟩
theorem own_word {sp : Nat} {z : Str} (h : z ∈ owns) : (tokW sp z).own = z := by
  unfold Tok.own tokW
  dsimp only
  rw [if_pos h, if_pos rfl]
  rfl
theorem new_says {t1 t2 : Tok} {z : Str} (h1 : t1.own = "as") (h2 : NmT t2 z) : RdSays rdNew z [t1, t2] fun _ => True := by
  have a : RdSays (rdWord ["as"]) t1.own [t1] fun _ => True := word_says (by rw [h1]; exact List.mem_cons_self)
  exact thenA_says (k := fun _ ps j => rdName ps j) a h2.says fun _ _ => trivial
theorem mapped_says {e : Ex} {ts : List Tok} {r : Nat} {t1 t2 : Tok} {z : Str} (h : Pt 100 1 e ts r) (hr : 0 < r) (hg : largeE e = false) (h1 : t1.own = "as") (h2 : NmT t2 z) : RdSays rdMapped (e, z) (ts ++ [t1, t2]) fun _ => True := by
  refine thenA_says (k := fun (e : Ex) ps j => if e.word = ("column" : Str) ∧ ownW ps j ≠ "as" then .ok ((e, e.colN), j) else thenA (rdNew ps j) fun z k => .ok ((e, z), k)) (expr_says h hr hg) (us := [t1, t2]) (ok2 := fun _ => True) ?_ fun rest _ => ?_
  · intro ps i all at_ rest h3 _
    have hw : ownW ps i = "as" := (own_rst h3).trans h1
    dsimp only
    rw [if_neg (fun z => z.2 hw), new_says h1 h2 ps i all at_ rest h3 trivial]
    rfl
  · show levW t1.own = 0
    rw [h1]
    decide +kernel
theorem mapped_alone {c : Str} {t : Tok} (h : NmT t c) : RdSays rdMapped (.col c, c) [t] fun rest => ownH rest = "," ∨ rest = [] := fun ps i all at_ rest hr hk => by
  have hp : Pt 100 1 (.col c) [t] 100 := .op (.leaf (by
    unfold leafT leafP
    rw [h.k, h.v]
    dsimp only
    rw [if_neg (by decide +kernel), if_pos rfl]) (by rw [h.k]; decide +kernel))
  have hn : nlev rest = 0 ∧ ownH rest ≠ "as" := by
    unfold nlev
    rcases hk with hk | rfl
    · rw [hk]
      decide +kernel
    · decide +kernel
  have e1 := expr_says hp (by decide) (by rfl) ps i all at_ rest hr hn.1
  unfold rdMapped
  rw [e1]
  show (if Ex.word (.col c) = "column" ∧ ownW ps (i + 1) ≠ "as" then _ else _) = _
  rw [if_pos ⟨rfl, by rw [own_hd (Rst'.next hr)]; exact hn.2⟩]
  rfl
theorem step_says {t1 t2 t3 : Tok} {nm wh : Str} {r : Rst} {L : List Tok} {ok : List Tok → Prop} (h1 : NmT t1 nm) (h2 : t2.own = "=") (h3 : t3.own = wh) (hw : wh ∈ seven) (h : RdSays (rdRest wh) r L ok) : RdSays rdStep (.step nm wh r) (t1 :: t2 :: t3 :: L) ok := fun ps i all at_ rest hr hok => by
  have ho : ¬ ownW ps i = "read" := by
    rw [show ownW ps i = t1.own from own_rst hr, h1.own]
    decide +kernel
  have a : RdSays (rdWord ["="]) t2.own [t2] fun _ => True := word_says (by rw [h2]; exact List.mem_cons_self)
  have b : RdSays (rdWord seven) t3.own [t3] fun _ => True := word_says (by rw [h3]; exact hw)
  rw [h3] at b
  have c1 : RdSays (fun ps i => thenA (rdRest wh ps i) fun r k => .ok (Stq.step nm wh r, k)) (Stq.step nm wh r) (L ++ []) ok := fun ps i all at_ rest hr hok => by
    rw [List.append_nil] at hr ⊢
    dsimp only
    rw [h ps i all at_ rest hr hok]
    rfl
  rw [List.append_nil] at c1
  have c2 := thenA_says (k := fun wh ps j3 => thenA (rdRest wh ps j3) fun r k => .ok (Stq.step nm wh r, k)) b c1 fun _ _ => trivial
  have c3 := thenA_says (k := fun _ ps j2 => thenA (rdWord seven ps j2) fun wh j3 => thenA (rdRest wh ps j3) fun r k => .ok (Stq.step nm wh r, k)) a c2 fun _ _ => trivial
  have c4 := thenA_says (k := fun nm ps j => thenA (rdWord ["="] ps j) fun _ j2 => thenA (rdWord seven ps j2) fun wh j3 => thenA (rdRest wh ps j3) fun r k => .ok (Stq.step nm wh r, k)) h1.says c3 fun _ _ => trivial
  unfold rdStep
  rw [if_neg ho]
  exact c4 ps i all at_ rest hr hok
theorem mapR_says {A B : Type} {g : A → B} {rd : Rdg A} {a : A} {ts : List Tok} {ok : List Tok → Prop} (h : RdSays rd a ts ok) : RdSays (mapR g rd) (g a) ts ok := fun ps i all at_ rest hr hok => by
  unfold mapR
  rw [h ps i all at_ rest hr hok]
  rfl
theorem one_says {t : Tok} {x : Str} (h : NmT t x) : RdSays rdOne [x] [t] fun _ => True := mapR_says (g := fun z => [z]) h.says
theorem rdThen_says {A B : Type} {rx : Rdg A} {w : Str} {ry : Rdg B} {a : A} {b : B} {t : Tok} {ts us : List Tok} {ok1 ok : List Tok → Prop} (h1 : RdSays rx a ts ok1) (hw : t.own = w) (h2 : RdSays ry b us ok) (hk : ∀ r, ok1 (t :: r)) : RdSays (rdThen rx w ry) (a, b) (ts ++ t :: us) ok := by
  have x : RdSays (rdWord [w]) t.own [t] fun _ => True := word_says (by rw [hw]; exact List.mem_cons_self)
  have c1 : RdSays (fun ps i => thenA (ry ps i) fun b k => .ok ((a, b), k)) (a, b) us ok := mapR_says (g := fun b => (a, b)) h2
  have c2 := thenA_says (k := fun _ ps j2 => thenA (ry ps j2) fun b k => .ok ((a, b), k)) x c1 fun _ _ => trivial
  exact thenA_says (k := fun a ps j => thenA (rdWord [w] ps j) fun _ j2 => thenA (ry ps j2) fun b k => .ok ((a, b), k)) h1 c2 fun r _ => hk _
theorem rest_map_eq : rdRest "map" = mapR (fun x => (x.1, .map x.2)) (rdThen rdOne "to" (rdList rdMapped)) := by
  unfold rdRest
  rw [if_neg (show ¬ ("map" : Str) = "filter" by decide +kernel), if_pos rfl]
theorem rest_filter_eq : rdRest "filter" = mapR (fun x => (x.1, .filter x.2)) (rdThen rdOne "where" rdExpr) := by
  unfold rdRest
  rw [if_pos rfl]
theorem rest_map {t1 t2 : Tok} {x : Str} {xs : List (Ex × Str)} {L : List Tok} {ok : List Tok → Prop} (h1 : NmT t1 x) (h2 : t2.own = "to") (h : RdSays (rdList rdMapped) xs L ok) : RdSays (rdRest "map") ([x], .map xs) (t1 :: t2 :: L) ok := by
  rw [rest_map_eq]
  exact mapR_says (g := fun x => (x.1, Dt.map x.2)) (rdThen_says (one_says h1) h2 h fun _ => trivial)
theorem rest_filter {t1 t2 : Tok} {x : Str} {e : Ex} {L : List Tok} {ok : List Tok → Prop} (h1 : NmT t1 x) (h2 : t2.own = "where") (h : RdSays rdExpr e L ok) : RdSays (rdRest "filter") ([x], .filter e) (t1 :: t2 :: L) ok := by
  rw [rest_filter_eq]
  exact mapR_says (g := fun x => (x.1, Dt.filter x.2)) (rdThen_says (one_says h1) h2 h fun _ => trivial)
/-! ### and where they are wrong -/
def RdErr {A : Type} (rd : Rdg A) (n : Nat) (ts : List Tok) (ok : List Tok → Prop) : Prop := ∀ (ps : List Pc) (i all at_ : Nat) (rest : List Tok), Rst' ps i all at_ (ts ++ rest) → ok rest → rd ps i = .error (i + n)
theorem thenA_err1 {A B : Type} {rd : Rdg A} {k : A → Rdg B} {n : Nat} {ts : List Tok} {ok : List Tok → Prop} (h : RdErr rd n ts ok) : RdErr (fun ps i => thenA (rd ps i) fun a j => k a ps j) n ts ok := fun ps i all at_ rest hr hok => by
  dsimp only
  rw [h ps i all at_ rest hr hok]
  rfl
theorem thenA_err {A B : Type} {rd : Rdg A} {k : A → Rdg B} {a : A} {n : Nat} {ts us : List Tok} {ok1 ok2 : List Tok → Prop} (h1 : RdSays rd a ts ok1) (h2 : RdErr (k a) n us ok2) (hok : ∀ rest, ok2 rest → ok1 (us ++ rest)) : RdErr (fun ps i => thenA (rd ps i) fun a j => k a ps j) (ts.length + n) (ts ++ us) ok2 := fun ps i all at_ rest hr hok2 => by
  rw [List.append_assoc] at hr
  have e1 := h1 ps i all at_ (us ++ rest) hr (hok rest hok2)
  have e2 := h2 ps (i + ts.length) all _ rest hr.skip hok2
  dsimp only
  rw [e1]
  show k a ps (i + ts.length) = _
  rw [e2, Nat.add_assoc]
theorem mapR_err {A B : Type} {g : A → B} {rd : Rdg A} {n : Nat} {ts : List Tok} {ok : List Tok → Prop} (h : RdErr rd n ts ok) : RdErr (mapR g rd) n ts ok := thenA_err1 (k := fun a _ j => .ok (g a, j)) h
theorem list_err {A : Type} {rd : Rdg A} {n : Nat} {ts : List Tok} {ok : List Tok → Prop} (h : RdErr rd n ts ok) : RdErr (rdList rd) n ts ok := thenA_err1 (k := fun a ps j => rdItems rd ps ps.length [a] j) h
theorem step_err {t1 t2 t3 : Tok} {nm wh : Str} {n : Nat} {L : List Tok} {ok : List Tok → Prop} (h1 : NmT t1 nm) (h2 : t2.own = "=") (h3 : t3.own = wh) (hw : wh ∈ seven) (h : RdErr (rdRest wh) n L ok) : RdErr rdStep (3 + n) (t1 :: t2 :: t3 :: L) ok := fun ps i all at_ rest hr hok => by
  have ho : ¬ ownW ps i = "read" := by
    rw [show ownW ps i = t1.own from own_rst hr, h1.own]
    decide +kernel
  have a : RdSays (rdWord ["="]) t2.own [t2] fun _ => True := word_says (by rw [h2]; exact List.mem_cons_self)
  have b : RdSays (rdWord seven) t3.own [t3] fun _ => True := word_says (by rw [h3]; exact hw)
  rw [h3] at b
  have c1 : RdErr (fun ps i => thenA (rdRest wh ps i) fun r k => .ok (Stq.step nm wh r, k)) n L ok := thenA_err1 (k := fun r _ k => .ok (Stq.step nm wh r, k)) h
  have c2 := thenA_err (k := fun wh ps j3 => thenA (rdRest wh ps j3) fun r k => .ok (Stq.step nm wh r, k)) b c1 fun _ _ => trivial
  have c3 := thenA_err (k := fun _ ps j2 => thenA (rdWord seven ps j2) fun wh j3 => thenA (rdRest wh ps j3) fun r k => .ok (Stq.step nm wh r, k)) a c2 fun _ _ => trivial
  have c4 := thenA_err (k := fun nm ps j => thenA (rdWord ["="] ps j) fun _ j2 => thenA (rdWord seven ps j2) fun wh j3 => thenA (rdRest wh ps j3) fun r k => .ok (Stq.step nm wh r, k)) h1.says c3 fun _ _ => trivial
  unfold rdStep
  rw [if_neg ho]
  have := c4 ps i all at_ rest hr hok
  rw [show 3 + n = ([t1] : List Tok).length + (([t2] : List Tok).length + (([t3] : List Tok).length + n)) by show 3 + n = 1 + (1 + (1 + n)); omega]
  exact this
theorem rest_map_err {t1 t2 : Tok} {x : Str} {n : Nat} {L : List Tok} {ok : List Tok → Prop} (h1 : NmT t1 x) (h2 : t2.own = "to") (h : RdErr rdMapped n L ok) : RdErr (rdRest "map") (2 + n) (t1 :: t2 :: L) ok := by
  rw [rest_map_eq]
  have a : RdSays (rdWord ["to"]) t2.own [t2] fun _ => True := word_says (by rw [h2]; exact List.mem_cons_self)
  have c1 : RdErr (fun ps i => thenA (rdList rdMapped ps i) fun b k => .ok ((([x] : List Str), b), k)) n L ok := thenA_err1 (k := fun b _ k => .ok ((([x] : List Str), b), k)) (list_err h)
  have c2 := thenA_err (k := fun _ ps j2 => thenA (rdList rdMapped ps j2) fun b k => .ok ((([x] : List Str), b), k)) a c1 fun _ _ => trivial
  have c3 := thenA_err (k := fun (a : List Str) ps j => thenA (rdWord ["to"] ps j) fun _ j2 => thenA (rdList rdMapped ps j2) fun b k => .ok ((a, b), k)) (one_says h1) c2 fun _ _ => trivial
  have c4 := mapR_err (g := fun (x : List Str × List (Ex × Str)) => (x.1, Dt.map x.2)) c3
  intro ps i all at_ rest hr hok
  have := c4 ps i all at_ rest hr hok
  rw [show 2 + n = ([t1] : List Tok).length + (([t2] : List Tok).length + n) by show 2 + n = 1 + (1 + n); omega]
  exact this
theorem expr_err {e : Ex} {ts : List Tok} {r : Nat} (h : Pt 100 1 e ts r) (hr : 0 < r) (hg : largeE e = true) : RdErr rdExpr ts.length ts fun rest => nlev rest = 0 := fun ps i all at_ rest h1 h2 => by
  have := pt_says 100 1 e ts r h ps i all at_ rest h1 (by omega) (by omega)
  rw [if_pos ⟨rfl, hg⟩] at this
  exact this
theorem mapped_err {n : Nat} {ts : List Tok} {ok : List Tok → Prop} (h : RdErr rdExpr n ts ok) : RdErr rdMapped n ts ok := thenA_err1 (k := fun (e : Ex) ps j => if e.word = ("column" : Str) ∧ ownW ps j ≠ "as" then .ok ((e, e.colN), j) else thenA (rdNew ps j) fun z k => .ok ((e, z), k)) h
end Kx

namespace Kx
open PySem PySem.Spec PyProof.Rows L2 TL
/-! ### laying, piece by piece -/
def LaysOn : List Tok → List Nat → Prop
  | [], _ => True
  | t :: r, tail => Fits t (layT r tail) ∧ LaysOn r tail
theorem laysOk {tail : List Nat} (ht : TailOk tail) : ∀ {ts : List Tok}, LaysOn ts tail → LaysOk ts tail
  | [], _ => ht
  | _ :: _, ⟨h, r⟩ => ⟨h, laysOk ht r⟩
theorem laysOn_append {tail : List Nat} : ∀ {a b : List Tok}, LaysOn a (layT b tail) → LaysOn b tail → LaysOn (a ++ b) tail
  | [], _, _, h => h
  | t :: a, b, ⟨h1, h2⟩, h => by
    refine ⟨?_, laysOn_append h2 h⟩
    show Fits t (layT (a ++ b) tail)
    rw [layT_append]
    exact h1
theorem layT_tail (ts : List Tok) (tail : List Nat) : layT ts tail = layT ts [] ++ tail := by
  induction ts with
  | nil => rfl
  | cons t r ih =>
    show List.replicate t.sp 32 ++ (t.w ++ layT r tail) = List.replicate t.sp 32 ++ (t.w ++ layT r []) ++ tail
    rw [ih, List.append_assoc, List.append_assoc]
theorem layT_len (ts : List Tok) (tail : List Nat) : (layT ts tail).length = lenT ts + tail.length := by
  induction ts with
  | nil => exact (Nat.zero_add _).symm
  | cons t r ih =>
    show (List.replicate t.sp 32 ++ (t.w ++ layT r tail)).length = t.sp + t.w.length + lenT r + tail.length
    rw [List.length_append, List.length_append, List.length_replicate, ih]
    omega
theorem noRun_nil : noRun [] := fun c r h => by cases h
theorem noRun_cons {c : Nat} {r : List Nat} (h : isRun c = false) : noRun (c :: r) := fun d r' e => by
  injection e with e1 e2
  rw [← e1]
  exact h
theorem noRun_tail {l : List Nat} (h : TailOk l) : noRun l := by
  cases h with
  | nil => exact noRun_nil
  | hash r => exact noRun_cons (by decide)
  | blank _ => exact noRun_cons (by decide)
theorem noRun_sp {t : Tok} {r : List Tok} {tail : List Nat} (h : 0 < t.sp) : noRun (layT (t :: r) tail) := by
  obtain ⟨n, hn⟩ : ∃ n, t.sp = n + 1 := ⟨t.sp - 1, by omega⟩
  show noRun (List.replicate t.sp 32 ++ _)
  rw [hn, List.replicate_succ, List.cons_append]
  exact noRun_cons (by decide)
theorem noRun_sign {sp c : Nat} {r : List Tok} {tail : List Nat} (h : isRun c = false) : noRun (layT (tokS sp c :: r) tail) := by
  cases sp with
  | zero =>
    show noRun (c :: layT r tail)
    exact noRun_cons h
  | succ n => exact noRun_sp (Nat.succ_pos n)
/-! ### the job a(k int), b = map a to .. as y -/
abbrev kT (sp : Nat) : Tok := tokW sp "k"
def preT : List Tok := [tokW 0 "b", tokS 1 61, tokW 1 "map", tokW 1 "a", tokW 1 "to"]
def postT : List Tok := [tokW 1 "as", tokW 1 "y"]
def midOf (told : Str) : Str := "b = map a to " ++ told ++ " as y"
structure Wrt (told : Str) (ts : List Tok) : Prop where
  tl : 32 :: tl told = layT ts []
  lay : ∀ tail, noRun tail → LaysOn ts tail
  sp : ∃ t r, ts = t :: r ∧ 0 < t.sp
theorem pre_lay {r : List Tok} {tail : List Nat} (h : ∃ t r', r = t :: r' ∧ 0 < t.sp) : LaysOn preT (layT r tail) := by
  obtain ⟨t, r', rfl, h⟩ := h
  exact ⟨fits_word (by decide +kernel) (noRun_sp (by decide)), fits_sign (by decide) (fun z => by rcases z with z | z <;> cases z), fits_word (by decide +kernel) (noRun_sp (by decide)), fits_word (by decide +kernel) (noRun_sp (by decide)), fits_word (by decide +kernel) (noRun_sp h), trivial⟩
theorem post_lay : LaysOn postT [] := ⟨fits_word (by decide +kernel) (noRun_sp (by decide)), fits_word (by decide +kernel) noRun_nil, trivial⟩
theorem post_run : noRun (layT postT []) := noRun_sp (by decide)
theorem mid_tl {told : Str} {ts : List Tok} (W : Wrt told ts) : tl (midOf told) = layT (preT ++ (ts ++ postT)) [] := by
  unfold midOf
  rw [tl_append, tl_append, layT_append, layT_append, layT_tail preT, layT_tail ts, ← W.tl]
  rw [show tl ("b = map a to " : Str) = layT preT [] ++ [32] by decide +kernel, show tl (" as y" : Str) = layT postT [] by decide +kernel, List.append_assoc, List.append_assoc]
  rfl
theorem mid_lays {told : Str} {ts : List Tok} (W : Wrt told ts) : LaysOk (preT ++ (ts ++ postT)) [] := by
  refine laysOk .nil (laysOn_append ?_ (laysOn_append (W.lay _ post_run) post_lay))
  obtain ⟨t, r, rfl, h⟩ := W.sp
  exact pre_lay ⟨t, r ++ postT, rfl, h⟩
def st1 : JSt := (none, [.read "a" [("k", "int")]])
theorem nm_b : NmT (tokW 0 "b") "b" := nmT_word (by decide +kernel)
theorem nm_a : NmT (tokW 1 "a") "a" := nmT_word (by decide +kernel)
theorem nm_y : NmT (tokW 1 "y") "y" := nmT_word (by decide +kernel)
theorem own_pre : ownH preT ≠ "answer" := by decide +kernel
theorem mid_nbr {ts : List Tok} (h : nbr ts ≤ 290) : nbr (preT ++ (ts ++ postT)) ≤ 300 := by
  rw [nbr_append, nbr_append, show nbr preT = 5 by decide +kernel, show nbr postT = 2 by decide +kernel]
  omega
theorem mid_step {L : List Tok} {xs : List (Ex × Str)} {ok : List Tok → Prop} (h : RdSays (rdList rdMapped) xs L ok) : RdSays rdStep (.step "b" "map" (["a"], .map xs)) (preT ++ L) ok :=
  step_says nm_b (by decide +kernel) (own_word (by decide +kernel)) (by decide +kernel) (rest_map nm_a (own_word (by decide +kernel)) h)
theorem mid_ok {told : Str} {ts : List Tok} {e : Ex} {r : Nat} (W : Wrt told ts) (hn : nbr ts ≤ 290) (h : Pt 100 1 e ts r) (hr : 0 < r) (hg : largeE e = false) : ∃ s, rdRow st1 (midOf told) = .ok (none, s) := by
  refine ⟨_, row_step (s := .step "b" "map" (["a"], .map [(e, "y")])) (mid_tl W) (mid_lays W) (mid_nbr hn) (by unfold preT; exact List.cons_ne_nil _ _) own_pre (mid_step ?_)⟩
  have hm : RdSays rdMapped (e, "y") (ts ++ postT) fun _ => True := mapped_says h hr hg (own_word (by decide +kernel)) nm_y
  have := list_says (rd := rdMapped) (c := tokS 0 44) (ok := fun _ => True) (okEnd := fun r => r = []) (by decide +kernel) (fun _ => trivial) (fun r h => ⟨trivial, by rw [h]; decide +kernel⟩) (x := ((e, "y"), ts ++ postT)) (xs := []) (fun y hy => by rw [List.mem_singleton.mp hy]; exact hm)
  rw [show (ts ++ postT) ++ commaT (tokS 0 44) ([] : List ((Ex × Str) × List Tok)) = ts ++ postT from List.append_nil _] at this
  exact this
theorem mid_err {told : Str} {ts : List Tok} {n : Nat} (W : Wrt told ts) (hn : nbr ts ≤ 290) (h : RdErr rdExpr n ts fun r => nlev r = 0) : rdRow st1 (midOf told) = .error (curP (pcsT (midOf told).length 0 (preT ++ (ts ++ postT))) (5 + n)).col := by
  have hs : RdErr rdStep (3 + (2 + n)) (preT ++ ts) fun r => nlev r = 0 := step_err nm_b (by decide +kernel) (own_word (by decide +kernel)) (by decide +kernel) (rest_map_err nm_a (own_word (by decide +kernel)) (mapped_err h))
  have := hs (pcsT (midOf told).length 0 (preT ++ (ts ++ postT))) 0 (midOf told).length 0 postT (by rw [List.append_assoc]; exact rfl) (by decide +kernel)
  rw [show 0 + (3 + (2 + n)) = 5 + n by omega] at this
  exact row_wrong (mid_tl W) (mid_lays W) (mid_nbr hn) (by unfold preT; exact List.cons_ne_nil _ _) own_pre this
theorem wrt_len {told : Str} {ts : List Tok} (W : Wrt told ts) : lenT ts = told.length + 1 := by
  have h := congrArg List.length W.tl
  rw [layT_len, List.length_cons, ← len_tl] at h
  exact h.symm
theorem mid_big {told : Str} {ts : List Tok} {e : Ex} {r : Nat} (W : Wrt told ts) (hn : nbr ts ≤ 290) (h : Pt 100 1 e ts r) (hr : 0 < r) (hg : largeE e = true) : rdRow st1 (midOf told) = .error (told.length + 15) := by
  rw [mid_err W hn (expr_err h hr hg)]
  have h0 : Rst' (pcsT (midOf told).length 0 (preT ++ (ts ++ postT))) 0 (midOf told).length 0 (preT ++ (ts ++ postT)) := rfl
  have h2 := h0.skip.skip
  rw [show 0 + preT.length + ts.length = 5 + ts.length by show 0 + 5 + ts.length = _; omega] at h2
  have h3 : (curP (pcsT (midOf told).length 0 (preT ++ (ts ++ postT))) (5 + ts.length)).col = 0 + lenT preT + lenT ts + 1 + 1 := by
    rw [Rst'.cur (t := tokW 1 "as") (r := [tokW 1 "y"]) h2]
    rfl
  rw [h3, wrt_len W, show lenT preT = 12 by decide +kernel]
  congr 1
  omega
end Kx

namespace Kx
open PySem PySem.Spec PyProof.Rows L2 TL
theorem tl_sign (c : Nat) : (tokS 0 c).own = mkS [c] := by
  unfold Tok.own tokS
  exact if_pos rfl
theorem kT_leaf (sp : Nat) : leafT (kT sp) = some (.col "k") := by
  show leafP ⟨if ("k" : Str) ∈ owns then "own" else "name", .tx "k", 0⟩ = _
  rw [if_neg (show ¬ ("k" : Str) ∈ owns by decide +kernel)]
  unfold leafP
  dsimp only
  rw [if_neg (by decide +kernel), if_pos rfl]
theorem kT_k (sp : Nat) : (kT sp).k ≠ "own" := by
  show (if ("k" : Str) ∈ owns then ("own" : Str) else "name") ≠ "own"
  decide +kernel
theorem kT_op {Q : PtP} {l sp : Nat} : OpnR Q l (.col "k") [kT sp] 100 := .leaf (kT_leaf sp) (kT_k sp)
theorem kT_pt {f l sp : Nat} : Pt (f + 1) l (.col "k") [kT sp] 100 := LpR.op kT_op
theorem kT_fits {sp : Nat} {l : List Nat} (h : noRun l) : Fits (kT sp) l := fits_word (by decide +kernel) h
theorem kT_nbr (sp : Nat) : isBr (kT sp).k (kT sp).v = false := by
  show isBr (if ("k" : Str) ∈ owns then "own" else "name") (.tx "k") = false
  decide +kernel
/-! ### k+k+..+k -/
def sumE : Nat → Ex
  | 0 => .col "k"
  | n + 1 => .two "+" (sumE n) (.col "k")
def sumT : Nat → List Tok
  | 0 => [kT 1]
  | n + 1 => sumT n ++ [tokS 0 43, kT 0]
theorem own_plus : (tokS 0 43).own = "+" := by decide +kernel
theorem sum_pt (f : Nat) : ∀ n, ∃ r, 5 < r ∧ LpR (Pt (f + 1)) 1 (sumE n) (sumT n) r
  | 0 => ⟨100, by decide, .op kT_op⟩
  | n + 1 => by
    obtain ⟨r, hr, h⟩ := sum_pt f n
    have h2 := LpR.two (s := tokS 0 43) (k := 5) h (by decide +kernel) (by decide) (by decide) hr (kT_pt (f := f) (l := 6) (sp := 0))
    rw [own_plus] at h2
    exact ⟨_, by decide, h2⟩
theorem sum_lay : ∀ n tail, noRun tail → LaysOn (sumT n) tail
  | 0, tail, h => ⟨kT_fits h, trivial⟩
  | n + 1, tail, h => laysOn_append (sum_lay n _ (noRun_sign (by decide))) ⟨fits_sign (by decide) (fun z => by rcases z with z | z <;> cases z), kT_fits h, trivial⟩
theorem sum_sp : ∀ n, ∃ t r, sumT n = t :: r ∧ 0 < t.sp
  | 0 => ⟨_, _, rfl, by decide⟩
  | n + 1 => by
    obtain ⟨t, r, e, h⟩ := sum_sp n
    exact ⟨t, r ++ [tokS 0 43, kT 0], by show sumT n ++ _ = _; rw [e]; rfl, h⟩
theorem sum_nbr : ∀ n, nbr (sumT n) ≤ 2 * n + 1
  | 0 => by decide +kernel
  | n + 1 => by
    show nbr (sumT n ++ [tokS 0 43, kT 0]) ≤ _
    rw [nbr_append, show nbr [tokS 0 43, kT 0] = 2 by decide +kernel]
    have := sum_nbr n
    omega
/-- what stands between: k, then +k so many times -/
def sumL : Nat → List Nat
  | 0 => [107]
  | n + 1 => sumL n ++ [43, 107]
theorem sum_tl : ∀ n, layT (sumT n) [] = 32 :: sumL n
  | 0 => by decide +kernel
  | n + 1 => by
    show layT (sumT n ++ [tokS 0 43, kT 0]) [] = 32 :: (sumL n ++ [43, 107])
    rw [layT_append, layT_tail, sum_tl n, show layT [tokS 0 43, kT 0] [] = [43, 107] by decide +kernel]
    rfl
theorem sum_wrt {told : Str} {n : Nat} (h : tl told = sumL n) : Wrt told (sumT n) := ⟨by rw [h, sum_tl], sum_lay n, sum_sp n⟩
/-! ### signs ahead of k -/
def minE (not_ : Bool) : Nat → Ex
  | 0 => .col "k"
  | n + 1 => if not_ then .nt (minE not_ n) else .mn (minE not_ n)
def sgT (not_ : Bool) (sp : Nat) : Tok := if not_ then tokW sp "not" else tokS sp 45
def minT (not_ : Bool) (s : Nat) : Nat → Nat → List Tok
  | s0, 0 => [kT s0]
  | s0, n + 1 => sgT not_ s0 :: minT not_ s s n
theorem min_op {not_ : Bool} {s : Nat} : ∀ (n f s0 l : Nat), (not_ = true → l ≤ 3) → ∃ r, 0 < r ∧ OpnR (Pt (f + n)) l (minE not_ n) (minT not_ s s0 n) r
  | 0, f, s0, l, _ => ⟨100, by decide, kT_op⟩
  | n + 1, f, s0, l, hl => by
    cases not_ with
    | true =>
      obtain ⟨r, hr, h⟩ := min_op (not_ := true) (s := s) n f s 3 (fun _ => Nat.le_refl _)
      exact ⟨min 3 r, by omega, OpnR.nt (t := tokW s0 "not") (hl rfl) (own_word (by decide +kernel)) (show LpR (Pt (f + n)) 3 _ _ r from .op h)⟩
    | false =>
      obtain ⟨r, hr, h⟩ := min_op (not_ := false) (s := s) n f s 7 (fun z => by cases z)
      exact ⟨min 7 r, by omega, OpnR.mn (t := tokS s0 45) (by show (tokS 0 45).own = _; decide +kernel) (show LpR (Pt (f + n)) 7 _ _ r from .op h)⟩
theorem min_pt {not_ : Bool} {s s0 n : Nat} (h : n < 100) : ∃ r, 0 < r ∧ Pt 100 1 (minE not_ n) (minT not_ s s0 n) r := by
  obtain ⟨r, hr, h1⟩ := min_op (not_ := not_) (s := s) n (99 - n) s0 1 (fun _ => by decide)
  rw [show 99 - n + n = 99 by omega] at h1
  exact ⟨r, hr, LpR.op h1⟩
theorem min_lay {not_ : Bool} {s : Nat} (hs : not_ = true → 0 < s) : ∀ (n s0 : Nat) (tail : List Nat), noRun tail → LaysOn (minT not_ s s0 n) tail
  | 0, s0, tail, h => ⟨kT_fits h, trivial⟩
  | n + 1, s0, tail, h => by
    refine ⟨?_, min_lay hs n s tail h⟩
    cases not_ with
    | true =>
      refine fits_word (by decide +kernel) ?_
      have h0 := hs rfl
      cases n with
      | zero => exact noRun_sp h0
      | succ n => exact noRun_sp (t := tokW s "not") h0
    | false => exact fits_sign (by decide) (fun z => by rcases z with z | z <;> cases z)
theorem min_sp {not_ : Bool} {s s0 : Nat} (h : 0 < s0) : ∀ n, ∃ t r, minT not_ s s0 n = t :: r ∧ 0 < t.sp
  | 0 => ⟨_, _, rfl, h⟩
  | n + 1 => ⟨_, _, rfl, by cases not_ <;> exact h⟩
theorem min_nbr {not_ : Bool} {s : Nat} : ∀ n s0, nbr (minT not_ s s0 n) ≤ n + 1
  | 0, s0 => by
    show _ + 0 ≤ 1
    rw [kT_nbr]
    decide
  | n + 1, s0 => by
    have h1 : ∀ b : Bool, (if b = true then 0 else 1) ≤ 1 := fun b => by cases b <;> decide
    have h2 := h1 (isBr (sgT not_ s0).k (sgT not_ s0).v)
    have h3 := min_nbr (not_ := not_) (s := s) n s
    show _ + nbr (minT not_ s s n) ≤ _
    omega
/-- the sign and what stands behind it, so many times, then k -/
def minL (z : List Nat) : Nat → List Nat
  | 0 => [107]
  | n + 1 => z ++ minL z n
theorem min_tl {not_ : Bool} {s : Nat} : ∀ n s0, layT (minT not_ s s0 n) [] = List.replicate s0 32 ++ (match n with
    | 0 => [107]
    | m + 1 => (sgT not_ s0).w ++ layT (minT not_ s s m) [])
  | 0, s0 => by
    show List.replicate s0 32 ++ (tl "k" ++ []) = _
    rw [List.append_nil]
    congr 1
  | n + 1, s0 => by
    cases not_ <;> rfl
theorem min_tl2 {not_ : Bool} {s : Nat} {z : List Nat} (hz : z = (sgT not_ 0).w ++ List.replicate s 32) : ∀ n, List.replicate s 32 ++ minL z n = layT (minT not_ s s n) []
  | 0 => by
    rw [min_tl]
    rfl
  | n + 1 => by
    rw [min_tl]
    show List.replicate s 32 ++ (z ++ minL z n) = List.replicate s 32 ++ ((sgT not_ s).w ++ layT (minT not_ s s n) [])
    rw [← min_tl2 hz n, hz, List.append_assoc]
    cases not_ <;> rfl
theorem min_tl3 {not_ : Bool} {s : Nat} {z : List Nat} (hz : z = (sgT not_ 0).w ++ List.replicate s 32) (n : Nat) : 32 :: minL z n = layT (minT not_ s 1 n) [] := by
  cases n with
  | zero =>
    rw [min_tl]
    rfl
  | succ n =>
    rw [min_tl]
    show 32 :: (z ++ minL z n) = [32] ++ ((sgT not_ 1).w ++ layT (minT not_ s s n) [])
    rw [← min_tl2 hz n, hz, List.append_assoc]
    cases not_ <;> rfl
theorem min_wrt {told : Str} {not_ : Bool} {s n : Nat} {z : List Nat} (hz : z = (sgT not_ 0).w ++ List.replicate s 32) (hs : not_ = true → 0 < s) (h : tl told = minL z n) : Wrt told (minT not_ s 1 n) := ⟨by rw [h, min_tl3 hz], min_lay hs n 1, min_sp (by decide) n⟩
/-! ### brackets around k -/
def parT : Nat → Nat → List Tok
  | sp, 0 => [kT sp]
  | sp, n + 1 => tokS sp 40 :: (parT 0 n ++ [tokS 0 41])
theorem par_pt : ∀ (n f sp l : Nat), Pt (f + 1 + n) l (.col "k") (parT sp n) 100
  | 0, f, sp, l => kT_pt
  | n + 1, f, sp, l => LpR.op (OpnR.par (a := tokS sp 40) (b := tokS 0 41) (by show (tokS 0 40).own = _; decide +kernel) (by decide +kernel) (by decide +kernel) (by decide) (par_pt n f 0 1))
theorem par_lay : ∀ (n sp : Nat) (tail : List Nat), noRun tail → LaysOn (parT sp n) tail
  | 0, sp, tail, h => ⟨kT_fits h, trivial⟩
  | n + 1, sp, tail, h => ⟨fits_sign (by decide) (fun z => by rcases z with z | z <;> cases z), laysOn_append (par_lay n 0 _ (noRun_sign (by decide))) ⟨fits_sign (by decide) (fun z => by rcases z with z | z <;> cases z), trivial⟩⟩
theorem par_sp {s0 : Nat} (h : 0 < s0) : ∀ n, ∃ t r, parT s0 n = t :: r ∧ 0 < t.sp
  | 0 => ⟨_, _, rfl, h⟩
  | n + 1 => ⟨_, _, rfl, h⟩
theorem par_nbr : ∀ n sp, nbr (parT sp n) = 1
  | 0, sp => by
    show _ + 0 = 1
    rw [kT_nbr]
    rfl
  | n + 1, sp => by
    show (if isBr (tokS 0 40).k (tokS 0 40).v = true then 0 else 1) + nbr (parT 0 n ++ [tokS 0 41]) = 1
    rw [nbr_append, par_nbr n 0]
    decide +kernel
def parL : Nat → List Nat
  | 0 => [107]
  | n + 1 => 40 :: (parL n ++ [41])
theorem par_tl : ∀ n sp, layT (parT sp n) [] = List.replicate sp 32 ++ parL n
  | 0, sp => by
    show List.replicate sp 32 ++ (tl "k" ++ []) = _
    rw [List.append_nil]
    congr 1
  | n + 1, sp => by
    show List.replicate sp 32 ++ (40 :: layT (parT 0 n ++ [tokS 0 41]) []) = List.replicate sp 32 ++ 40 :: (parL n ++ [41])
    rw [layT_append, layT_tail, par_tl n 0]
    rfl
theorem par_wrt {told : Str} {n : Nat} (h : tl told = parL n) : Wrt told (parT 1 n) := ⟨by rw [h, par_tl]; rfl, par_lay n 1, par_sp (by decide) n⟩
theorem par_deep : ∀ (f m sp : Nat), f ≤ m → ∀ (ps : List Pc) (i all at_ : Nat) (rest : List Tok), Rst' ps i all at_ (parT sp m ++ rest) → rdPart ps f 1 i = .error (i + f)
  | 0, m, sp, _, ps, i, all, at_, rest, _ => rfl
  | f + 1, m, sp, hm, ps, i, all, at_, rest, hr => by
    obtain ⟨m', rfl⟩ : ∃ m', m = m' + 1 := ⟨m - 1, by omega⟩
    have hr1 : Rst' ps i all at_ (tokS sp 40 :: (parT 0 m' ++ ([tokS 0 41] ++ rest))) := by
      have h : Rst' ps i all at_ (tokS sp 40 :: ((parT 0 m' ++ [tokS 0 41]) ++ rest)) := hr
      rw [List.append_assoc] at h
      exact h
    have h0 : ownW ps i = "(" := (own_rst hr1).trans (by show (tokS 0 40).own = _; decide +kernel)
    have e1 := par_deep f m' 0 (by omega) ps (i + 1) all _ _ hr1.next
    rw [rdPart]
    unfold rdOper
    rw [h0, if_neg (fun z => absurd z.2 (show ¬ ("(" : Str) = "not" by decide +kernel)), if_neg (show ¬ ("(" : Str) = "-" by decide +kernel), if_pos rfl, e1]
    show Except.error (i + 1 + f) = _
    rw [show i + 1 + f = i + (f + 1) by omega]
theorem par_col : ∀ (n m sp : Nat), n ≤ m → ∀ (ps : List Pc) (i all at_ : Nat) (rest : List Tok), Rst' ps i all at_ (parT sp m ++ rest) → (curP ps (i + n)).col = at_ + sp + n + 1
  | 0, m, sp, _, ps, i, all, at_, rest, hr => by
    cases m with
    | zero =>
      rw [show i + 0 = i from rfl, Rst'.cur (t := kT sp) (r := rest) hr]
      rfl
    | succ m =>
      rw [show i + 0 = i from rfl, Rst'.cur (t := tokS sp 40) (r := (parT 0 m ++ [tokS 0 41]) ++ rest) hr]
      rfl
  | n + 1, m, sp, hm, ps, i, all, at_, rest, hr => by
    obtain ⟨m', rfl⟩ : ∃ m', m = m' + 1 := ⟨m - 1, by omega⟩
    have hr1 : Rst' ps i all at_ (tokS sp 40 :: (parT 0 m' ++ ([tokS 0 41] ++ rest))) := by
      have h : Rst' ps i all at_ (tokS sp 40 :: ((parT 0 m' ++ [tokS 0 41]) ++ rest)) := hr
      rw [List.append_assoc] at h
      exact h
    have e1 := par_col n m' 0 (by omega) ps (i + 1) all _ _ hr1.next
    rw [show i + (n + 1) = i + 1 + n by omega, e1]
    show at_ + sp + 1 + 0 + n + 1 = _
    omega
theorem mid_deep {told : Str} {m : Nat} (h : tl told = parL m) (hm : 100 ≤ m) : rdRow st1 (midOf told) = .error 114 := by
  have W := par_wrt h
  have hn : nbr (parT 1 m) ≤ 290 := by rw [par_nbr]; decide
  have he : RdErr rdExpr 100 (parT 1 m) fun r => nlev r = 0 := fun ps i all at_ rest hr _ => par_deep 100 m 1 hm ps i all at_ rest hr
  rw [mid_err W hn he]
  have h0 : Rst' (pcsT (midOf told).length 0 (preT ++ (parT 1 m ++ postT))) 0 (midOf told).length 0 (preT ++ (parT 1 m ++ postT)) := rfl
  have h1 := h0.skip
  have h2 := par_col 100 m 1 hm _ _ _ _ _ h1
  rw [show 0 + preT.length + 100 = 5 + 100 by decide +kernel] at h2
  rw [h2, show lenT preT = 12 by decide +kernel]
/-! ### so many names -/
def namT : Nat → List Tok
  | 0 => []
  | n + 1 => tokS 0 44 :: ([kT 1] ++ postT ++ namT n)
def rowOf (n : Nat) : List Tok := preT ++ (([kT 1] ++ postT) ++ namT n)
theorem nam_comma : ∀ n, namT n = commaT (tokS 0 44) (List.replicate n ((((Ex.col "k"), ("y" : Str)) : Ex × Str), [kT 1] ++ postT))
  | 0 => rfl
  | n + 1 => by
    rw [List.replicate_succ]
    show tokS 0 44 :: ([kT 1] ++ postT ++ namT n) = tokS 0 44 :: ([kT 1] ++ postT ++ commaT _ _)
    rw [nam_comma n]
theorem nam_lay : ∀ n, LaysOn (namT n) []
  | 0 => trivial
  | n + 1 => by
    refine ⟨fits_sign (by decide) (fun z => by rcases z with z | z <;> cases z), ?_⟩
    have hrun : noRun (layT (namT n) []) := by
      cases n with
      | zero => exact noRun_nil
      | succ n => exact noRun_sign (by decide)
    exact ⟨kT_fits (noRun_sp (by decide)), fits_word (by decide +kernel) (noRun_sp (by decide)), fits_word (by decide +kernel) hrun, nam_lay n⟩
theorem row_lay (n : Nat) : LaysOk (rowOf n) [] := by
  have hrun : noRun (layT (namT n) []) := by
    cases n with
    | zero => exact noRun_nil
    | succ n => exact noRun_sign (by decide)
  exact laysOk .nil (laysOn_append (pre_lay ⟨_, _, rfl, by decide⟩) ⟨kT_fits (noRun_sp (by decide)), fits_word (by decide +kernel) (noRun_sp (by decide)), fits_word (by decide +kernel) hrun, nam_lay n⟩)
theorem nam_nbr : ∀ n, nbr (namT n) = 4 * n
  | 0 => rfl
  | n + 1 => by
    have e : nbr (namT (n + 1)) = nbr [tokS 0 44] + (nbr ([kT 1] ++ postT) + nbr (namT n)) := by
      show nbr ([tokS 0 44] ++ (([kT 1] ++ postT) ++ namT n)) = _
      rw [nbr_append, nbr_append ([kT 1] ++ postT)]
    rw [e, nam_nbr n, show nbr [tokS 0 44] = 1 by decide +kernel, show nbr ([kT 1] ++ postT) = 3 by decide +kernel]
    omega
theorem row_nbr (n : Nat) : nbr (rowOf n) = 4 * n + 8 := by
  unfold rowOf
  rw [nbr_append, nbr_append ([kT 1] ++ postT), nam_nbr, show nbr preT = 5 by decide +kernel, show nbr ([kT 1] ++ postT) = 3 by decide +kernel]
  omega
theorem nam_ok {z : Str} {n : Nat} (h : tl z = layT (rowOf n) []) (hn : 4 * n + 8 ≤ 300) : ∃ s, rdRow st1 z = .ok (none, s) := by
  refine ⟨_, row_step (s := .step "b" "map" (["a"], .map (((((Ex.col "k"), ("y" : Str)) : Ex × Str), [kT 1] ++ postT) :: List.replicate n ((((Ex.col "k"), ("y" : Str)) : Ex × Str), [kT 1] ++ postT)|>.map (·.1)))) h (row_lay n) (by rw [row_nbr]; exact hn) (by unfold rowOf preT; exact List.cons_ne_nil _ _) own_pre (mid_step ?_)⟩
  rw [nam_comma]
  have hm : RdSays rdMapped (((Ex.col "k"), ("y" : Str)) : Ex × Str) ([kT 1] ++ postT) fun _ => True := mapped_says kT_pt (by decide) (by decide +kernel) (own_word (by decide +kernel)) nm_y
  exact list_says (rd := rdMapped) (c := tokS 0 44) (ok := fun _ => True) (okEnd := fun r => r = []) (by decide +kernel) (fun _ => trivial) (fun r h => ⟨trivial, by rw [h]; decide +kernel⟩) (fun y hy => by
    rcases List.mem_cons.mp hy with rfl | hy
    · exact hm
    · rw [(List.mem_replicate.mp hy).2]
      exact hm)
theorem nam_wrong {z : Str} {n : Nat} {st : JSt} (h : tl z = layT (rowOf n) []) (hn : 300 < 4 * n + 8) : ∃ c, rdRow st z = .error c := by
  obtain ⟨c, e⟩ := pieces_many h (row_lay n) (by rw [row_nbr]; exact hn)
  exact ⟨c, by unfold rdRow; rw [e]⟩
end Kx

namespace Kx
open PySem PySem.Spec PyProof.Rows L2 TL
/-! ### expressions near the bounds -/
def nears : List (Str × Option Nat) := [("k < 3 < 4", some 7), ("k = k != k", some 7), ("not k + 1", none), ("k + not k", some 5), ("k and not k = 1", none), ("k = not k", some 5), ("k - - -k", none), ("k * (k", some 7), ("length k", some 8), ("(k))", some 4), ("k or k and k", none), ("not not k", none), ("- not k", some 3), ("k k", some 3), ("k = (k = k)", none), ("mod k", some 1), ("k mod k * k", none), ("", some 1)]
def nearOf (told : Str) : Str := "b = filter a where " ++ told
def chkNear (p : Str × Option Nat) : Bool := match rdRow st1 (nearOf p.1) with
  | .error c => decide (p.2 = some (c - 19)) && decide (19 < c)
  | .ok (none, _) => decide (p.2 = none)
  | .ok (some _, _) => false
theorem near_chk : nears.all chkNear = true := by decide +kernel
theorem near_row {p : Str × Option Nat} (h : p ∈ nears) : (∃ c, p.2 = some c ∧ rdRow st1 (nearOf p.1) = .error (19 + c)) ∨ (p.2 = none ∧ ∃ s, rdRow st1 (nearOf p.1) = .ok (none, s)) := by
  have := List.all_eq_true.mp near_chk p h
  unfold chkNear at this
  split at this
  · rename_i c e
    rw [Bool.and_eq_true] at this
    have h1 := of_decide_eq_true this.1
    have h2 := of_decide_eq_true this.2
    exact .inl ⟨c - 19, h1, by rw [e, show 19 + (c - 19) = c by omega]⟩
  · rename_i s e
    exact .inr ⟨of_decide_eq_true this, s, e⟩
  · cases this
end Kx

namespace Kx
open PySem PySem.Spec PyProof.Rows L2 TL
abbrev s_law_wrong : Stmt := topS 63
abbrev s_law_near : Stmt := topS 64
def errJob (z : Str) : Option (Nat × Nat) := match rdJob z with
  | .error x => some x
  | .ok _ => none
/-- a place, or none -/
def PlAt (K : PySem.W.Frag) (H : Hp) (y : V) : Option (Nat × Nat) → Prop
  | none => y = .non
  | some x => ∃ q, y = .ref q ∧ SqT K H q [.int (x.1 : Nat), .int (x.2 : Nat)]
def tJoin (K : PySem.W.Frag) (to te : TE) : TE := tM1 (fun x xs H Q => ∃ a p, ∃ ys : List Str, x = .str a ∧ xs = [.ref p] ∧ (SqL K H p (ys.map V.str) ∨ SqT K H p (ys.map V.str)) ∧ (ys.map (·.length)).sum + ys.length * a.length ≤ 16777216 ∧ Q (.str (Txt.join a ys)) H) to te
section
variable {P : Program} {w : World} {K : PySem.W.Frag} {mg : Str → Option Value} {base : Heap}
theorem PlAt.same {H H' : Hp} {y : V} {o : Option (Nat × Nat)} (h : PlAt K H y o) (s : Same H H') : PlAt K H' y o := by
  cases o with
  | none => exact h
  | some x =>
    obtain ⟨q, e, h⟩ := h
    exact ⟨q, e, Same.sqT s h⟩
def spWrong (K : PySem.W.Frag) : Sp := fun vs H Q _ => ∃ (a : Addr) (ls : List Str), vs = [.ref a] ∧ SqL K H a (ls.map V.str) ∧ ls ≠ [] ∧ (∀ y ∈ ls, 10 ∉ tl y ∧ y.length ≤ 9999) ∧ (ls.map (·.length)).sum + ls.length ≤ 99999 ∧ ∀ v H', Same H H' → PlAt K H' v (errJob (Txt.join "\n" ls)) → Q v H'
abbrev N_wrong : List Str := ["lines", "error"]
theorem sc_wrong : FnScope N_wrong ["lines"] (defScope s_law_wrong) := ⟨rfl, rfl, rfl, by decide +kernel, rfl, by decide +kernel, by decide +kernel⟩
theorem ok_wrong {f C fI : Addr} {fd : FuncData} {k : Nat} (F : Fun K "_law_wrong" "_law_wrong" s_law_wrong f fd) (T : PySem.BadY.BadTxt K mg C fI) (G_by : ReadyX P w K mg base k "read_job" ["text"] (spJob C)) : FnOk P w K mg base CX0 (k + 1) f fd ["lines"] (spWrong K) := by
  refine F.ok sc_wrong (fun vs H Q E h => ?_) (fun cdv A outer s H vs Q E hr h => ?_)
  · obtain ⟨a, ls, rfl, _⟩ := h
    rfl
  obtain ⟨a, ls, rfl, hl, hne, hy, hz, q⟩ := h
  have nd := sc_wrong.nd
  refine ⟨_, pss_one (ps_try_asE (i := 1) (tb := fun W => tDrop (tCallS (spJob C) (WE W) (tCons (tJoin K (tC (.str "\n")) (tVar 0)) tNil))) (ts := fun a cls d => tRet (tTup (tCons (tByName C a cls d (tVar 1)) (tCons (tByColumn C a cls d (tVar 1)) tNil)))) (pss_one (ps_ret pe_non)) rfl rfl nd rfl rfl ⟨rfl, by decide, .inl T.gC⟩
      (fun W pn xe tk _ => pss_one (ps_expr (pe_fnX (W := W) G_by hr tk (pa_cons (pe_join pe_str (pv 0)) pa_nil))))
      (fun a oe cls d pn hz hf => pss_one (ps_ret (pe_tup (pa_cons (pe_byName T hz hf (pv 1)) (pa_cons (pe_byColumn T hz hf (pv 1)) pa_nil)))))), ?_⟩
  have e10 : ("\n" : Str).length = 1 := by decide +kernel
  have hlines := lines_join hne fun z hz => (hy z hz).1
  have hlen : (Txt.join "\n" ls).length ≤ 99999 := by
    rw [len_tl, tl_joinF]
    refine Nat.le_trans (join_len 10 _) ?_
    rw [List.map_map, List.length_map]
    have : ls.map (List.length ∘ tl) = ls.map (·.length) := List.map_congr_left fun z _ => (len_tl z).symm
    rw [this]
    exact hz
  refine ⟨⟨_, rfl⟩, _, rfl, _, a, ls, rfl, rfl, .inl hl, ?_, .inr ⟨_, rfl, hlen, ?_, fun x e v H' sm hv => ?_, fun n c e H' d sm hd => ?_⟩⟩
  · rw [e10]
    omega
  · rw [hlines]
    exact fun y h => (hy y h).2
  · have e0 : errJob (Txt.join "\n" ls) = none := by
      unfold errJob
      rw [e]
    rw [e0] at q
    exact q _ _ sm rfl
  · have e0 : errJob (Txt.join "\n" ls) = some (n, c) := by
      unfold errJob
      rw [e]
    rw [e0] at q
    refine ⟨T.te, fun a na => ⟨_, rfl, rfl, rfl, d, _, _, rfl, upd_same, _, rfl, rfl, rfl, d, _, _, rfl, upd_same, (by show 2 ≤ sizeLine; decide), fun p hp => ?_⟩⟩
    have s1 := sm.trans (same_upd (o := .xd [("line", .int (n : Nat)), ("column", .int (c : Nat))]) hd)
    exact q _ _ (s1.trans (same_upd hp)) ⟨p, rfl, SqT.of upd_same⟩
end
end Kx

namespace Kx
open PySem PySem.Spec PyProof.Rows L2 TL
/-- a row of written pairs -/
def rowsA : List (V × V) → TA
  | [] => tNil
  | p :: r => tCons (tTup (tCons (tC p.1) (tCons (tC p.2) tNil))) (rowsA r)
theorem rows_ok {σ : L2.St} : ∀ (l : List (V × V)) {H : Hp} {Q : List V → Hp → Prop}, (∀ (as : List Addr) (H' : Hp), Same H H' → as.length = l.length → (∀ (i : Nat) (a : Addr), as[i]? = some a → ∃ p ∈ l, H' a = some (.tup [p.1, p.2])) → Q (as.map V.ref) H') → rowsA l σ H Q
  | [], H, Q, h => h [] H (Same.refl _) rfl (fun i a e => by cases e)
  | p :: r, H, Q, h => by
    refine ⟨by show 2 ≤ sizeLine; decide, fun t ht => ?_⟩
    have s1 := same_upd (o := .tup [p.1, p.2]) ht
    have et : upd H t (.tup [p.1, p.2]) t = some (.tup [p.1, p.2]) := upd_same
    refine rows_ok r (fun as H' s2 hl has => ?_)
    refine h (t :: as) H' (s1.trans s2) (by rw [List.length_cons, List.length_cons, hl]) (fun i a e => ?_)
    cases i with
    | zero =>
      cases e
      exact ⟨p, List.mem_cons_self, s2 _ _ et⟩
    | succ i =>
      obtain ⟨x, hx, ex⟩ := has i a e
      exact ⟨x, List.mem_cons_of_mem _ hx, ex⟩
def nearV (p : Str × Option Nat) : V × V := (.str p.1, match p.2 with
  | none => .non
  | some n => .int (n : Int))
section
variable {P : Program} {w : World} {K : PySem.W.Frag} {mg : Str → Option Value} {base : Heap}
def spNear : Sp := fun vs H Q _ => ∃ (d s : Addr) (ns : List Int) (n : Int), vs = [.ref d] ∧ DrawAt H d s ns n ∧ ∀ (p : Str × Option Nat) (a : Addr) (H' : Hp), p ∈ nears → But d H H' → DrawAt H' d s ns (n + 1) → H' a = some (.tup [(nearV p).1, (nearV p).2]) → Q (.ref a) H'
theorem sc_near : FnScope ["draw"] ["draw"] (defScope s_law_near) := ⟨rfl, rfl, rfl, by decide +kernel, rfl, by decide +kernel, by decide +kernel⟩
theorem ok_near {f : Addr} {fd : FuncData} (F : Fun K "_law_near" "_law_near" s_law_near f fd) (G_law_pick : Ready P w K mg base 4 "_law_pick" ["draw", "things"] (spPick K)) : FnOk P w K mg base CX0 5 f fd ["draw"] spNear := by
  refine F.ok sc_near (fun vs H Q E h => ?_) (fun cdv A outer s H vs Q E hr h => ?_)
  · obtain ⟨d, s, ns, n, rfl, _⟩ := h
    rfl
  obtain ⟨d, s', ns, n, rfl, D, q⟩ := h
  have nd := sc_near.nd
  refine ⟨_, pss_one (ps_ret (pe_fn (G_law_pick) (hr.mono (by decide)) (pa_cons (pv 0) (pa_cons (pe_lst (pa_cons (pe_tup (pa_cons pe_str (pa_cons pe_int pa_nil))) (pa_cons (pe_tup (pa_cons pe_str (pa_cons pe_int pa_nil))) (pa_cons (pe_tup (pa_cons pe_str (pa_cons pe_non pa_nil))) (pa_cons (pe_tup (pa_cons pe_str (pa_cons pe_int pa_nil))) (pa_cons (pe_tup (pa_cons pe_str (pa_cons pe_non pa_nil))) (pa_cons (pe_tup (pa_cons pe_str (pa_cons pe_int pa_nil))) (pa_cons (pe_tup (pa_cons pe_str (pa_cons pe_non pa_nil))) (pa_cons (pe_tup (pa_cons pe_str (pa_cons pe_int pa_nil))) (pa_cons (pe_tup (pa_cons pe_str (pa_cons pe_int pa_nil))) (pa_cons (pe_tup (pa_cons pe_str (pa_cons pe_int pa_nil))) (pa_cons (pe_tup (pa_cons pe_str (pa_cons pe_non pa_nil))) (pa_cons (pe_tup (pa_cons pe_str (pa_cons pe_non pa_nil))) (pa_cons (pe_tup (pa_cons pe_str (pa_cons pe_int pa_nil))) (pa_cons (pe_tup (pa_cons pe_str (pa_cons pe_int pa_nil))) (pa_cons (pe_tup (pa_cons pe_str (pa_cons pe_non pa_nil))) (pa_cons (pe_tup (pa_cons pe_str (pa_cons pe_int pa_nil))) (pa_cons (pe_tup (pa_cons pe_str (pa_cons pe_non pa_nil))) (pa_cons (pe_tup (pa_cons pe_str (pa_cons pe_int pa_nil))) pa_nil))))))))))))))))))) pa_nil)))), ?_⟩
  refine ⟨_, rfl, ?_⟩
  refine (show tLst (rowsA (nears.map nearV)) _ _ _ from ?_)
  refine rows_ok _ (fun as H1 s1 hl has => ⟨by rw [List.length_map, hl]; decide, fun t ht => ?_⟩)
  have s2 := same_upd (o := .lst (as.map V.ref)) ht
  have et : upd H1 t (.lst (as.map V.ref)) t = some (.lst (as.map V.ref)) := upd_same
  have D2 := (D.keep s1).keep s2
  have ntd : t ≠ d := fun z => by rw [z] at ht; rw [s1 _ _ D.at_d] at ht; cases ht
  refine ⟨d, s', t, ns, n, _, rfl, D2, ntd, .inl (SqL.of et), fun z => ?_, fun v H' hv b D' => ?_⟩
  · rw [List.map_eq_nil_iff] at z
    rw [z] at hl
    cases hl
  · obtain ⟨a, ha, rfl⟩ := List.mem_map.mp hv
    obtain ⟨i, ei⟩ := List.getElem?_of_mem ha
    obtain ⟨x, hx, ex⟩ := has i a ei
    obtain ⟨p, hp, rfl⟩ := List.mem_map.mp hx
    refine q p a H' hp (fun c o hc e => b c o hc (s2 _ _ (s1 _ _ e))) D' (b a _ (fun z => ?_) (s2 _ _ ex))
    rw [z, s1 _ _ D.at_d] at ex
    cases ex
end
end Kx

namespace Kx
open PySem PySem.Spec PyProof.Rows L2 TL
/-! ### a text, so many times -/
theorem foldl_app (a : Array Nat) : ∀ (n : Nat) (b : Array Nat), ((List.replicate n a).foldl (· ++ ·) b).toList = b.toList ++ (List.replicate n a.toList).flatten
  | 0, b => by simp
  | n + 1, b => by
    rw [List.replicate_succ, List.foldl_cons, foldl_app a n (b ++ a), List.replicate_succ, List.flatten_cons, Array.toList_append, List.append_assoc]
def rRepS : R2 := fun x y H Q => ∃ (z : Str) (n : Nat), x = .str z ∧ y = .int (n : Int) ∧ 2 ≤ n ∧ n ≤ 1000 ∧ 0 < z.length ∧ z.length ≤ 1000 ∧ Q (.str (mkS (List.replicate n (tl z)).flatten)) H
theorem op_repS {X : Cx} : OpR X (binaryOp .Mult) rRepS := by
  intro pins s σ H x y v u Q I rx ry h
  obtain ⟨z, n, rfl, rfl, h2, hn, hz, hz2, q⟩ := h
  obtain ⟨t, rfl⟩ := rx
  obtain ⟨t', rfl⟩ := ry
  have n1 : ¬ ((n : Int) < 1) := by omega
  have n2 : ((n : Int) == 1 || z.length == 0) = false := by
    rw [Bool.or_eq_false_iff]
    exact ⟨beq_eq_false_iff_ne.mpr (by omega), beq_eq_false_iff_ne.mpr (by omega)⟩
  have hm : z.length * n ≤ 1000 * 1000 := Nat.mul_le_mul hz2 hn
  refine PySem.P.mul_str ?_ (fun _ _ => ?_) (fun _ _ => ?_) ?_
  · rw [Bool.or_eq_false_iff]
    exact ⟨decide_eq_false (by omega), decide_eq_false (by omega)⟩
  · have h3 : (1000 : Int) ≤ (2 ^ 63 - 1) / (n : Int) := by
      rw [Int.le_ediv_iff_mul_le (by omega)]
      have : (1000 : Int) * n ≤ 1000 * 1000 := by omega
      exact Int.le_trans this (by decide)
    omega
  · rw [Int.toNat_natCast]
    unfold Builtin.Str.tooLong
    exact decide_eq_false (by
      have : (1000 * 1000 : Nat) ≤ sizeLine := by decide
      omega)
  · rw [if_neg n1, if_neg (by rw [n2]; exact Bool.false_ne_true), Int.toNat_natCast]
    have e : (⟨(List.replicate n z.cps).foldl (· ++ ·) #[]⟩ : Str) = mkS (List.replicate n (tl z)).flatten := by
      unfold mkS
      congr 1
      apply Array.toList_inj.mp
      rw [foldl_app]
      rfl
    rw [e]
    exact ⟨by
      have e2 : (mkS (List.replicate n (tl z)).flatten).length = n * z.length := by
        rw [len_mkS, List.length_flatten, List.map_replicate, List.sum_replicate_nat, len_tl]
      rw [e2, Nat.mul_comm]
      exact Nat.le_trans hm (by decide), .str _, H, I.tok _, ⟨_, rfl⟩, q⟩
/-! ### what is compared -/
def plD : Option (Nat × Nat) → PyData
  | none => .none
  | some x => .tuple [.int (x.1 : Int), .int (x.2 : Int)]
theorem pl_dp {K : PySem.W.Frag} {H : Hp} {v : V} : ∀ {o : Option (Nat × Nat)}, PlAt K H v o → Dp K H v (plD o)
  | none, h => by
    have : v = .non := h
    rw [this]
    exact .non
  | some x, ⟨q, e, h⟩ => by
    rw [e]
    exact .tup h (.cons (.int _) (.cons (.int _) .nil))
theorem pl_shaped : ∀ o : Option (Nat × Nat), SeqAt.shaped (plD o) = true
  | none => by decide
  | some x => by
    show SeqAt.shaped (.tuple [.int (x.1 : Int), .int (x.2 : Int)]) = true
    unfold SeqAt.shaped
    simp [PyData.canLay0, PyData.canLayAll0, PyData.depth, PyData.depthAll]
theorem two_says {ws : List Str} {t1 t2 : Tok} {z y : Str} (h1 : NmT t1 z) (h2 : t2.own = y) (hy : y ∈ ws) : RdSays (rdTwo ws) (z, y) [t1, t2] fun _ => True := by
  have b : RdSays (rdWord ws) t2.own [t2] fun _ => True := word_says (by rw [h2]; exact hy)
  rw [h2] at b
  exact thenA_says (k := fun z ps j => thenA (rdWord ws ps j) fun w k => .ok ((z, w), k)) h1.says (mapR_says (g := fun w => (z, w)) b) fun _ _ => trivial
/-- read name(columns) -/
theorem read_says {t0 t1 t2 t3 c : Tok} {nm : Str} {x : (Str × Str) × List Tok} {xs : List ((Str × Str) × List Tok)} (h0 : t0.own = "read") (h1 : NmT t1 nm) (h2 : t2.own = "(") (h3 : t3.own = ")") (hc : c.own = ",") (hx : ∀ y ∈ x :: xs, RdSays (rdTwo ["int", "text"]) y.1 y.2 fun _ => True) : RdSays rdStep (.read nm ((x :: xs).map (·.1))) (t0 :: t1 :: t2 :: ((x.2 ++ commaT c xs) ++ [t3])) fun _ => True := fun ps i all at_ rest hr _ => by
  have ho : ownW ps i = "read" := (own_rst hr).trans h0
  have hl := list_says (rd := rdTwo ["int", "text"]) (c := c) (ok := fun _ => True) (okEnd := fun r => ∃ r', r = t3 :: r') hc (fun _ => trivial) (fun r ⟨r', e⟩ => ⟨trivial, by rw [e]; show t3.own ≠ ","; rw [h3]; decide +kernel⟩) hx
  have ht : RdSays (rdThen rdName "(" (rdList (rdTwo ["int", "text"]))) (nm, (x :: xs).map (·.1)) (t1 :: t2 :: (x.2 ++ commaT c xs)) fun r => ∃ r', r = t3 :: r' := rdThen_says h1.says h2 hl fun _ => trivial
  have a : RdSays (rdWord [")"]) t3.own [t3] fun _ => True := word_says (by rw [h3]; exact List.mem_cons_self)
  have hh : RdSays rdHead (nm, (x :: xs).map (·.1)) ((t1 :: t2 :: (x.2 ++ commaT c xs)) ++ [t3]) fun _ => True := thenA_says (k := fun x ps j => thenA (rdWord [")"] ps j) fun _ k => .ok (x, k)) ht (mapR_says (g := fun (_ : Str) => ((nm, (x :: xs).map Prod.fst) : Str × List (Str × Str))) a) fun rest _ => ⟨rest, rfl⟩
  have e1 := hh ps (i + 1) all _ rest (Rst'.next hr) trivial
  unfold rdStep
  rw [if_pos ho, e1]
  show Except.ok (Stq.read nm ((x :: xs).map (·.1)), i + 1 + _) = _
  rw [List.length_cons, show ∀ n : Nat, i + 1 + n = i + (n + 1) from fun n => by omega]
  rfl
/-- the texts that are asked for -/
def txtOf (mid : Str) : Str := Txt.join "\n" (["read a(k int)", mid, "answer b"] : List Str)
theorem row_read : ∃ s, rdRow (none, []) "read a(k int)" = .ok s ∧ s = st1 := ⟨_, by
  refine row_step (sts := []) (s := .read "a" [("k", "int")]) (ts := [tokW 0 "read", tokW 1 "a", tokS 0 40, tokW 0 "k", tokW 1 "int", tokS 0 41]) (tail := []) (by decide +kernel) ?_ (by decide +kernel) (List.cons_ne_nil _ _) (by decide +kernel) ?_
  · exact ⟨fits_word (by decide +kernel) (noRun_sp (by decide)), fits_word (by decide +kernel) (noRun_sign (by decide)), fits_sign (by decide) (fun z => by rcases z with z | z <;> cases z), fits_word (by decide +kernel) (noRun_sp (by decide)), fits_word (by decide +kernel) (noRun_sign (by decide)), fits_sign (by decide) (fun z => by rcases z with z | z <;> cases z), .nil⟩
  · refine RdSays.mono (ok := fun _ => True) ?_ (fun _ _ => trivial)
    exact read_says (t0 := tokW 0 "read") (t1 := tokW 1 "a") (t2 := tokS 0 40) (t3 := tokS 0 41) (x := (("k", "int"), [tokW 0 "k", tokW 1 "int"])) (xs := []) (c := tokS 0 44) (own_word (by decide +kernel)) (nmT_word (by decide +kernel)) (by decide +kernel) (by decide +kernel) (by decide +kernel) (fun y hy => by
      rw [List.mem_singleton.mp hy]
      exact two_says (nmT_word (by decide +kernel)) (own_word (by decide +kernel)) (by decide +kernel)), rfl⟩
end Kx

namespace Kx
open PySem PySem.Spec PyProof.Rows L2 TL
theorem txt_lines {mid : Str} (h : 10 ∉ tl mid) : linesOf (txtOf mid) = (["read a(k int)", mid, "answer b"] : List Str) := by
  unfold txtOf
  refine lines_join (List.cons_ne_nil _ _) fun z hz => ?_
  rcases List.mem_cons.mp hz with rfl | hz
  · decide +kernel
  · rcases List.mem_cons.mp hz with rfl | hz
    · exact h
    · rw [List.mem_singleton.mp hz]
      decide +kernel
theorem row_ans (sts : List Stq) : rdRow (none, sts) "answer b" = .ok (some "b", sts) :=
  row_answer (t1 := tokW 0 "answer") (t2 := tokW 1 "b") (tail := []) (by decide +kernel) ⟨fits_word (by decide +kernel) (noRun_sp (by decide)), fits_word (by decide +kernel) noRun_nil, .nil⟩ (own_word (by decide +kernel)) (nmT_word (by decide +kernel)).k rfl
theorem row_read1 : rdRow (none, []) "read a(k int)" = .ok st1 := by
  obtain ⟨s, e, h⟩ := row_read
  rw [e, h]
theorem err_right {mid : Str} (h10 : 10 ∉ tl mid) (h : ∃ s, rdRow st1 mid = .ok (none, s)) : errJob (txtOf mid) = none := by
  obtain ⟨s, e⟩ := h
  unfold errJob rdJob
  rw [txt_lines h10, rows_cons row_read1, rows_cons e, rows_cons (row_ans s), rdRows]
theorem err_wrong {mid : Str} {c : Nat} (h10 : 10 ∉ tl mid) (h : rdRow st1 mid = .error c) : errJob (txtOf mid) = some (2, c) := by
  unfold errJob rdJob
  rw [txt_lines h10, rows_cons row_read1, rows_wrong h]
theorem mid_no10 {told : Str} (h : 10 ∉ tl told) : 10 ∉ tl (midOf told) := by
  unfold midOf
  rw [tl_append, tl_append]
  intro z
  rcases List.mem_append.mp z with z | z
  · rcases List.mem_append.mp z with z | z
    · revert z
      decide +kernel
    · exact h z
  · revert z
    decide +kernel
theorem mid_len (told : Str) : (midOf told).length = told.length + 18 := by
  unfold midOf
  rw [len_tl, tl_append, tl_append, List.length_append, List.length_append, ← len_tl told, show (tl ("b = map a to " : Str)).length = 13 by decide +kernel, show (tl (" as y" : Str)).length = 5 by decide +kernel]
  omega
/-- a told text of a kind, right or wrong -/
structure Good (kd : Nat) (told : Str) (right : Bool) : Prop where
  no10 : 10 ∉ tl told
  len : told.length ≤ 5000
  err : errJob (txtOf (midOf told)) = if right = true then none else if kd = 3 then some (2, 114) else some (2, told.length + 15)
theorem good_of {kd : Nat} {told : Str} {ts : List Tok} {e : Ex} {r : Nat} (W : Wrt told ts) (hkd : kd ≠ 3) (h10 : 10 ∉ tl told) (hlen : told.length ≤ 5000) (hn : nbr ts ≤ 290) (h : Pt 100 1 e ts r) (hr : 0 < r) : Good kd told (!largeE e) := by
  refine ⟨h10, hlen, ?_⟩
  cases hg : largeE e with
  | false =>
    rw [if_pos (by rfl)]
    exact err_right (mid_no10 h10) (mid_ok W hn h hr hg)
  | true =>
    rw [if_neg (by decide), if_neg hkd]
    exact err_wrong (mid_no10 h10) (mid_big W hn h hr hg)
theorem sumL_mem : ∀ {n : Nat} {c : Nat}, c ∈ sumL n → c = 107 ∨ c = 43
  | 0, c, h => .inl (List.mem_singleton.mp h)
  | n + 1, c, h => by
    rcases List.mem_append.mp h with h | h
    · exact sumL_mem h
    · rcases List.mem_cons.mp h with h | h
      · exact .inr h
      · exact .inl (List.mem_singleton.mp h)
theorem sumL_len : ∀ n, (sumL n).length = 2 * n + 1
  | 0 => rfl
  | n + 1 => by
    show (sumL n ++ [43, 107]).length = _
    rw [List.length_append, sumL_len n]
    show 2 * n + 1 + 2 = _
    omega
theorem sum_large : (List.range 8).all (fun m => (!largeE (sumE (35 + m))) == decide (36 + m ≤ 40)) = true := by decide +kernel
theorem good_sum {told : Str} {m : Nat} (hm : m < 8) (h : tl told = sumL (35 + m)) : Good 0 told (decide (36 + m ≤ 40)) := by
  have hl := List.all_eq_true.mp sum_large m (List.mem_range.mpr hm)
  have hl := eq_of_beq hl
  rw [← hl]
  obtain ⟨r, hr, hp⟩ := sum_pt 98 (35 + m)
  refine good_of (sum_wrt h) (by decide) (fun z => ?_) ?_ (Nat.le_trans (sum_nbr _) (by omega)) (show Pt 100 1 _ _ r from hp) (by omega)
  · rw [h] at z
    rcases sumL_mem z with z | z <;> cases z
  · rw [len_tl, h, sumL_len]
    omega
theorem minL_eq (z : List Nat) : ∀ n, minL z n = (List.replicate n z).flatten ++ [107]
  | 0 => rfl
  | n + 1 => by
    show z ++ minL z n = _
    rw [minL_eq z n, List.replicate_succ, List.flatten_cons, List.append_assoc]
theorem minL_mem {z : List Nat} : ∀ {n c : Nat}, c ∈ minL z n → c = 107 ∨ c ∈ z
  | 0, c, h => .inl (List.mem_singleton.mp h)
  | n + 1, c, h => by
    rcases List.mem_append.mp h with h | h
    · exact .inr h
    · exact minL_mem h
theorem minL_len {z : List Nat} : ∀ n, (minL z n).length = n * z.length + 1
  | 0 => by show 1 = 0 * _ + 1; rw [Nat.zero_mul]
  | n + 1 => by
    show (z ++ minL z n).length = _
    rw [List.length_append, minL_len n, Nat.succ_mul]
    omega
theorem min_large : ∀ b : Bool, (List.range 10).all (fun m => (!largeE (minE b (34 + m))) == decide (34 + m < 40)) = true := by
  intro b
  cases b <;> decide +kernel
theorem good_min {kd : Nat} {told : Str} {not_ : Bool} {s m : Nat} {z : List Nat} (hkd : kd ≠ 3) (hz : z = (sgT not_ 0).w ++ List.replicate s 32) (hs : not_ = true → 0 < s) (h10 : 10 ∉ z) (hzl : z.length ≤ 10) (hm : m < 10) (h : tl told = minL z (34 + m)) : Good kd told (decide (34 + m < 40)) := by
  have hl := List.all_eq_true.mp (min_large not_) m (List.mem_range.mpr hm)
  have hl := eq_of_beq hl
  rw [← hl]
  obtain ⟨r, hr, hp⟩ := min_pt (not_ := not_) (s := s) (s0 := 1) (n := 34 + m) (by omega)
  refine good_of (min_wrt hz hs h) hkd (fun c => ?_) ?_ (Nat.le_trans (min_nbr _ _) (by omega)) hp hr
  · rw [h] at c
    rcases minL_mem c with c | c
    · cases c
    · exact h10 c
  · rw [len_tl, h, minL_len]
    have : (34 + m) * z.length ≤ 44 * 10 := Nat.mul_le_mul (by omega) hzl
    omega
theorem parL_eq : ∀ n, parL n = List.replicate n 40 ++ [107] ++ List.replicate n 41
  | 0 => rfl
  | n + 1 => by
    show 40 :: (parL n ++ [41]) = _
    rw [parL_eq n, List.append_assoc (List.replicate n 40 ++ [107]), ← List.replicate_succ', List.replicate_succ (a := 40)]
    rfl
theorem flat_one (c n : Nat) : (List.replicate n [c]).flatten = List.replicate n c := by
  induction n with
  | zero => rfl
  | succ n ih => rw [List.replicate_succ, List.flatten_cons, ih, List.replicate_succ]; rfl
theorem good_par {told : Str} {m : Nat} (hm : m < 20) (h : tl told = parL (90 + m)) : Good 3 told (decide (90 + m < 100)) := by
  have h10 : 10 ∉ tl told := fun z => by
    rw [h, parL_eq] at z
    rcases List.mem_append.mp z with z | z
    · rcases List.mem_append.mp z with z | z
      · have := List.eq_of_mem_replicate z
        omega
      · have := List.mem_singleton.mp z
        omega
    · have := List.eq_of_mem_replicate z
      omega
  have hlen : told.length ≤ 5000 := by
    rw [len_tl, h, parL_eq, List.length_append, List.length_append, List.length_replicate, List.length_replicate]
    show 90 + m + 1 + (90 + m) ≤ 5000
    omega
  refine ⟨h10, hlen, ?_⟩
  by_cases hc : 90 + m < 100
  · rw [if_pos (decide_eq_true hc)]
    have hp := par_pt (90 + m) (9 - m) 1 1
    rw [show 9 - m + 1 + (90 + m) = 100 by omega] at hp
    exact err_right (mid_no10 h10) (mid_ok (par_wrt h) (by rw [par_nbr]; decide) hp (by decide) (by decide +kernel))
  · rw [if_neg (fun z => hc (of_decide_eq_true z)), if_pos rfl]
    exact err_wrong (mid_no10 h10) (mid_deep h (by omega))
/-! ### the near ones, and the names -/
theorem near_no10 {p : Str × Option Nat} (h : p ∈ nears) : 10 ∉ tl (nearOf p.1) ∧ p.1.length ≤ 100 := by
  have : nears.all (fun p => decide (10 ∉ tl (nearOf p.1)) && decide (p.1.length ≤ 100)) = true := by decide +kernel
  have h1 := List.all_eq_true.mp this p h
  rw [Bool.and_eq_true] at h1
  exact ⟨of_decide_eq_true h1.1, of_decide_eq_true h1.2⟩
theorem near_err {p : Str × Option Nat} (h : p ∈ nears) : errJob (txtOf (nearOf p.1)) = match p.2 with
  | none => none
  | some n => some (2, 19 + n) := by
  obtain ⟨h10, _⟩ := near_no10 h
  rcases near_row h with ⟨c, e, hr⟩ | ⟨e, hr⟩
  · rw [e]
    exact err_wrong h10 hr
  · rw [e]
    exact err_right h10 hr
/-- the row of names -/
def namL : Nat → List Nat
  | 0 => []
  | n + 1 => [44, 32, 107, 32, 97, 115, 32, 121] ++ namL n
theorem nam_tl : ∀ n, layT (namT n) [] = namL n
  | 0 => rfl
  | n + 1 => by
    show layT ([tokS 0 44] ++ (([kT 1] ++ postT) ++ namT n)) [] = [44, 32, 107, 32, 97, 115, 32, 121] ++ namL n
    rw [← List.append_assoc, layT_append, layT_tail, nam_tl n]
    congr 1
theorem row_tl (n : Nat) : layT (rowOf n) [] = tl ("b = map a to k as y" : Str) ++ namL n := by
  unfold rowOf
  rw [← List.append_assoc, layT_append, layT_tail, nam_tl n]
  congr 1
theorem namL_join : ∀ n, joinL (tl ", ") (List.replicate (n + 1) (tl "k as y")) = tl ("k as y" : Str) ++ namL n
  | 0 => by decide +kernel
  | n + 1 => by
    rw [List.replicate_succ, List.replicate_succ]
    show tl "k as y" ++ (tl ", " ++ joinL (tl ", ") (tl "k as y" :: List.replicate n (tl "k as y"))) = _
    rw [← List.replicate_succ, namL_join n, ← List.append_assoc (tl ", ")]
    show tl ("k as y" : Str) ++ (tl ", " ++ tl "k as y" ++ namL n) = tl ("k as y" : Str) ++ ([44, 32, 107, 32, 97, 115, 32, 121] ++ namL n)
    rw [show tl (", " : Str) ++ tl ("k as y" : Str) = [44, 32, 107, 32, 97, 115, 32, 121] by decide +kernel]
theorem namL_mem : ∀ {n c : Nat}, c ∈ namL n → c ≠ 10
  | 0, c, h => by cases h
  | n + 1, c, h => by
    rcases List.mem_append.mp h with h | h
    · intro z
      rw [z] at h
      revert h
      decide
    · exact namL_mem h
theorem namL_len : ∀ n, (namL n).length = 8 * n
  | 0 => rfl
  | n + 1 => by
    show ([44, 32, 107, 32, 97, 115, 32, 121] ++ namL n).length = _
    rw [List.length_append, namL_len n]
    show 8 + 8 * n = _
    omega
theorem nam_err {z : Str} {n : Nat} (h : tl z = tl ("b = map a to k as y" : Str) ++ namL n) : 10 ∉ tl z ∧ z.length = 19 + 8 * n ∧ (4 * n + 8 ≤ 300 → errJob (txtOf z) = none) ∧ (300 < 4 * n + 8 → ∃ c, errJob (txtOf z) = some (2, c)) := by
  have h10 : 10 ∉ tl z := fun c => by
    rw [h] at c
    rcases List.mem_append.mp c with c | c
    · revert c
      decide +kernel
    · exact namL_mem c rfl
  have hr : tl z = layT (rowOf n) [] := by rw [h, row_tl]
  refine ⟨h10, ?_, fun hn => err_right h10 (nam_ok hr hn), fun hn => ?_⟩
  · rw [len_tl, h, List.length_append, namL_len]
    congr 1
  · obtain ⟨c, e⟩ := nam_wrong (st := st1) hr hn
    exact ⟨c, err_wrong h10 e⟩
end Kx

namespace Kx
open PySem PySem.Spec PyProof.Rows L2 TL
abbrev sLaw : Stmt := topS 65
def three (mid : Str) : List Str := ["read a(k int)", mid, "answer b"]
theorem three_txt (mid : Str) : Txt.join "\n" (three mid) = txtOf mid := by
  unfold txtOf three
  rfl
theorem three_ok {mid : Str} (h : 10 ∉ tl mid) (hl : mid.length ≤ 9000) : three mid ≠ [] ∧ (∀ y ∈ three mid, 10 ∉ tl y ∧ y.length ≤ 9999) ∧ ((three mid).map (·.length)).sum + (three mid).length ≤ 99999 := by
  refine ⟨List.cons_ne_nil _ _, fun y hy => ?_, ?_⟩
  · rcases List.mem_cons.mp hy with rfl | hy
    · decide +kernel
    · rcases List.mem_cons.mp hy with rfl | hy
      · exact ⟨h, by omega⟩
      · rw [List.mem_singleton.mp hy]
        decide +kernel
  · show ("read a(k int)" : Str).length + (mid.length + (("answer b" : Str).length + 0)) + 3 ≤ 99999
    rw [show ("read a(k int)" : Str).length = 13 by decide +kernel, show ("answer b" : Str).length = 8 by decide +kernel]
    omega
theorem pls_shaped (o : Option (Nat × Nat)) : SeqAt.shaped (.list [plD o]) = true := by
  cases o with
  | none => decide
  | some x =>
    show SeqAt.shaped (.list [.tuple [.int (x.1 : Int), .int (x.2 : Int)]]) = true
    unfold SeqAt.shaped
    simp [PyData.canLay0, PyData.canLayAll0, PyData.depth, PyData.depthAll]
theorem ifT {c : Bool} {A B : Prop} (h : c = true) (a : A) : if c = true then A else B := by
  rw [if_pos h]
  exact a
theorem ifF {c : Bool} {A B : Prop} (h : c = false) (b : B) : if c = true then A else B := by
  rw [h]
  exact b
theorem ifInt {i j : Int} {A B : Prop} (h1 : i = j → A) (h2 : i ≠ j → B) : if decide (V.int i = V.int j) = true then A else B := by
  by_cases h : i = j
  · rw [if_pos (decide_eq_true (by rw [h]))]
    exact h1 h
  · rw [if_neg (fun z => h (V.int.inj (of_decide_eq_true z)))]
    exact h2 h
theorem flat1 {α : Type} (c : α) (n : Nat) : (List.replicate n [c]).flatten = List.replicate n c := by
  induction n with
  | zero => rfl
  | succ n ih => rw [List.replicate_succ, List.flatten_cons, ih, List.replicate_succ]; rfl
theorem sumL_front : ∀ n, sumL (n + 1) = [107, 43] ++ sumL n
  | 0 => rfl
  | n + 1 => by
    have e := sumL_front n
    show sumL (n + 1) ++ [43, 107] = [107, 43] ++ (sumL n ++ [43, 107])
    rw [e, List.append_assoc]
theorem join_sum : ∀ n, joinL [43] (List.replicate (n + 1) [107]) = sumL n
  | 0 => rfl
  | n + 1 => by
    rw [List.replicate_succ, List.replicate_succ]
    show [107] ++ ([43] ++ joinL [43] ([107] :: List.replicate n [107])) = _
    rw [← List.replicate_succ, join_sum n, sumL_front]
    rfl
theorem sum_join (n m : Nat) (h : n = m + 1) : tl (Txt.join "+" (List.replicate n ("k" : Str))) = sumL m := by
  subst h
  rw [join_eq, tl_join, List.map_replicate, show tl ("+" : Str) = [43] by decide +kernel, show tl ("k" : Str) = [107] by decide +kernel]
  exact join_sum m
theorem min_told {z : Str} {l : List Nat} {n : Nat} (h : tl z = l) : tl (mkS (List.replicate n (tl z)).flatten ++ ("k" : Str)) = minL l n := by
  rw [tl_append, tl_mkS, minL_eq, h, show tl ("k" : Str) = [107] by decide +kernel]
theorem rep_length {z : Str} {n : Nat} : (mkS (List.replicate n (tl z)).flatten).length = n * z.length := by
  rw [len_mkS, List.length_flatten, List.map_replicate, List.sum_replicate_nat, len_tl]
theorem rep_len {z y : Str} {n : Nat} (hn : n ≤ 1000) (h : z.length + y.length ≤ 10) : (mkS (List.replicate n (tl z)).flatten).length + y.length ≤ sizeLine := by
  rw [rep_length]
  have h1 : n * z.length ≤ 1000 * 10 := Nat.mul_le_mul hn (by omega)
  exact Nat.le_trans (show n * z.length + y.length ≤ 20000 by omega) (by decide)
theorem rep_len2 {z y x : Str} {n : Nat} (hn : n ≤ 1000) (h : z.length + y.length ≤ 10) (hx : x.length ≤ 10) : (mkS (List.replicate n (tl z)).flatten ++ y).length + (mkS (List.replicate n (tl x)).flatten).length ≤ sizeLine := by
  rw [len_tl, tl_append, List.length_append, ← len_tl, ← len_tl, rep_length, rep_length]
  have h1 : n * z.length ≤ 1000 * 10 := Nat.mul_le_mul hn (by omega)
  have h2 : n * x.length ≤ 1000 * 10 := Nat.mul_le_mul hn hx
  exact Nat.le_trans (show n * z.length + y.length + n * x.length ≤ 40000 by omega) (by decide)
theorem par_told {n : Nat} : tl (mkS (List.replicate n (tl ("(" : Str))).flatten ++ ("k" : Str) ++ mkS (List.replicate n (tl (")" : Str))).flatten) = parL n := by
  rw [tl_append, tl_append, tl_mkS, tl_mkS, parL_eq, show tl ("k" : Str) = [107] by decide +kernel, show tl ("(" : Str) = [40] by decide +kernel, show tl (")" : Str) = [41] by decide +kernel, flat1, flat1]
section
variable {P : Program} {w : World} {K : PySem.W.Frag} {mg : Str → Option Value} {base : Heap}
def spLaw (K : PySem.W.Frag) : Sp := fun vs H Q _ => ∃ (a : Addr) (xs : List Int), vs = [.ref a] ∧ SqL K H a (xs.map V.int) ∧ ∀ H', Q (.bl true) H'
abbrev N_law : List Str := ["script", "draw", "head", "kind", "read", "many", "told", "is_right", "line", "due", "place", "late", "names", "row"]
theorem sc_law : FnScope N_law ["script"] (defScope sLaw) := ⟨rfl, rfl, rfl, by decide +kernel, rfl, by decide +kernel, by decide +kernel⟩
theorem ok_law {f : Addr} {fd : FuncData} {k : Nat} (F : Fun K "law" "law" sLaw f fd) (hk : 5 ≤ k) (m_len : mg "len" = none) (G_law_next : Ready P w K mg base 3 "_law_next" ["draw", "bound"] spNext) (G_law_pick : Ready P w K mg base 4 "_law_pick" ["draw", "things"] (spPick K)) (G_law_near : Ready P w K mg base 5 "_law_near" ["draw"] spNear) (G_law_wrong : Ready P w K mg base k "_law_wrong" ["lines"] (spWrong K)) : FnOk P w K mg base CX0 (k + 1) f fd ["script"] (spLaw K) := by
  refine F.ok sc_law (fun vs H Q E h => ?_) (fun cdv A outer s0 H vs Q E hr h => ?_)
  · obtain ⟨a, xs, rfl, _⟩ := h
    rfl
  obtain ⟨a, xs, rfl, hS, q⟩ := h
  have nd := sc_law.nd
  have hrk : Room k _ := hr
  have hr5 : Room 5 _ := hrk.mono hk
  have hr4 : Room 4 _ := hrk.mono (by omega)
  have hr3 : Room 3 _ := hrk.mono (by omega)
  have hu64 : _ + 64 < cLine := hr.units
  have hu65 := (show ∀ {B : Around}, Room k B → B.units + 65 < cLine from fun r => by have := r.un; omega) hrk
  refine ⟨_, pss_cons (ps_set (i := 1) nd rfl (.inl rfl) (pe_lst (pa_cons (pe_slice sl_list (pv 0) po_none (po_some pe_int)) (pa_cons pe_int (pa_cons pe_int pa_nil)))))
      (pss_cons (ps_asg (pe_tup (pa_cons pe_str (pa_cons (pe_fn G_law_next hr3 (pa_cons (pv 1) (pa_cons pe_int pa_nil))) pa_nil))) (pg_tup rfl (pgs_cons (pg_name (i := 2) nd rfl (.inr rfl)) (pgs_cons (pg_name (i := 3) nd rfl (.inl rfl)) pgs_nil))))
      (pss_cons (ps_set (i := 4) nd rfl (.inl rfl) pe_str)
      (C8.pss_cut (ps_if (pt_cmpR op_eq (pv 3) pe_int (nomark _)) (pss_cons (ps_set (i := 5) nd rfl (.inl rfl) (pe_op op_add pe_int (pe_fn G_law_next hr3 (pa_cons (pv 1) (pa_cons pe_int pa_nil)))))
      (pss_one (ps_par (i := 6) (j := 7) rfl nd rfl rfl (by decide) rfl rfl (pa_cons (pe_join pe_str (pe_op op_rep (pe_lst (pa_cons pe_str pa_nil)) (pv 5))) (pa_cons (pe_cmpR op_le (pv 5) pe_int (nomark _)) pa_nil)) rfl))) (pss_one (ps_if (pt_cmpR op_eq (pv 3) pe_int (nomark _)) (pss_cons (ps_set (i := 5) nd rfl (.inl rfl) (pe_op op_add pe_int (pe_fn G_law_next hr3 (pa_cons (pv 1) (pa_cons pe_int pa_nil)))))
      (pss_one (ps_par (i := 6) (j := 7) rfl nd rfl rfl (by decide) rfl rfl (pa_cons (pe_op op_add_str (pe_op op_repS (pe_fn G_law_pick hr4 (pa_cons (pv 1) (pa_cons (pe_lst (pa_cons pe_str (pa_cons pe_str pa_nil))) pa_nil))) (pv 5)) pe_str) (pa_cons (pe_cmpR op_lt (pv 5) pe_int (nomark _)) pa_nil)) rfl))) (pss_one (ps_if (pt_cmpR op_eq (pv 3) pe_int (nomark _)) (pss_cons (ps_set (i := 5) nd rfl (.inl rfl) (pe_op op_add pe_int (pe_fn G_law_next hr3 (pa_cons (pv 1) (pa_cons pe_int pa_nil)))))
      (pss_one (ps_par (i := 6) (j := 7) rfl nd rfl rfl (by decide) rfl rfl (pa_cons (pe_op op_add_str (pe_op op_repS pe_str (pv 5)) pe_str) (pa_cons (pe_cmpR op_lt (pv 5) pe_int (nomark _)) pa_nil)) rfl))) (pss_cons (ps_set (i := 5) nd rfl (.inl rfl) (pe_op op_add pe_int (pe_fn G_law_next hr3 (pa_cons (pv 1) (pa_cons pe_int pa_nil)))))
      (pss_one (ps_par (i := 6) (j := 7) rfl nd rfl rfl (by decide) rfl rfl (pa_cons (pe_op op_add_str (pe_op op_add_str (pe_op op_repS pe_str (pv 5)) pe_str) (pe_op op_repS pe_str (pv 5))) (pa_cons (pe_cmpR op_lt (pv 5) pe_int (nomark _)) pa_nil)) rfl))))))))
      (pss_cons (ps_set (i := 8) nd rfl (.inl rfl) (pe_op op_add_str (pe_op op_add_str (pv 2) (pv 6)) pe_str))
      (C8.pss_cut (ps_set (i := 9) nd rfl (.inl rfl) (pe_ifExp (pt_val (pv 7)) (pe_lst (pa_cons pe_non pa_nil)) (pe_lst (pa_cons (pe_tup (pa_cons pe_int (pa_cons (pe_op op_add (pe_callB call_len_str (by rfl) m_len PySem.boot_len (pa_cons (pe_op op_add_str (pv 2) (pv 6)) pa_nil)) pe_int) pa_nil))) pa_nil))))
      (C8.pss_cut (ps_if (PW.pt (pw_and (pt_not (pt_val (pv 7))) (pw_and1 (pt_cmpR op_eq (pv 3) pe_int (nomark _))))) (pss_one (ps_setLc (i := 9) (own := [("place", 10)]) (g := gName 10) (tt := tYes) rfl nd rfl rfl (sw_true rfl rfl rfl (by decide +kernel)) (pi_tup (pe_tup (pa_cons pe_int (pa_cons pe_int (pa_cons pe_int pa_nil))))) (blkOk_by (N := N_law) (sc := defScope sLaw) (by decide +kernel)) (fun _ _ _ _ _ => pg_name (i := 10) nd rfl (Or.inl rfl)) (fun _ _ _ _ _ => pts_nil) (fun _ _ _ _ _ => (pe_tup (pa_cons pe_int (pa_cons (pe_op op_add (pe_callB call_len_str (by rfl) m_len PySem.boot_len (pa_cons (pv 2) pa_nil)) (pv 10)) pa_nil)))))) (pss_nil))
      (pss_cons (ps_if (pt_cmpR (op_notInD hu65) (pe_fn G_law_wrong hrk (pa_cons (pe_lst (pa_cons (pv 4) (pa_cons (pv 8) (pa_cons pe_str pa_nil)))) pa_nil)) (pv 9) rfl) (pss_one (ps_ret pe_bl)) (pss_nil))
      (pss_cons (ps_asg (pe_fn G_law_near hr5 (pa_cons (pv 1) pa_nil)) (pg_tup rfl (pgs_cons (pg_name (i := 6) nd rfl (.inl rfl)) (pgs_cons (pg_name (i := 10) nd rfl (.inl rfl)) pgs_nil))))
      (pss_cons (ps_set (i := 2) nd rfl (.inr rfl) pe_str)
      (pss_cons (ps_set (i := 11) nd rfl (.inl rfl) (pe_fn G_law_wrong hrk (pa_cons (pe_lst (pa_cons (pv 4) (pa_cons (pe_op op_add_str (pv 2) (pv 6)) (pa_cons pe_str pa_nil)))) pa_nil)))
      (C8.pss_cut (ps_if (pt_cmpR (op_neD hu64) (pv 11) (pe_ifExp (pt_cmpR op_isN (pv 10) pe_non (nomark _)) pe_non (pe_tup (pa_cons pe_int (pa_cons (pe_op op_add (pe_callB call_len_str (by rfl) m_len PySem.boot_len (pa_cons (pv 2) pa_nil)) (pv 10)) pa_nil)))) (nomark _)) (pss_one (ps_ret pe_bl)) (pss_nil))
      (pss_cons (ps_set (i := 12) nd rfl (.inl rfl) (pe_op op_add pe_int (pe_fn G_law_next hr3 (pa_cons (pv 1) (pa_cons pe_int pa_nil)))))
      (pss_cons (ps_set (i := 13) nd rfl (.inl rfl) (pe_op op_add_str pe_str (pe_join pe_str (pe_op op_rep (pe_lst (pa_cons pe_str pa_nil)) (pv 12)))))
      (pss_one (ps_ret (pe_cmpR op_eq (pe_cmpR op_isN (pe_fn G_law_wrong hrk (pa_cons (pe_lst (pa_cons (pv 4) (pa_cons (pv 13) (pa_cons pe_str pa_nil)))) pa_nil)) pe_non (nomark _)) (pe_cmpR op_le (pe_op op_sub (pe_op op_add pe_int (pe_op op_mul pe_int (pv 12))) pe_int) pe_int (nomark _)) (nomark _))))))))))))))))), ?_⟩
  have z3 : 3 ≤ sizeLine := by decide
  have z2 : 2 ≤ sizeLine := by decide
  have z1 : 1 ≤ sizeLine := by decide
  obtain ⟨ns, ens⟩ := cut_map xs none (some 63)
  refine ⟨_, rfl, _, rfl, a, _, rfl, hS, fun s ns0 => ⟨z3, fun d nd0 => ?_⟩⟩
  rw [ens] at nd0 ⊢
  have D0 : DrawAt (upd (upd H s (.lst (ns.map V.int))) d (.lst [.ref s, .int 0, .int 0])) d s ns 0 := ⟨upd_same, by rw [upd_ne (ne_of_none upd_same nd0)]; exact upd_same, Int.le_refl 0⟩
  generalize upd (upd H s (.lst (ns.map V.int))) d (.lst [.ref s, .int 0, .int 0]) = H0 at D0 ⊢
  refine ⟨_, rfl, d, s, ns, 0, 4, rfl, D0, by decide, fun r H2 r0 r1 b2 D2 => ⟨z2, fun t0 ht0 => ⟨t0, _, rfl, SqT.of upd_same, rfl, _, _, rfl, _, _, rfl, rfl, ?_⟩⟩⟩
  replace D2 := D2.keep (same_upd (o := .tup [.str "b = map a to ", .int r]) ht0)
  generalize upd H2 t0 (.tup [.str "b = map a to ", .int r]) = H3 at D2 ⊢
  obtain ⟨kd, rfl⟩ := Int.eq_ofNat_of_zero_le r0
  refine ⟨fun σ G => ∃ (kd many : Nat) (told : Str) (right : Bool) (n : Int), σ = [some (.ref a), some (.ref d), some (.str "b = map a to "), some (.int (kd : Int)), some (.str "read a(k int)"), some (.int (many : Int)), some (.str told), some (.bl right), none, none, none, none, none, none] ∧ DrawAt G d s ns n ∧ Good kd told right ∧ kd < 4, ?_, ?_⟩
  · refine ⟨_, rfl, rfl, _, rfl, ifInt (fun c => ?_) (fun c0 => ⟨_, rfl, rfl, _, rfl, ifInt (fun c => ?_) (fun c1 => ⟨_, rfl, rfl, _, rfl, ifInt (fun c => ?_) (fun c2 => ?_)⟩)⟩)⟩
    · obtain rfl : kd = 0 := by omega
      refine ⟨_, rfl, d, s, ns, _, 8, rfl, D2, by decide, fun m H4 m0 m1 b4 D4 => ⟨_, _, rfl, rfl, ?_⟩⟩
      obtain ⟨m, rfl⟩ := Int.eq_ofNat_of_zero_le m0
      have hm : m < 8 := by omega
      have et : ((36 : Int) + (m : Int)).toNat = 36 + m := by omega
      have e : (List.replicate ((36 : Int) + (m : Int)).toNat [V.str "k"]).flatten = (List.replicate (36 + m) ("k" : Str)).map V.str := by
        rw [et, flat1, List.map_replicate]
      have hb : decide ((36 : Int) + (m : Int) ≤ 40) = decide (36 + m ≤ 40) := decide_eq_decide.mpr (by omega)
      refine ⟨⟨_, rfl⟩, z1, fun L hL => ⟨_, rfl, L, _, _, rfl, rfl, upd_same, ?_, ?_, ?_, fun p hp => ⟨_, p, List.replicate (36 + m) "k", rfl, rfl, .inl (SqL.of (by rw [e]; exact upd_same)), ?_, _, rfl, _, _, rfl, rfl, _, _, rfl, 0, 36 + m, _, decide (36 + m ≤ 40), _, ?_, (D4.keep (same_upd hL)).keep (same_upd hp), good_sum hm (sum_join (36 + m) (35 + m) (by omega)), by decide⟩⟩⟩
      · omega
      · omega
      · rw [et]
        show 1 * (36 + m) ≤ sizeLine
        exact Nat.le_trans (show 1 * (36 + m) ≤ 100 by omega) (by decide)
      · rw [List.map_replicate, List.sum_replicate_nat, List.length_replicate, show ("k" : Str).length = 1 by decide +kernel, show ("+" : Str).length = 1 by decide +kernel]
        omega
      · rw [← hb]
        rfl
    · obtain rfl : kd = 1 := by omega
      refine ⟨_, rfl, d, s, ns, _, 10, rfl, D2, by decide, fun m H4 m0 m1 b4 D4 => ⟨_, _, rfl, rfl, ?_⟩⟩
      obtain ⟨m, rfl⟩ := Int.eq_ofNat_of_zero_le m0
      have hm : m < 10 := by omega
      have hb : decide ((34 : Int) + (m : Int) < 40) = decide (34 + m < 40) := decide_eq_decide.mpr (by omega)
      refine ⟨_, rfl, z2, fun L hL => ?_⟩
      have D5 := D4.keep (same_upd (o := .lst [.str "- ", .str "-"]) hL)
      have nLd : L ≠ d := fun z => by rw [z, D4.at_d] at hL; cases hL
      refine ⟨d, s, L, ns, _, _, rfl, D5, nLd, .inl (SqL.of upd_same), by simp, fun v H6 hv b6 D6 => ⟨_, rfl, ?_⟩⟩
      rcases List.mem_cons.mp hv with rfl | hv
      · refine ⟨_, 34 + m, rfl, rfl, by omega, by omega, by decide +kernel, by decide +kernel, _, _, rfl, rfl, ?_, _, rfl, _, _, rfl, rfl, _, _, rfl, 1, 34 + m, _, decide (34 + m < 40), _, ?_, D6, good_min (not_ := false) (s := 1) (z := [45, 32]) (by decide) (by decide +kernel) (by decide) (by decide) (by decide) hm (min_told (z := "- ") (by decide +kernel)), by decide⟩
        · exact rep_len (by omega) (by decide +kernel)
        · rw [← hb]
          rfl
      · rw [List.mem_singleton.mp hv]
        refine ⟨_, 34 + m, rfl, rfl, by omega, by omega, by decide +kernel, by decide +kernel, _, _, rfl, rfl, ?_, _, rfl, _, _, rfl, rfl, _, _, rfl, 1, 34 + m, _, decide (34 + m < 40), _, ?_, D6, good_min (not_ := false) (s := 0) (z := [45]) (by decide) (by decide +kernel) (by decide) (by decide) (by decide) hm (min_told (z := "-") (by decide +kernel)), by decide⟩
        · exact rep_len (by omega) (by decide +kernel)
        · rw [← hb]
          rfl
    · obtain rfl : kd = 2 := by omega
      refine ⟨_, rfl, d, s, ns, _, 10, rfl, D2, by decide, fun m H4 m0 m1 b4 D4 => ⟨_, _, rfl, rfl, ?_⟩⟩
      obtain ⟨m, rfl⟩ := Int.eq_ofNat_of_zero_le m0
      have hm : m < 10 := by omega
      have hb : decide ((34 : Int) + (m : Int) < 40) = decide (34 + m < 40) := decide_eq_decide.mpr (by omega)
      refine ⟨_, rfl, _, 34 + m, rfl, rfl, by omega, by omega, by decide +kernel, by decide +kernel, _, _, rfl, rfl, ?_, _, rfl, _, _, rfl, rfl, _, _, rfl, 2, 34 + m, _, decide (34 + m < 40), _, ?_, D4, good_min (not_ := true) (s := 1) (z := [110, 111, 116, 32]) (by decide) (by decide +kernel) (by decide) (by decide) (by decide) hm (min_told (z := "not ") (by decide +kernel)), by decide⟩
      · exact rep_len (by omega) (by decide +kernel)
      · rw [← hb]
        rfl
    · obtain rfl : kd = 3 := by omega
      refine ⟨_, rfl, d, s, ns, _, 20, rfl, D2, by decide, fun m H4 m0 m1 b4 D4 => ⟨_, _, rfl, rfl, ?_⟩⟩
      obtain ⟨m, rfl⟩ := Int.eq_ofNat_of_zero_le m0
      have hm : m < 20 := by omega
      have hb : decide ((90 : Int) + (m : Int) < 100) = decide (90 + m < 100) := decide_eq_decide.mpr (by omega)
      refine ⟨_, rfl, _, 90 + m, rfl, rfl, by omega, by omega, by decide +kernel, by decide +kernel, _, _, rfl, rfl, ?_, _, rfl, _, 90 + m, rfl, rfl, by omega, by omega, by decide +kernel, by decide +kernel, _, _, rfl, rfl, ?_, _, rfl, _, _, rfl, rfl, _, _, rfl, 3, 90 + m, _, decide (90 + m < 100), _, ?_, D4, good_par hm par_told, by decide⟩
      · exact rep_len (by omega) (by decide +kernel)
      · exact rep_len2 (by omega) (by decide +kernel) (by decide +kernel)
      · rw [← hb]
        rfl
  · clear D2 r0 r1
    clear kd
    rintro σ G ⟨kd, many, told, right, n, rfl, D, gd, hkd⟩
    have e13 : ("b = map a to " : Str).length = 13 := by decide +kernel
    have hht : ("b = map a to " ++ told : Str).length = 13 + told.length := by
      rw [len_tl, tl_append, List.length_append, ← len_tl, ← len_tl, e13]
    have htl := gd.len
    have zBig : 6000 ≤ sizeLine := by decide
    refine ⟨_, rfl, _, rfl, _, _, rfl, rfl, by rw [e13]; omega, _, _, rfl, rfl, by rw [hht, show (" as y" : Str).length = 5 by decide +kernel]; omega, ?_⟩
    refine ⟨fun σ G => ∃ (dl : Addr) (ds : List PyData), σ = [some (.ref a), some (.ref d), some (.str "b = map a to "), some (.int (kd : Int)), some (.str "read a(k int)"), some (.int (many : Int)), some (.str told), some (.bl right), some (.str (midOf told)), some (.ref dl), none, none, none, none] ∧ DrawAt G d s ns n ∧ Dp K G (.ref dl) (.list ds) ∧ SeqAt.shaped (.list ds) = true ∧ (right = true ∨ kd ≠ 3 → (ds.any fun z => PyData.eqv z (plD (errJob (txtOf (midOf told))))) = true), ?_, ?_⟩
    · refine ⟨_, rfl, _, rfl, ?_⟩
      cases right with
      | true =>
        refine iteT ⟨z1, fun dl hdl => ⟨dl, [.none], rfl, D.keep (same_upd hdl), .lst (SqL.of upd_same) (.cons .non .nil), by decide, fun _ => ?_⟩⟩
        rw [gd.err, if_pos rfl]
        rfl
      | false =>
        refine iteF ⟨_, rfl, _, rfl, _, _, rfl, rfl, by rw [e13]; omega, _, rfl, by rw [hht]; omega, _, _, rfl, rfl, z2, fun t ht => ⟨z1, fun dl hdl => ⟨dl, [plD (some (2, told.length + 15))], rfl, (D.keep (same_upd ht)).keep (same_upd hdl), .lst (SqL.of upd_same) (.cons (pl_dp ⟨t, rfl, SqT.of (same_upd hdl _ _ ?_)⟩) .nil), pls_shaped _, fun hne => ?_⟩⟩⟩
        · have e2 : ((("b = map a to " ++ told : Str).length : Nat) : Int) + 2 = ((told.length + 15 : Nat) : Int) := by rw [hht]; omega
          show upd G t (.tup [.int 2, .int (((("b = map a to " ++ told : Str).length : Nat) : Int) + 2)]) t = some (.tup [.int ((2 : Nat) : Int), .int ((told.length + 15 : Nat) : Int)])
          rw [e2]
          exact upd_same
        · rw [gd.err, if_neg (by decide), if_neg (by
            rcases hne with z | z
            · cases z
            · exact z)]
          show (PyData.eqv _ _ || false) = true
          rw [refl_of (pl_shaped _)]
          rfl
    · rintro σ G ⟨dl, ds, rfl, D, hds, hsh, hany⟩
      refine ⟨fun σ G => ∃ (dl : Addr) (ds : List PyData) (y10 : Option V), σ = [some (.ref a), some (.ref d), some (.str "b = map a to "), some (.int (kd : Int)), some (.str "read a(k int)"), some (.int (many : Int)), some (.str told), some (.bl right), some (.str (midOf told)), some (.ref dl), y10, none, none, none] ∧ DrawAt G d s ns n ∧ Dp K G (.ref dl) (.list ds) ∧ SeqAt.shaped (.list ds) = true ∧ (ds.any fun z => PyData.eqv z (plD (errJob (txtOf (midOf told))))) = true, ?_, ?_⟩
      · refine ⟨_, rfl, _, rfl, ?_⟩
        cases right with
        | true => exact iteF (iteF ⟨dl, ds, none, rfl, D, hds, hsh, hany (.inl rfl)⟩)
        | false =>
          refine iteT ⟨_, rfl, rfl, _, rfl, ifInt (fun c => ?_) (fun c => ⟨dl, ds, none, rfl, D, hds, hsh, hany (.inr fun z => c (by omega))⟩)⟩
          obtain rfl : kd = 3 := by omega
          refine ⟨z3, fun T hT => ?_⟩
          have s1 := same_upd (o := .tup [.int 100, .int 101, .int 102]) hT
          have eT : upd G T (.tup [.int 100, .int 101, .int 102]) T = some (.tup [.int 100, .int 101, .int 102]) := upd_same
          have D1 := D.keep s1
          generalize upd G T (.tup [.int 100, .int 101, .int 102]) = G1 at s1 eT D1 ⊢
          refine ⟨T, rfl, ⟨_, SqT.of eT⟩, fun E1 hE => ?_⟩
          refine lc_it (walk_tup (xs := [.int 100, .int 101, .int 102])) (fun i H' => Same G1 H' ∧ ∃ as : List Addr, H' E1 = some (.lst (as.map V.ref)) ∧ as.length = i ∧ ∀ (j : Nat) (b : Addr), as[j]? = some b → H' b = some (.tup [.int 2, .int ((13 + (100 + j) : Nat) : Int)])) ⟨same_upd hE, [], upd_same, rfl, fun j b e => by cases e⟩ (fun i H' _ ⟨sm, _⟩ => SqT.of (sm _ _ eT)) ?_ ?_
          · rintro i x H' H'' hi ⟨sm, as, eE, la, has⟩ ⟨rfl, hx⟩
            have hxi : x = .int ((100 + i : Nat) : Int) := by
              rcases i with _ | _ | _ | i
              · cases hx; rfl
              · cases hx; rfl
              · cases hx; rfl
              · cases hx
            subst hxi
            refine ⟨rfl, _, rfl, _, rfl, by rw [e13]; omega, _, rfl, _, _, rfl, rfl, z2, fun t ht => ?_⟩
            have e2 : ((("b = map a to " : Str).length : Nat) : Int) + ((100 + i : Nat) : Int) = ((13 + (100 + i) : Nat) : Int) := by rw [e13]; omega
            have et : upd H'' t (.tup [.int 2, .int (((("b = map a to " : Str).length : Nat) : Int) + ((100 + i : Nat) : Int))]) t = some (.tup [.int 2, .int ((13 + (100 + i) : Nat) : Int)]) := by
              rw [e2]
              exact upd_same
            have su := same_upd (o := .tup [.int 2, .int (((("b = map a to " : Str).length : Nat) : Int) + ((100 + i : Nat) : Int))]) ht
            refine (show ∃ acc, upd H'' t (.tup [.int 2, .int (((("b = map a to " : Str).length : Nat) : Int) + ((100 + i : Nat) : Int))]) E1 = some (.lst acc) ∧ _ from ?_)
            generalize upd H'' t (.tup [.int 2, .int (((("b = map a to " : Str).length : Nat) : Int) + ((100 + i : Nat) : Int))]) = H6 at et su ⊢
            have eE6 := su _ _ eE
            have li : as.length ≤ 3 := by rw [la]; exact Nat.le_of_lt hi
            refine ⟨as.map V.ref, eE6, Nat.lt_of_le_of_lt (show (as.map V.ref).length ≤ 3 by rw [List.length_map]; exact li) (by decide), fun b o e => ?_, as ++ [t], ?_, ?_, fun j b e => ?_⟩
            · rw [upd_ne (fun z => by rw [z, hE] at e; cases e)]
              exact su _ _ (sm b o e)
            · rw [List.map_append]
              exact upd_same
            · rw [List.length_append, la]
              rfl
            · by_cases hj : j < as.length
              · rw [List.getElem?_append_left hj] at e
                have hb := has j b e
                rw [upd_ne (fun z => by rw [z, eE] at hb; cases hb)]
                exact su _ _ hb
              · rw [List.getElem?_append_right (by omega)] at e
                have hj2 : j = i := by
                  have := (List.getElem?_eq_some_iff.mp e).1
                  have h1 : j - as.length < 1 := this
                  omega
                rw [hj2, la, Nat.sub_self] at e
                have hbt : t = b := Option.some.inj e
                subst hbt
                rw [upd_ne (fun z => by rw [z, eE6] at et; cases et), hj2]
                exact et
          · rintro H' ⟨sm, as, eE, la, has⟩
            match as, la with
            | [b0, b1, b2], _ =>
              refine ⟨E1, [plD (some (2, 113)), plD (some (2, 114)), plD (some (2, 115))], _, rfl, D1.keep sm, .lst (SqL.of eE) (.cons (pl_dp ⟨b0, rfl, SqT.of (has 0 b0 rfl)⟩) (.cons (pl_dp ⟨b1, rfl, SqT.of (has 1 b1 rfl)⟩) (.cons (pl_dp ⟨b2, rfl, SqT.of (has 2 b2 rfl)⟩) .nil))), by decide, ?_⟩
              rw [gd.err, if_neg (by decide), if_pos rfl]
              decide
      · rintro σ G ⟨dl, ds, y10, rfl, D, hds, hsh, hany⟩
        have hml : (midOf told).length ≤ 9000 := by rw [mid_len]; omega
        obtain ⟨t1, t2, t3⟩ := three_ok (mid_no10 gd.no10) hml
        refine ⟨_, rfl, _, rfl, z3, fun W hW => ⟨W, three (midOf told), rfl, SqL.of upd_same, t1, t2, t3, fun v H5 s5 hv => ?_⟩⟩
        have s6 := (same_upd (o := .lst ((three (midOf told)).map V.str)) hW).trans s5
        rw [three_txt] at hv
        generalize errJob (txtOf (midOf told)) = ej at hv hany
        refine ⟨_, rfl, plD ej, ds, pl_dp hv, Dp.same' s6 hds, pl_shaped _, hsh, _, rfl, iteNB hany ?_⟩
        have D5 := D.keep s6
        refine ⟨_, rfl, d, s, ns, n, rfl, D5, fun p ap H6 hp b6 D6 ea => ⟨ap, _, rfl, SqT.of ea, rfl, _, _, rfl, _, _, rfl, rfl, ?_⟩⟩
        obtain ⟨hn10, hnl⟩ := near_no10 hp
        have e19 : ("b = filter a where " : Str).length = 19 := by decide +kernel
        have hnl2 : (nearOf p.1).length ≤ 9000 := by
          unfold nearOf
          rw [len_tl, tl_append, List.length_append, ← len_tl, ← len_tl, e19]
          omega
        obtain ⟨u1, u2, u3⟩ := three_ok hn10 hnl2
        refine ⟨_, rfl, _, rfl, _, rfl, _, _, rfl, rfl, by rw [e19]; omega, z3, fun W2 hW2 => ⟨W2, three (nearOf p.1), rfl, SqL.of upd_same, u1, u2, u3, fun v2 H7 s7 hv2 => ?_⟩⟩
        have D7 := (D6.keep (same_upd (o := .lst ((three (nearOf p.1)).map V.str)) hW2)).keep s7
        have he := near_err hp
        rw [three_txt, he] at hv2
        clear he
        refine ⟨fun σ G => ∃ (x2 x3 x5 x6 x7 x8 x9 x10 x11 : Option V), σ = [some (.ref a), some (.ref d), x2, x3, some (.str "read a(k int)"), x5, x6, x7, x8, x9, x10, x11, none, none] ∧ DrawAt G d s ns (n + 1), ?_, ?_⟩
        · obtain ⟨z, o⟩ := p
          cases o with
          | none =>
            obtain rfl : v2 = .non := hv2
            refine ⟨_, rfl, _, rfl, rfl, _, rfl, ifT (decide_eq_true rfl) ⟨.none, .none, .non, .non, by decide, by decide, _, rfl, iteNB rfl ⟨_, _, _, _, _, _, _, _, _, rfl, D7⟩⟩⟩
          | some n2 =>
            refine ⟨_, rfl, _, rfl, rfl, _, rfl, ifF (decide_eq_false fun z => by cases z) ⟨_, rfl, _, rfl, by rw [e19]; omega, _, rfl, _, _, rfl, rfl, z2, fun t ht => ?_⟩⟩
            have e2 : ((("b = filter a where " : Str).length : Nat) : Int) + ((n2 : Nat) : Int) = ((19 + n2 : Nat) : Int) := by rw [e19]; omega
            have et : upd H7 t (.tup [.int 2, .int (((("b = filter a where " : Str).length : Nat) : Int) + ((n2 : Nat) : Int))]) t = some (.tup [.int ((2 : Nat) : Int), .int ((19 + n2 : Nat) : Int)]) := by
              rw [e2]
              exact upd_same
            exact ⟨plD (some (2, 19 + n2)), plD (some (2, 19 + n2)), Dp.same' (same_upd ht) (pl_dp hv2), pl_dp ⟨t, rfl, SqT.of et⟩, pl_shaped _, pl_shaped _, _, rfl, iteNB (refl_of (pl_shaped _)) ⟨_, _, _, _, _, _, _, _, _, rfl, D7.keep (same_upd ht)⟩⟩
        · rintro σ G ⟨x2, x3, x5, x6, x7, x8, x9, x10, x11, rfl, D8⟩
          refine ⟨_, rfl, d, s, ns, _, 14, rfl, D8, by decide, fun m H8 m0 m1 b8 D9 => ⟨_, _, rfl, rfl, ?_⟩⟩
          obtain ⟨m, rfl⟩ := Int.eq_ofNat_of_zero_le m0
          have hm : m < 14 := by omega
          have et : ((68 : Int) + (m : Int)).toNat = 68 + m := by omega
          have e : (List.replicate ((68 : Int) + (m : Int)).toNat [V.str "k as y"]).flatten = (List.replicate (68 + m) ("k as y" : Str)).map V.str := by
            rw [et, flat1, List.map_replicate]
          have hjt : tl (Txt.join ", " (List.replicate (68 + m) ("k as y" : Str))) = tl ("k as y" : Str) ++ namL (67 + m) := by
            rw [join_eq, tl_join, List.map_replicate, show 68 + m = 67 + m + 1 by omega]
            exact namL_join (67 + m)
          have hrow : tl ("b = map a to " ++ Txt.join ", " (List.replicate (68 + m) ("k as y" : Str))) = tl ("b = map a to k as y" : Str) ++ namL (67 + m) := by
            rw [tl_append, hjt, ← List.append_assoc]
            congr 1
          obtain ⟨r10, rlen, rok, rbad⟩ := nam_err hrow
          have hjl : (Txt.join ", " (List.replicate (68 + m) ("k as y" : Str))).length = 6 + 8 * (67 + m) := by
            rw [len_tl, hjt, List.length_append, namL_len]
            congr 1
          obtain ⟨w1, w2, w3⟩ := three_ok r10 (by rw [rlen]; omega)
          refine ⟨⟨_, rfl⟩, z1, fun L hL => ⟨_, rfl, L, _, _, rfl, rfl, upd_same, ?_, ?_, ?_, fun p hp => ⟨_, p, List.replicate (68 + m) "k as y", rfl, rfl, .inl (SqL.of (by rw [e]; exact upd_same)), ?_, _, _, rfl, rfl, ?_, ?_⟩⟩⟩
          · omega
          · omega
          · rw [et]
            show 1 * (68 + m) ≤ sizeLine
            exact Nat.le_trans (show 1 * (68 + m) ≤ 100 by omega) (by decide)
          · rw [List.map_replicate, List.sum_replicate_nat, List.length_replicate, show ("k as y" : Str).length = 6 by decide +kernel, show (", " : Str).length = 2 by decide +kernel]
            omega
          · rw [e13, hjl]
            exact Nat.le_trans (show 13 + (6 + 8 * (67 + m)) ≤ 1000 by omega) (by decide)
          · generalize ("b = map a to " ++ Txt.join ", " (List.replicate (68 + m) ("k as y" : Str)) : Str) = row at *
            refine ⟨_, rfl, _, rfl, z3, fun W hW => ⟨W, three row, rfl, SqL.of upd_same, w1, w2, w3, fun v H9 s9 hv => ?_⟩⟩
            rw [three_txt] at hv
            refine ⟨rfl, _, rfl, _, _, rfl, rfl, .inl ⟨by decide, by decide⟩, _, _, rfl, rfl, _, _, rfl, rfl, _, _, rfl, rfl, rfl, ?_⟩
            have hd : decide (v = V.non) = decide ((5 : Int) + 4 * (68 + (m : Int)) - 1 ≤ 300) := by
              by_cases hc : 4 * (67 + m) + 8 ≤ 300
              · rw [rok hc] at hv
                have hv0 : v = .non := hv
                rw [hv0, decide_eq_true rfl]
                exact (decide_eq_true (by omega)).symm
              · obtain ⟨c, ec⟩ := rbad (by omega)
                rw [ec] at hv
                obtain ⟨q2, hv0, _⟩ := hv
                rw [hv0, decide_eq_false (fun z => by cases z)]
                exact (decide_eq_false (by omega)).symm
            refine (show Q (.bl (decide (V.bl (decide (v = V.non)) = V.bl (decide ((5 : Int) + 4 * (68 + (m : Int)) - 1 ≤ 300))))) H9 from ?_)
            rw [hd, decide_eq_true rfl]
            exact q _
end
end Kx

namespace Kx
open PySem PySem.Spec PyProof.Rows L2 TL
theorem all_words : (("" : Str) :: ownAll) = ([("" : Str), ("read" : Str), ("filter" : Str), ("where" : Str), ("map" : Str), ("to" : Str), ("as" : Str), ("fold" : Str), ("by" : Str), ("join" : Str), ("union" : Str), ("unlike" : Str), ("sort" : Str), ("first" : Str), ("up" : Str), ("down" : Str), ("answer" : Str), ("and" : Str), ("or" : Str), ("not" : Str), ("mod" : Str), ("length" : Str), ("int" : Str), ("text" : Str), ("count" : Str), ("sum" : Str), ("least" : Str), ("greatest" : Str), ("mean" : Str), ("!=" : Str), ("<=" : Str), (">=" : Str), ("(" : Str), (")" : Str), ("," : Str), ("=" : Str), ("<" : Str), (">" : Str), ("+" : Str), ("-" : Str), ("*" : Str), ("/" : Str), (":" : Str)] : List Str) := by decide +kernel
theorem dicW_mk {K : PySem.W.Frag} {w : World} {a : Addr} {es : Array DictEntry} {n : Nat} {ks : List Str} (l : K.lookup a = some ⟨.type "dict", none, .dict es n, #[]⟩) (h : es.toList.map He.keyOf = He.keysIn w.params ks) (lo : (a == sysModules) = false) : He.dicW K a = some (He.keysIn w.params ks) := by
  unfold He.dicW
  rw [l, ← h]
  dsimp only
  have e : (decide (("dict" : String) = "dict") && ((#[] : Array (Option Value)).isEmpty && !(a == sysModules))) = true := by
    rw [lo]
    rfl
  rw [e]
theorem rest_fold_eq : rdRest "fold" = mapR (fun x => (x.1, Dt.fold x.2.1 x.2.2)) rdFoldAll := by
  unfold rdRest
  rw [if_neg (show ¬ ("fold" : Str) = "filter" by decide +kernel), if_neg (show ¬ ("fold" : Str) = "map" by decide +kernel), if_pos rfl]
theorem rest_join_eq : rdRest "join" = mapR (fun x => (x.1, Dt.join x.2)) (rdThen rdTwoIn "by" (rdList rdName)) := by
  unfold rdRest
  rw [if_neg (show ¬ ("join" : Str) = "filter" by decide +kernel), if_neg (show ¬ ("join" : Str) = "map" by decide +kernel), if_neg (show ¬ ("join" : Str) = "fold" by decide +kernel), if_pos rfl]
theorem rest_union_eq : rdRest "union" = mapR (fun x => (x.1, Dt.union)) (rdUnit rdTwoIn) := by
  unfold rdRest
  rw [if_neg (show ¬ ("union" : Str) = "filter" by decide +kernel), if_neg (show ¬ ("union" : Str) = "map" by decide +kernel), if_neg (show ¬ ("union" : Str) = "fold" by decide +kernel), if_neg (show ¬ ("union" : Str) = "join" by decide +kernel), if_pos rfl]
theorem rest_unlike_eq : rdRest "unlike" = mapR (fun x => (x.1, Dt.unlike)) (rdUnit rdOne) := by
  unfold rdRest
  rw [if_neg (show ¬ ("unlike" : Str) = "filter" by decide +kernel), if_neg (show ¬ ("unlike" : Str) = "map" by decide +kernel), if_neg (show ¬ ("unlike" : Str) = "fold" by decide +kernel), if_neg (show ¬ ("unlike" : Str) = "join" by decide +kernel), if_neg (show ¬ ("unlike" : Str) = "union" by decide +kernel), if_pos rfl]
theorem rest_sort_eq : rdRest "sort" = mapR (fun x => (x.1, Dt.sort x.2.1 x.2.2)) rdSort := by
  unfold rdRest
  rw [if_neg (show ¬ ("sort" : Str) = "filter" by decide +kernel), if_neg (show ¬ ("sort" : Str) = "map" by decide +kernel), if_neg (show ¬ ("sort" : Str) = "fold" by decide +kernel), if_neg (show ¬ ("sort" : Str) = "join" by decide +kernel), if_neg (show ¬ ("sort" : Str) = "union" by decide +kernel), if_neg (show ¬ ("sort" : Str) = "unlike" by decide +kernel)]
/-- an error of the class at S is what «except S» names -/
theorem exm_own {K : PySem.W.Frag} {S : Addr} (h1 : PySem.W.subIn K (.ref S) (.type "BaseException") = some true) (h2 : PySem.W.isClsIn K S = true) (h3 : PySem.W.typeIn K (.ref S) = some (.type "type")) (h4 : PySem.W.subIn K (.ref S) (.ref S) = some true) : PySem.W.exmOne K (.ref S) (.ref S) = some true := by
  have sub : (PySem.W.subIn K (.ref S) (.type "BaseException") == some true) = true := by rw [h1] <;> rfl
  have cls : ((PySem.W.clsIn K S).isSome && PySem.W.typeIn K (.ref S) == some (.type "type")) = true := by
    rw [show (PySem.W.clsIn K S).isSome = true from h2, h3] <;> rfl
  show (if (PySem.W.subIn K (.ref S) (.type "BaseException") == some true) = true then (if ((PySem.W.clsIn K S).isSome && PySem.W.typeIn K (.ref S) == some (.type "type")) = true then PySem.W.subIn K (.ref S) (.ref S) else none) else none) = some true
  rw [if_pos sub, if_pos cls, h4]
theorem all_mk {l : PySem.W.OpenLaw} {w : World} {K : PySem.W.Frag} {h : Heap} {mg : Str → Option Value} {fa : Addr} (X : K.In h) (G : h.Ns mainGlobals mg) (hfa : mg "law" = some (.ref fa))
    {f1 f2 f3 f4 f5 f6 f7 f8 f9 f10 f11 f12 f13 f14 f15 f16 f17 f18 f19 f20 f21 f22 f23 f24 f25 f26 f27 f28 f29 f30 f31 f32 f33 f34 f35 f36 f37 f38 f39 f40 f41 f42 f43 : Addr} {od1 an1 od2 an2 od3 an3 od4 an4 od5 an5 od6 an6 od7 an7 od8 an8 od9 an9 od10 an10 od11 an11 od12 an12 od13 an13 od14 an14 od15 an15 od16 an16 od17 an17 od18 an18 od19 an19 od20 an20 od21 an21 od22 an22 od23 an23 od24 an24 od25 an25 od26 an26 od27 an27 od28 an28 od29 an29 od30 an30 od31 an31 od32 an32 od33 an33 od34 an34 od35 an35 od36 an36 od37 an37 od38 an38 od39 an39 od40 an40 od41 an41 od42 an42 od43 an43 : Option Addr} {sl1 sl2 sl3 sl4 sl5 sl6 sl7 sl8 sl9 sl10 sl11 sl12 sl13 sl14 sl15 sl16 sl17 sl18 sl19 sl20 sl21 sl22 sl23 sl24 sl25 sl26 sl27 sl28 sl29 sl30 sl31 sl32 sl33 sl34 sl35 sl36 sl37 sl38 sl39 sl40 sl41 sl42 sl43 : Array (Option Value)} {oc1 kV1 dc1 pm1 cd1 ct1 oc2 kV2 dc2 pm2 cd2 ct2 oc3 kV3 dc3 pm3 cd3 ct3 oc4 kV4 dc4 pm4 cd4 ct4 oc5 kV5 dc5 pm5 cd5 ct5 oc6 kV6 dc6 pm6 cd6 ct6 oc7 kV7 dc7 pm7 cd7 ct7 oc8 kV8 dc8 pm8 cd8 ct8 oc9 kV9 dc9 pm9 cd9 ct9 oc10 kV10 dc10 pm10 cd10 ct10 oc11 kV11 dc11 pm11 cd11 ct11 oc12 kV12 dc12 pm12 cd12 ct12 oc13 kV13 dc13 pm13 cd13 ct13 oc14 kV14 dc14 pm14 cd14 ct14 oc15 kV15 dc15 pm15 cd15 ct15 oc16 kV16 dc16 pm16 cd16 ct16 oc17 kV17 dc17 pm17 cd17 ct17 oc18 kV18 dc18 pm18 cd18 ct18 oc19 kV19 dc19 pm19 cd19 ct19 oc20 kV20 dc20 pm20 cd20 ct20 oc21 kV21 dc21 pm21 cd21 ct21 oc22 kV22 dc22 pm22 cd22 ct22 oc23 kV23 dc23 pm23 cd23 ct23 oc24 kV24 dc24 pm24 cd24 ct24 oc25 kV25 dc25 pm25 cd25 ct25 oc26 kV26 dc26 pm26 cd26 ct26 oc27 kV27 dc27 pm27 cd27 ct27 oc28 kV28 dc28 pm28 cd28 ct28 oc29 kV29 dc29 pm29 cd29 ct29 oc30 kV30 dc30 pm30 cd30 ct30 oc31 kV31 dc31 pm31 cd31 ct31 oc32 kV32 dc32 pm32 cd32 ct32 oc33 kV33 dc33 pm33 cd33 ct33 oc34 kV34 dc34 pm34 cd34 ct34 oc35 kV35 dc35 pm35 cd35 ct35 oc36 kV36 dc36 pm36 cd36 ct36 oc37 kV37 dc37 pm37 cd37 ct37 oc38 kV38 dc38 pm38 cd38 ct38 oc39 kV39 dc39 pm39 cd39 ct39 oc40 kV40 dc40 pm40 cd40 ct40 oc41 kV41 dc41 pm41 cd41 ct41 oc42 kV42 dc42 pm42 cd42 ct42 oc43 kV43 dc43 pm43 cd43 ct43 : Value} {u1 u2 u3 u4 u5 u6 u7 u8 u9 : PySem.Tok} {C fI N BE dl CL aO aG dR : Addr} {nm qn : Str} {bs : List Value} {sn : List Str} {sub : List Value} {ab : Bool} {col : Option Bool} {dd odI anI odO odG : Option Addr} {n0 n1 n2 n3 n5 : Option Value} {slI slO slG : Array (Option Value)} {itsO itsG : Array Value} {nO nG : Nat} {ocI dcI pmI cdI ctI : Value} {es esR : Array DictEntry} {nn nR : Nat} {tS w1 w2 w3 w4 w5 w6 w7 w8 w9 w10 w11 w12 w13 : PySem.Tok} {mf1 : Addr} {mod1 man1 : Option Addr} {msl1 : Array (Option Value)} {moc1 mkV1 mdc1 mpm1 mcd1 mct1 : Value} {mf2 : Addr} {mod2 man2 : Option Addr} {msl2 : Array (Option Value)} {moc2 mkV2 mdc2 mpm2 mcd2 mct2 : Value} {mf3 : Addr} {mod3 man3 : Option Addr} {msl3 : Array (Option Value)} {moc3 mkV3 mdc3 mpm3 mcd3 mct3 : Value} {mf4 : Addr} {mod4 man4 : Option Addr} {msl4 : Array (Option Value)} {moc4 mkV4 mdc4 mpm4 mcd4 mct4 : Value} {mf5 : Addr} {mod5 man5 : Option Addr} {msl5 : Array (Option Value)} {moc5 mkV5 mdc5 mpm5 mcd5 mct5 : Value} {mf6 : Addr} {mod6 man6 : Option Addr} {msl6 : Array (Option Value)} {moc6 mkV6 mdc6 mpm6 mcd6 mct6 : Value} {mf7 : Addr} {mod7 man7 : Option Addr} {msl7 : Array (Option Value)} {moc7 mkV7 mdc7 mpm7 mcd7 mct7 : Value} {mf8 : Addr} {mod8 man8 : Option Addr} {msl8 : Array (Option Value)} {moc8 mkV8 mdc8 mpm8 mcd8 mct8 : Value} {mf9 : Addr} {mod9 man9 : Option Addr} {msl9 : Array (Option Value)} {moc9 mkV9 mdc9 mpm9 mcd9 mct9 : Value}
    (a1 : PySem.W.nsIn K mainGlobals "parts_of" = some (some (.ref f1))) (l1 : K.lookup f1 = some ⟨oc1, od1, .func (PySem.W.fnOf "parts_of" "parts_of" (defArgs s_parts_of) (defBody s_parts_of) (defScope s_parts_of) .none kV1 dc1 pm1 an1 cd1 ct1), sl1⟩) (c1 : PySem.W.codeIn K cd1 "parts_of" = true) (k1 : PySem.W.keepIn K (.ref f1) = true)
    (a2 : PySem.W.nsIn K mainGlobals "rows_of_parts" = some (some (.ref f2))) (l2 : K.lookup f2 = some ⟨oc2, od2, .func (PySem.W.fnOf "rows_of_parts" "rows_of_parts" (defArgs s_rows_of_parts) (defBody s_rows_of_parts) (defScope s_rows_of_parts) .none kV2 dc2 pm2 an2 cd2 ct2), sl2⟩) (c2 : PySem.W.codeIn K cd2 "rows_of_parts" = true) (k2 : PySem.W.keepIn K (.ref f2) = true)
    (a3 : PySem.W.nsIn K mainGlobals "how_many" = some (some (.ref f3))) (l3 : K.lookup f3 = some ⟨oc3, od3, .func (PySem.W.fnOf "how_many" "how_many" (defArgs s_how_many) (defBody s_how_many) (defScope s_how_many) .none kV3 dc3 pm3 an3 cd3 ct3), sl3⟩) (c3 : PySem.W.codeIn K cd3 "how_many" = true) (k3 : PySem.W.keepIn K (.ref f3) = true)
    (a4 : PySem.W.nsIn K mainGlobals "how_deep" = some (some (.ref f4))) (l4 : K.lookup f4 = some ⟨oc4, od4, .func (PySem.W.fnOf "how_deep" "how_deep" (defArgs s_how_deep) (defBody s_how_deep) (defScope s_how_deep) .none kV4 dc4 pm4 an4 cd4 ct4), sl4⟩) (c4 : PySem.W.codeIn K cd4 "how_deep" = true) (k4 : PySem.W.keepIn K (.ref f4) = true)
    (a5 : PySem.W.nsIn K mainGlobals "is_large" = some (some (.ref f5))) (l5 : K.lookup f5 = some ⟨oc5, od5, .func (PySem.W.fnOf "is_large" "is_large" (defArgs s_is_large) (defBody s_is_large) (defScope s_is_large) .none kV5 dc5 pm5 an5 cd5 ct5), sl5⟩) (c5 : PySem.W.codeIn K cd5 "is_large" = true) (k5 : PySem.W.keepIn K (.ref f5) = true)
    (a6 : PySem.W.nsIn K mainGlobals "next_level" = some (some (.ref f6))) (l6 : K.lookup f6 = some ⟨oc6, od6, .func (PySem.W.fnOf "next_level" "next_level" (defArgs s_next_level) (defBody s_next_level) (defScope s_next_level) .none kV6 dc6 pm6 an6 cd6 ct6), sl6⟩) (c6 : PySem.W.codeIn K cd6 "next_level" = true) (k6 : PySem.W.keepIn K (.ref f6) = true)
    (a7 : PySem.W.nsIn K mainGlobals "read_operand" = some (some (.ref f7))) (l7 : K.lookup f7 = some ⟨oc7, od7, .func (PySem.W.fnOf "read_operand" "read_operand" (defArgs s_read_operand) (defBody s_read_operand) (defScope s_read_operand) .none kV7 dc7 pm7 an7 cd7 ct7), sl7⟩) (c7 : PySem.W.codeIn K cd7 "read_operand" = true) (k7 : PySem.W.keepIn K (.ref f7) = true)
    (a8 : PySem.W.nsIn K mainGlobals "read_part" = some (some (.ref f8))) (l8 : K.lookup f8 = some ⟨oc8, od8, .func (PySem.W.fnOf "read_part" "read_part" (defArgs s_read_part) (defBody s_read_part) (defScope s_read_part) .none kV8 dc8 pm8 an8 cd8 ct8), sl8⟩) (c8 : PySem.W.codeIn K cd8 "read_part" = true) (k8 : PySem.W.keepIn K (.ref f8) = true)
    (a9 : PySem.W.nsIn K mainGlobals "read_expression" = some (some (.ref f9))) (l9 : K.lookup f9 = some ⟨oc9, od9, .func (PySem.W.fnOf "read_expression" "read_expression" (defArgs s_read_expression) (defBody s_read_expression) (defScope s_read_expression) .none kV9 dc9 pm9 an9 cd9 ct9), sl9⟩) (c9 : PySem.W.codeIn K cd9 "read_expression" = true) (k9 : PySem.W.keepIn K (.ref f9) = true)
    (a10 : PySem.W.nsIn K mainGlobals "is_figure" = some (some (.ref f10))) (l10 : K.lookup f10 = some ⟨oc10, od10, .func (PySem.W.fnOf "is_figure" "is_figure" (defArgs s_is_figure) (defBody s_is_figure) (defScope s_is_figure) .none kV10 dc10 pm10 an10 cd10 ct10), sl10⟩) (c10 : PySem.W.codeIn K cd10 "is_figure" = true) (k10 : PySem.W.keepIn K (.ref f10) = true)
    (a11 : PySem.W.nsIn K mainGlobals "is_letter" = some (some (.ref f11))) (l11 : K.lookup f11 = some ⟨oc11, od11, .func (PySem.W.fnOf "is_letter" "is_letter" (defArgs s_is_letter) (defBody s_is_letter) (defScope s_is_letter) .none kV11 dc11 pm11 an11 cd11 ct11), sl11⟩) (c11 : PySem.W.codeIn K cd11 "is_letter" = true) (k11 : PySem.W.keepIn K (.ref f11) = true)
    (a12 : PySem.W.nsIn K mainGlobals "run_end" = some (some (.ref f12))) (l12 : K.lookup f12 = some ⟨oc12, od12, .func (PySem.W.fnOf "run_end" "run_end" (defArgs s_run_end) (defBody s_run_end) (defScope s_run_end) .none kV12 dc12 pm12 an12 cd12 ct12), sl12⟩) (c12 : PySem.W.codeIn K cd12 "run_end" = true) (k12 : PySem.W.keepIn K (.ref f12) = true)
    (a13 : PySem.W.nsIn K mainGlobals "is_number" = some (some (.ref f13))) (l13 : K.lookup f13 = some ⟨oc13, od13, .func (PySem.W.fnOf "is_number" "is_number" (defArgs s_is_number) (defBody s_is_number) (defScope s_is_number) .none kV13 dc13 pm13 an13 cd13 ct13), sl13⟩) (c13 : PySem.W.codeIn K cd13 "is_number" = true) (k13 : PySem.W.keepIn K (.ref f13) = true)
    (a14 : PySem.W.nsIn K mainGlobals "piece_at" = some (some (.ref f14))) (l14 : K.lookup f14 = some ⟨oc14, od14, .func (PySem.W.fnOf "piece_at" "piece_at" (defArgs s_piece_at) (defBody s_piece_at) (defScope s_piece_at) .none kV14 dc14 pm14 an14 cd14 ct14), sl14⟩) (c14 : PySem.W.codeIn K cd14 "piece_at" = true) (k14 : PySem.W.keepIn K (.ref f14) = true)
    (a15 : PySem.W.nsIn K mainGlobals "is_bracket" = some (some (.ref f15))) (l15 : K.lookup f15 = some ⟨oc15, od15, .func (PySem.W.fnOf "is_bracket" "is_bracket" (defArgs s_is_bracket) (defBody s_is_bracket) (defScope s_is_bracket) .none kV15 dc15 pm15 an15 cd15 ct15), sl15⟩) (c15 : PySem.W.codeIn K cd15 "is_bracket" = true) (k15 : PySem.W.keepIn K (.ref f15) = true)
    (a16 : PySem.W.nsIn K mainGlobals "pieces_of" = some (some (.ref f16))) (l16 : K.lookup f16 = some ⟨oc16, od16, .func (PySem.W.fnOf "pieces_of" "pieces_of" (defArgs s_pieces_of) (defBody s_pieces_of) (defScope s_pieces_of) .none kV16 dc16 pm16 an16 cd16 ct16), sl16⟩) (c16 : PySem.W.codeIn K cd16 "pieces_of" = true) (k16 : PySem.W.keepIn K (.ref f16) = true)
    (a17 : PySem.W.nsIn K mainGlobals "read_list" = some (some (.ref f17))) (l17 : K.lookup f17 = some ⟨oc17, od17, .func (PySem.W.fnOf "read_list" "read_list" (defArgs s_read_list) (defBody s_read_list) (defScope s_read_list) .none kV17 dc17 pm17 an17 cd17 ct17), sl17⟩) (c17 : PySem.W.codeIn K cd17 "read_list" = true) (k17 : PySem.W.keepIn K (.ref f17) = true)
    (a18 : PySem.W.nsIn K mainGlobals "read_name" = some (some (.ref f18))) (l18 : K.lookup f18 = some ⟨oc18, od18, .func (PySem.W.fnOf "read_name" "read_name" (defArgs s_read_name) (defBody s_read_name) (defScope s_read_name) .none kV18 dc18 pm18 an18 cd18 ct18), sl18⟩) (c18 : PySem.W.codeIn K cd18 "read_name" = true) (k18 : PySem.W.keepIn K (.ref f18) = true)
    (a19 : PySem.W.nsIn K mainGlobals "read_column" = some (some (.ref f19))) (l19 : K.lookup f19 = some ⟨oc19, od19, .func (PySem.W.fnOf "read_column" "read_column" (defArgs s_read_column) (defBody s_read_column) (defScope s_read_column) .none kV19 dc19 pm19 an19 cd19 ct19), sl19⟩) (c19 : PySem.W.codeIn K cd19 "read_column" = true) (k19 : PySem.W.keepIn K (.ref f19) = true)
    (a20 : PySem.W.nsIn K mainGlobals "read_new_name" = some (some (.ref f20))) (l20 : K.lookup f20 = some ⟨oc20, od20, .func (PySem.W.fnOf "read_new_name" "read_new_name" (defArgs s_read_new_name) (defBody s_read_new_name) (defScope s_read_new_name) .none kV20 dc20 pm20 an20 cd20 ct20), sl20⟩) (c20 : PySem.W.codeIn K cd20 "read_new_name" = true) (k20 : PySem.W.keepIn K (.ref f20) = true)
    (a21 : PySem.W.nsIn K mainGlobals "read_mapped" = some (some (.ref f21))) (l21 : K.lookup f21 = some ⟨oc21, od21, .func (PySem.W.fnOf "read_mapped" "read_mapped" (defArgs s_read_mapped) (defBody s_read_mapped) (defScope s_read_mapped) .none kV21 dc21 pm21 an21 cd21 ct21), sl21⟩) (c21 : PySem.W.codeIn K cd21 "read_mapped" = true) (k21 : PySem.W.keepIn K (.ref f21) = true)
    (a22 : PySem.W.nsIn K mainGlobals "read_folded" = some (some (.ref f22))) (l22 : K.lookup f22 = some ⟨oc22, od22, .func (PySem.W.fnOf "read_folded" "read_folded" (defArgs s_read_folded) (defBody s_read_folded) (defScope s_read_folded) .none kV22 dc22 pm22 an22 cd22 ct22), sl22⟩) (c22 : PySem.W.codeIn K cd22 "read_folded" = true) (k22 : PySem.W.keepIn K (.ref f22) = true)
    (a23 : PySem.W.nsIn K mainGlobals "read_sorted" = some (some (.ref f23))) (l23 : K.lookup f23 = some ⟨oc23, od23, .func (PySem.W.fnOf "read_sorted" "read_sorted" (defArgs s_read_sorted) (defBody s_read_sorted) (defScope s_read_sorted) .none kV23 dc23 pm23 an23 cd23 ct23), sl23⟩) (c23 : PySem.W.codeIn K cd23 "read_sorted" = true) (k23 : PySem.W.keepIn K (.ref f23) = true)
    (a24 : PySem.W.nsIn K mainGlobals "read_one_input" = some (some (.ref f24))) (l24 : K.lookup f24 = some ⟨oc24, od24, .func (PySem.W.fnOf "read_one_input" "read_one_input" (defArgs s_read_one_input) (defBody s_read_one_input) (defScope s_read_one_input) .none kV24 dc24 pm24 an24 cd24 ct24), sl24⟩) (c24 : PySem.W.codeIn K cd24 "read_one_input" = true) (k24 : PySem.W.keepIn K (.ref f24) = true)
    (a25 : PySem.W.nsIn K mainGlobals "read_two_inputs" = some (some (.ref f25))) (l25 : K.lookup f25 = some ⟨oc25, od25, .func (PySem.W.fnOf "read_two_inputs" "read_two_inputs" (defArgs s_read_two_inputs) (defBody s_read_two_inputs) (defScope s_read_two_inputs) .none kV25 dc25 pm25 an25 cd25 ct25), sl25⟩) (c25 : PySem.W.codeIn K cd25 "read_two_inputs" = true) (k25 : PySem.W.keepIn K (.ref f25) = true)
    (a26 : PySem.W.nsIn K mainGlobals "read_filter" = some (some (.ref f26))) (l26 : K.lookup f26 = some ⟨oc26, od26, .func (PySem.W.fnOf "read_filter" "read_filter" (defArgs s_read_filter) (defBody s_read_filter) (defScope s_read_filter) .none kV26 dc26 pm26 an26 cd26 ct26), sl26⟩) (c26 : PySem.W.codeIn K cd26 "read_filter" = true) (k26 : PySem.W.keepIn K (.ref f26) = true)
    (a27 : PySem.W.nsIn K mainGlobals "read_map" = some (some (.ref f27))) (l27 : K.lookup f27 = some ⟨oc27, od27, .func (PySem.W.fnOf "read_map" "read_map" (defArgs s_read_map) (defBody s_read_map) (defScope s_read_map) .none kV27 dc27 pm27 an27 cd27 ct27), sl27⟩) (c27 : PySem.W.codeIn K cd27 "read_map" = true) (k27 : PySem.W.keepIn K (.ref f27) = true)
    (a28 : PySem.W.nsIn K mainGlobals "read_fold" = some (some (.ref f28))) (l28 : K.lookup f28 = some ⟨oc28, od28, .func (PySem.W.fnOf "read_fold" "read_fold" (defArgs s_read_fold) (defBody s_read_fold) (defScope s_read_fold) .none kV28 dc28 pm28 an28 cd28 ct28), sl28⟩) (c28 : PySem.W.codeIn K cd28 "read_fold" = true) (k28 : PySem.W.keepIn K (.ref f28) = true)
    (a29 : PySem.W.nsIn K mainGlobals "read_join" = some (some (.ref f29))) (l29 : K.lookup f29 = some ⟨oc29, od29, .func (PySem.W.fnOf "read_join" "read_join" (defArgs s_read_join) (defBody s_read_join) (defScope s_read_join) .none kV29 dc29 pm29 an29 cd29 ct29), sl29⟩) (c29 : PySem.W.codeIn K cd29 "read_join" = true) (k29 : PySem.W.keepIn K (.ref f29) = true)
    (a30 : PySem.W.nsIn K mainGlobals "read_union" = some (some (.ref f30))) (l30 : K.lookup f30 = some ⟨oc30, od30, .func (PySem.W.fnOf "read_union" "read_union" (defArgs s_read_union) (defBody s_read_union) (defScope s_read_union) .none kV30 dc30 pm30 an30 cd30 ct30), sl30⟩) (c30 : PySem.W.codeIn K cd30 "read_union" = true) (k30 : PySem.W.keepIn K (.ref f30) = true)
    (a31 : PySem.W.nsIn K mainGlobals "read_unlike" = some (some (.ref f31))) (l31 : K.lookup f31 = some ⟨oc31, od31, .func (PySem.W.fnOf "read_unlike" "read_unlike" (defArgs s_read_unlike) (defBody s_read_unlike) (defScope s_read_unlike) .none kV31 dc31 pm31 an31 cd31 ct31), sl31⟩) (c31 : PySem.W.codeIn K cd31 "read_unlike" = true) (k31 : PySem.W.keepIn K (.ref f31) = true)
    (a32 : PySem.W.nsIn K mainGlobals "read_sort" = some (some (.ref f32))) (l32 : K.lookup f32 = some ⟨oc32, od32, .func (PySem.W.fnOf "read_sort" "read_sort" (defArgs s_read_sort) (defBody s_read_sort) (defScope s_read_sort) .none kV32 dc32 pm32 an32 cd32 ct32), sl32⟩) (c32 : PySem.W.codeIn K cd32 "read_sort" = true) (k32 : PySem.W.keepIn K (.ref f32) = true)
    (a33 : PySem.W.nsIn K mainGlobals "read_table_head" = some (some (.ref f33))) (l33 : K.lookup f33 = some ⟨oc33, od33, .func (PySem.W.fnOf "read_table_head" "read_table_head" (defArgs s_read_table_head) (defBody s_read_table_head) (defScope s_read_table_head) .none kV33 dc33 pm33 an33 cd33 ct33), sl33⟩) (c33 : PySem.W.codeIn K cd33 "read_table_head" = true) (k33 : PySem.W.keepIn K (.ref f33) = true)
    (a34 : PySem.W.nsIn K mainGlobals "read_step" = some (some (.ref f34))) (l34 : K.lookup f34 = some ⟨oc34, od34, .func (PySem.W.fnOf "read_step" "read_step" (defArgs s_read_step) (defBody s_read_step) (defScope s_read_step) .none kV34 dc34 pm34 an34 cd34 ct34), sl34⟩) (c34 : PySem.W.codeIn K cd34 "read_step" = true) (k34 : PySem.W.keepIn K (.ref f34) = true)
    (a35 : PySem.W.nsIn K mainGlobals "read_job" = some (some (.ref f35))) (l35 : K.lookup f35 = some ⟨oc35, od35, .func (PySem.W.fnOf "read_job" "read_job" (defArgs s_read_job) (defBody s_read_job) (defScope s_read_job) .none kV35 dc35 pm35 an35 cd35 ct35), sl35⟩) (c35 : PySem.W.codeIn K cd35 "read_job" = true) (k35 : PySem.W.keepIn K (.ref f35) = true)
    (a36 : PySem.W.nsIn K mainGlobals "_law_cell_at" = some (some (.ref f36))) (l36 : K.lookup f36 = some ⟨oc36, od36, .func (PySem.W.fnOf "_law_cell_at" "_law_cell_at" (defArgs sCell) (defBody sCell) (defScope sCell) .none kV36 dc36 pm36 an36 cd36 ct36), sl36⟩) (c36 : PySem.W.codeIn K cd36 "_law_cell_at" = true) (k36 : PySem.W.keepIn K (.ref f36) = true)
    (a37 : PySem.W.nsIn K mainGlobals "_law_draw" = some (some (.ref f37))) (l37 : K.lookup f37 = some ⟨oc37, od37, .func (PySem.W.fnOf "_law_draw" "_law_draw" (defArgs sDraw) (defBody sDraw) (defScope sDraw) .none kV37 dc37 pm37 an37 cd37 ct37), sl37⟩) (c37 : PySem.W.codeIn K cd37 "_law_draw" = true) (k37 : PySem.W.keepIn K (.ref f37) = true)
    (a38 : PySem.W.nsIn K mainGlobals "_law_number" = some (some (.ref f38))) (l38 : K.lookup f38 = some ⟨oc38, od38, .func (PySem.W.fnOf "_law_number" "_law_number" (defArgs sNumb) (defBody sNumb) (defScope sNumb) .none kV38 dc38 pm38 an38 cd38 ct38), sl38⟩) (c38 : PySem.W.codeIn K cd38 "_law_number" = true) (k38 : PySem.W.keepIn K (.ref f38) = true)
    (a39 : PySem.W.nsIn K mainGlobals "_law_next" = some (some (.ref f39))) (l39 : K.lookup f39 = some ⟨oc39, od39, .func (PySem.W.fnOf "_law_next" "_law_next" (defArgs sNext) (defBody sNext) (defScope sNext) .none kV39 dc39 pm39 an39 cd39 ct39), sl39⟩) (c39 : PySem.W.codeIn K cd39 "_law_next" = true) (k39 : PySem.W.keepIn K (.ref f39) = true)
    (a40 : PySem.W.nsIn K mainGlobals "_law_pick" = some (some (.ref f40))) (l40 : K.lookup f40 = some ⟨oc40, od40, .func (PySem.W.fnOf "_law_pick" "_law_pick" (defArgs sPick) (defBody sPick) (defScope sPick) .none kV40 dc40 pm40 an40 cd40 ct40), sl40⟩) (c40 : PySem.W.codeIn K cd40 "_law_pick" = true) (k40 : PySem.W.keepIn K (.ref f40) = true)
    (a41 : PySem.W.nsIn K mainGlobals "_law_wrong" = some (some (.ref f41))) (l41 : K.lookup f41 = some ⟨oc41, od41, .func (PySem.W.fnOf "_law_wrong" "_law_wrong" (defArgs s_law_wrong) (defBody s_law_wrong) (defScope s_law_wrong) .none kV41 dc41 pm41 an41 cd41 ct41), sl41⟩) (c41 : PySem.W.codeIn K cd41 "_law_wrong" = true) (k41 : PySem.W.keepIn K (.ref f41) = true)
    (a42 : PySem.W.nsIn K mainGlobals "_law_near" = some (some (.ref f42))) (l42 : K.lookup f42 = some ⟨oc42, od42, .func (PySem.W.fnOf "_law_near" "_law_near" (defArgs s_law_near) (defBody s_law_near) (defScope s_law_near) .none kV42 dc42 pm42 an42 cd42 ct42), sl42⟩) (c42 : PySem.W.codeIn K cd42 "_law_near" = true) (k42 : PySem.W.keepIn K (.ref f42) = true)
    (a43 : PySem.W.nsIn K mainGlobals "law" = some (some (.ref f43))) (l43 : K.lookup f43 = some ⟨oc43, od43, .func (PySem.W.fnOf "law" "law" (defArgs sLaw) (defBody sLaw) (defScope sLaw) .none kV43 dc43 pm43 an43 cd43 ct43), sl43⟩) (c43 : PySem.W.codeIn K cd43 "law" = true) (k43 : PySem.W.keepIn K (.ref f43) = true)
    (z1 : PySem.W.nsIn K mainGlobals "len" = some none)
    (z2 : PySem.W.nsIn K mainGlobals "int" = some none)
    (z3 : PySem.W.nsIn K mainGlobals "sum" = some none)
    (z4 : PySem.W.nsIn K mainGlobals "all" = some none)
    (z5 : PySem.W.nsIn K mainGlobals "range" = some none)
    (z6 : PySem.W.nsIn K mainGlobals "str" = some none)
    (z7 : PySem.W.nsIn K mainGlobals "list" = some none)
    (z8 : PySem.W.nsIn K mainGlobals "tuple" = some none)
    (z9 : PySem.W.nsIn K mainGlobals "isinstance" = some none)
    (z10 : PySem.W.nsIn K mainGlobals "enumerate" = some none)
    (g1 : PySem.W.nsIn K mainGlobals "WHOLE" = some (some (.int (1) u1)))
    (g2 : PySem.W.nsIn K mainGlobals "NOT" = some (some (.int (3) u2)))
    (g3 : PySem.W.nsIn K mainGlobals "COMPARISON" = some (some (.int (4) u3)))
    (g4 : PySem.W.nsIn K mainGlobals "MINUS" = some (some (.int (7) u4)))
    (g5 : PySem.W.nsIn K mainGlobals "MOST_IN_ONE" = some (some (.int (80) u5)))
    (g6 : PySem.W.nsIn K mainGlobals "MOST_WITHIN" = some (some (.int (40) u6)))
    (g7 : PySem.W.nsIn K mainGlobals "MOST_OPEN" = some (some (.int (100) u7)))
    (g8 : PySem.W.nsIn K mainGlobals "MOST_PIECES" = some (some (.int (300) u8)))
    (g9 : PySem.W.nsIn K mainGlobals "MOST_FIGURES" = some (some (.int (18) u9)))
    (aL : PySem.W.nsIn K mainGlobals "Line" = some (some (.ref CL)))
    (ma1 : PySem.W.findIn K (.ref CL) "__init__" = some (some (.ref mf1))) (mi1 : PySem.W.isFn K (.ref mf1) = true) (ml1 : K.lookup mf1 = some ⟨moc1, mod1, .func (PySem.W.fnOf "__init__" "Line.__init__" (defArgs m_Line_init) (defBody m_Line_init) (defScope m_Line_init) .none mkV1 mdc1 mpm1 man1 mcd1 mct1), msl1⟩) (mc1 : PySem.W.codeIn K mcd1 "Line.__init__" = true) (mk1 : PySem.W.keepIn K (.ref mf1) = true)
    (ma2 : PySem.W.findIn K (.ref CL) "fail" = some (some (.ref mf2))) (mi2 : PySem.W.isFn K (.ref mf2) = true) (ml2 : K.lookup mf2 = some ⟨moc2, mod2, .func (PySem.W.fnOf "fail" "Line.fail" (defArgs m_Line_fail) (defBody m_Line_fail) (defScope m_Line_fail) .none mkV2 mdc2 mpm2 man2 mcd2 mct2), msl2⟩) (mc2 : PySem.W.codeIn K mcd2 "Line.fail" = true) (mk2 : PySem.W.keepIn K (.ref mf2) = true)
    (ma3 : PySem.W.findIn K (.ref CL) "is_kind" = some (some (.ref mf3))) (mi3 : PySem.W.isFn K (.ref mf3) = true) (ml3 : K.lookup mf3 = some ⟨moc3, mod3, .func (PySem.W.fnOf "is_kind" "Line.is_kind" (defArgs m_Line_is_kind) (defBody m_Line_is_kind) (defScope m_Line_is_kind) .none mkV3 mdc3 mpm3 man3 mcd3 mct3), msl3⟩) (mc3 : PySem.W.codeIn K mcd3 "Line.is_kind" = true) (mk3 : PySem.W.keepIn K (.ref mf3) = true)
    (ma4 : PySem.W.findIn K (.ref CL) "own_word" = some (some (.ref mf4))) (mi4 : PySem.W.isFn K (.ref mf4) = true) (ml4 : K.lookup mf4 = some ⟨moc4, mod4, .func (PySem.W.fnOf "own_word" "Line.own_word" (defArgs m_Line_own_word) (defBody m_Line_own_word) (defScope m_Line_own_word) .none mkV4 mdc4 mpm4 man4 mcd4 mct4), msl4⟩) (mc4 : PySem.W.codeIn K mcd4 "Line.own_word" = true) (mk4 : PySem.W.keepIn K (.ref mf4) = true)
    (ma5 : PySem.W.findIn K (.ref CL) "take" = some (some (.ref mf5))) (mi5 : PySem.W.isFn K (.ref mf5) = true) (ml5 : K.lookup mf5 = some ⟨moc5, mod5, .func (PySem.W.fnOf "take" "Line.take" (defArgs m_Line_take) (defBody m_Line_take) (defScope m_Line_take) .none mkV5 mdc5 mpm5 man5 mcd5 mct5), msl5⟩) (mc5 : PySem.W.codeIn K mcd5 "Line.take" = true) (mk5 : PySem.W.keepIn K (.ref mf5) = true)
    (ma6 : PySem.W.findIn K (.ref CL) "take_one_of" = some (some (.ref mf6))) (mi6 : PySem.W.isFn K (.ref mf6) = true) (ml6 : K.lookup mf6 = some ⟨moc6, mod6, .func (PySem.W.fnOf "take_one_of" "Line.take_one_of" (defArgs m_Line_take_one_of) (defBody m_Line_take_one_of) (defScope m_Line_take_one_of) .none mkV6 mdc6 mpm6 man6 mcd6 mct6), msl6⟩) (mc6 : PySem.W.codeIn K mcd6 "Line.take_one_of" = true) (mk6 : PySem.W.keepIn K (.ref mf6) = true)
    (ma7 : PySem.W.findIn K (.ref CL) "took" = some (some (.ref mf7))) (mi7 : PySem.W.isFn K (.ref mf7) = true) (ml7 : K.lookup mf7 = some ⟨moc7, mod7, .func (PySem.W.fnOf "took" "Line.took" (defArgs m_Line_took) (defBody m_Line_took) (defScope m_Line_took) .none mkV7 mdc7 mpm7 man7 mcd7 mct7), msl7⟩) (mc7 : PySem.W.codeIn K mcd7 "Line.took" = true) (mk7 : PySem.W.keepIn K (.ref mf7) = true)
    (ma8 : PySem.W.findIn K (.ref CL) "expect" = some (some (.ref mf8))) (mi8 : PySem.W.isFn K (.ref mf8) = true) (ml8 : K.lookup mf8 = some ⟨moc8, mod8, .func (PySem.W.fnOf "expect" "Line.expect" (defArgs m_Line_expect) (defBody m_Line_expect) (defScope m_Line_expect) .none mkV8 mdc8 mpm8 man8 mcd8 mct8), msl8⟩) (mc8 : PySem.W.codeIn K mcd8 "Line.expect" = true) (mk8 : PySem.W.keepIn K (.ref mf8) = true)
    (ma9 : PySem.W.findIn K (.ref CL) "expect_end" = some (some (.ref mf9))) (mi9 : PySem.W.isFn K (.ref mf9) = true) (ml9 : K.lookup mf9 = some ⟨moc9, mod9, .func (PySem.W.fnOf "expect_end" "Line.expect_end" (defArgs m_Line_expect_end) (defBody m_Line_expect_end) (defScope m_Line_expect_end) .none mkV9 mdc9 mpm9 man9 mcd9 mct9), msl9⟩) (mc9 : PySem.W.codeIn K mcd9 "Line.expect_end" = true) (mk9 : PySem.W.keepIn K (.ref mf9) = true)
    (aC : PySem.W.nsIn K mainGlobals "BadText" = some (some (.ref C)))
    (xL : K.lookup C = some (excClassObj nm qn C N bs [.ref BE, .type "Exception", .type "BaseException", .type "object"] true sn sub ab col dd n0 n1 n2 n3 n5 "Exception.__new__"))
    (sa : PySem.W.findIn K (.ref C) "__setattr__" = some (some (.builtin "object.__setattr__"))) (gat : PySem.W.findIn K (.ref C) "__getattribute__" = some (some (.builtin "BaseException.__getattribute__"))) (gg : PySem.W.findIn K (.ref C) "__getattr__" = some none) (nb : PySem.W.findIn K (.ref C) "line" = some none) (nw : PySem.W.findIn K (.ref C) "column" = some none)
    (ai : PySem.W.findIn K (.ref C) "__init__" = some (some (.ref fI))) (ti : PySem.W.typeIn K (.ref fI) = some (.type "function"))
    (li : K.lookup fI = some ⟨ocI, odI, .func (PySem.W.fnOf "__init__" "BadText.__init__" (PySem.BadY.iA ⟨6, 17, 6, 21⟩ ⟨6, 23, 6, 27⟩ ⟨6, 29, 6, 35⟩) (PySem.BadY.iB ⟨7, 8, 7, 12⟩ ⟨7, 8, 7, 17⟩ ⟨7, 20, 7, 24⟩ ⟨7, 8, 7, 24⟩ ⟨8, 8, 8, 12⟩ ⟨8, 8, 8, 19⟩ ⟨8, 22, 8, 28⟩ ⟨8, 8, 8, 28⟩) PySem.BadY.iS .none .none dcI pmI anI cdI ctI), slI⟩) (ci : PySem.W.codeIn K cdI "BadText.__init__" = true)
    (kC : PySem.W.keepIn K (.ref C) = true) (eC : PySem.W.subIn K (.ref C) (.type "BaseException") = some true) (tyC : PySem.W.typeIn K (.ref C) = some (.type "type")) (hC : PySem.W.hasDictIn K C = true) (iC : PySem.W.isClsIn K C = true) (sC : PySem.W.subIn K (.ref C) (.ref C) = some true)
    (gD : PySem.W.nsIn K mainGlobals "LEVELS" = some (some (.ref dl))) (lD : K.lookup dl = some ⟨.type "dict", none, .dict es nn, #[]⟩) (o1 : PySem.W.nsIn K dl "or" = some (some (.int 1 w1))) (o2 : PySem.W.nsIn K dl "and" = some (some (.int 2 w2))) (o3 : PySem.W.nsIn K dl "=" = some (some (.int 4 w3))) (o4 : PySem.W.nsIn K dl "!=" = some (some (.int 4 w4))) (o5 : PySem.W.nsIn K dl "<" = some (some (.int 4 w5))) (o6 : PySem.W.nsIn K dl "<=" = some (some (.int 4 w6))) (o7 : PySem.W.nsIn K dl ">" = some (some (.int 4 w7))) (o8 : PySem.W.nsIn K dl ">=" = some (some (.int 4 w8))) (o9 : PySem.W.nsIn K dl "+" = some (some (.int 5 w9))) (o10 : PySem.W.nsIn K dl "-" = some (some (.int 5 w10))) (o11 : PySem.W.nsIn K dl "*" = some (some (.int 6 w11))) (o12 : PySem.W.nsIn K dl "/" = some (some (.int 6 w12))) (o13 : PySem.W.nsIn K dl "mod" = some (some (.int 6 w13))) (x1 : PySem.W.nsIn K dl "" = some none) (x2 : PySem.W.nsIn K dl "read" = some none) (x3 : PySem.W.nsIn K dl "filter" = some none) (x4 : PySem.W.nsIn K dl "where" = some none) (x5 : PySem.W.nsIn K dl "map" = some none) (x6 : PySem.W.nsIn K dl "to" = some none) (x7 : PySem.W.nsIn K dl "as" = some none) (x8 : PySem.W.nsIn K dl "fold" = some none) (x9 : PySem.W.nsIn K dl "by" = some none) (x10 : PySem.W.nsIn K dl "join" = some none) (x11 : PySem.W.nsIn K dl "union" = some none) (x12 : PySem.W.nsIn K dl "unlike" = some none) (x13 : PySem.W.nsIn K dl "sort" = some none) (x14 : PySem.W.nsIn K dl "first" = some none) (x15 : PySem.W.nsIn K dl "up" = some none) (x16 : PySem.W.nsIn K dl "down" = some none) (x17 : PySem.W.nsIn K dl "answer" = some none) (x18 : PySem.W.nsIn K dl "not" = some none) (x19 : PySem.W.nsIn K dl "length" = some none) (x20 : PySem.W.nsIn K dl "int" = some none) (x21 : PySem.W.nsIn K dl "text" = some none) (x22 : PySem.W.nsIn K dl "count" = some none) (x23 : PySem.W.nsIn K dl "sum" = some none) (x24 : PySem.W.nsIn K dl "least" = some none) (x25 : PySem.W.nsIn K dl "greatest" = some none) (x26 : PySem.W.nsIn K dl "mean" = some none) (x27 : PySem.W.nsIn K dl "(" = some none) (x28 : PySem.W.nsIn K dl ")" = some none) (x29 : PySem.W.nsIn K dl "," = some none) (x30 : PySem.W.nsIn K dl ":" = some none) (gK : PySem.W.KeysLit w.params es.toList) (lw : (dl == sysModules) = false)
    (gO : PySem.W.nsIn K mainGlobals "OWN_WORDS" = some (some (.ref aO))) (lO : K.lookup aO = some ⟨.type "tuple", odO, .seq itsO nO, slO⟩) (vO : Vals (owns.map V.str) itsO.toList)
    (gG : PySem.W.nsIn K mainGlobals "LONG_SIGNS" = some (some (.ref aG))) (lG : K.lookup aG = some ⟨.type "tuple", odG, .seq itsG nG, slG⟩) (vG : Vals (longs.map V.str) itsG.toList)
    (gS : PySem.W.nsIn K mainGlobals "SHORT_SIGNS" = some (some (.str "(),=<>+-*/:" tS)))
    (gR : PySem.W.nsIn K mainGlobals "READERS" = some (some (.ref dR))) (lR : K.lookup dR = some ⟨.type "dict", none, .dict esR nR, #[]⟩) (p1 : PySem.W.nsIn K dR "filter" = some (some (.ref f26))) (p2 : PySem.W.nsIn K dR "map" = some (some (.ref f27))) (p3 : PySem.W.nsIn K dR "fold" = some (some (.ref f28))) (p4 : PySem.W.nsIn K dR "join" = some (some (.ref f29))) (p5 : PySem.W.nsIn K dR "union" = some (some (.ref f30))) (p6 : PySem.W.nsIn K dR "unlike" = some (some (.ref f31))) (p7 : PySem.W.nsIn K dR "sort" = some (some (.ref f32))) (gKR : PySem.W.KeysLit w.params esR.toList) (hR : esR.toList.map He.keyOf = He.keysIn w.params seven) (lwR : (dR == sysModules) = false)
    (pgL : PySem.W.plainGet K CL Str.empty = true) (hdL : PySem.W.hasDictIn K CL = true) (poL : PySem.W.plainOver K CL = true) (saL : PySem.W.findIn K (.ref CL) "__setattr__" = some (some (.builtin "object.__setattr__"))) (mkL : PySem.W.makesIn K CL = true) (kcL : PySem.W.keepIn K (.ref CL) = true)
    (y1 : PySem.W.findIn K (.ref CL) "number" = some none) (y2 : PySem.W.findIn K (.ref CL) "pieces" = some none) (y3 : PySem.W.findIn K (.ref CL) "place" = some none) :
    ∃ fd : FuncData, (∀ (s : Shared) (v : Value), BindsTo s fd ⟨[v], []⟩ [("script", v)]) ∧ ∀ base : Heap, K.In base → base.Ns mainGlobals mg → FnOk l.prog w K mg base CX0 213 fa fd ["script"] (spLaw K) := by
  have e := hfa.symm.trans (PySem.W.mg_of X G a43)
  cases e
  have F1 := fun_mk (st := s_parts_of) l1 c1 k1
  have b1 := F1.binds (ps := ["told"]) fun _ _ _ _ _ _ us hl => match us, hl with | [_], _ => rfl
  have m1 := PySem.W.mg_of X G a1
  have F2 := fun_mk (st := s_rows_of_parts) l2 c2 k2
  have b2 := F2.binds (ps := ["told"]) fun _ _ _ _ _ _ us hl => match us, hl with | [_], _ => rfl
  have m2 := PySem.W.mg_of X G a2
  have F3 := fun_mk (st := s_how_many) l3 c3 k3
  have b3 := F3.binds (ps := ["told"]) fun _ _ _ _ _ _ us hl => match us, hl with | [_], _ => rfl
  have m3 := PySem.W.mg_of X G a3
  have F4 := fun_mk (st := s_how_deep) l4 c4 k4
  have b4 := F4.binds (ps := ["told"]) fun _ _ _ _ _ _ us hl => match us, hl with | [_], _ => rfl
  have m4 := PySem.W.mg_of X G a4
  have F5 := fun_mk (st := s_is_large) l5 c5 k5
  have b5 := F5.binds (ps := ["told"]) fun _ _ _ _ _ _ us hl => match us, hl with | [_], _ => rfl
  have m5 := PySem.W.mg_of X G a5
  have F6 := fun_mk (st := s_next_level) l6 c6 k6
  have b6 := F6.binds (ps := ["line"]) fun _ _ _ _ _ _ us hl => match us, hl with | [_], _ => rfl
  have m6 := PySem.W.mg_of X G a6
  have F7 := fun_mk (st := s_read_operand) l7 c7 k7
  have b7 := F7.binds (ps := ["line", "level", "many"]) fun _ _ _ _ _ _ us hl => match us, hl with | [_, _, _], _ => rfl
  have m7 := PySem.W.mg_of X G a7
  have F8 := fun_mk (st := s_read_part) l8 c8 k8
  have b8 := F8.binds (ps := ["line", "level", "many"]) fun _ _ _ _ _ _ us hl => match us, hl with | [_, _, _], _ => rfl
  have m8 := PySem.W.mg_of X G a8
  have F9 := fun_mk (st := s_read_expression) l9 c9 k9
  have b9 := F9.binds (ps := ["line"]) fun _ _ _ _ _ _ us hl => match us, hl with | [_], _ => rfl
  have m9 := PySem.W.mg_of X G a9
  have F10 := fun_mk (st := s_is_figure) l10 c10 k10
  have b10 := F10.binds (ps := ["sign"]) fun _ _ _ _ _ _ us hl => match us, hl with | [_], _ => rfl
  have m10 := PySem.W.mg_of X G a10
  have F11 := fun_mk (st := s_is_letter) l11 c11 k11
  have b11 := F11.binds (ps := ["sign"]) fun _ _ _ _ _ _ us hl => match us, hl with | [_], _ => rfl
  have m11 := PySem.W.mg_of X G a11
  have F12 := fun_mk (st := s_run_end) l12 c12 k12
  have b12 := F12.binds (ps := ["text", "at"]) fun _ _ _ _ _ _ us hl => match us, hl with | [_, _], _ => rfl
  have m12 := PySem.W.mg_of X G a12
  have F13 := fun_mk (st := s_is_number) l13 c13 k13
  have b13 := F13.binds (ps := ["run"]) fun _ _ _ _ _ _ us hl => match us, hl with | [_], _ => rfl
  have m13 := PySem.W.mg_of X G a13
  have F14 := fun_mk (st := s_piece_at) l14 c14 k14
  have b14 := F14.binds (ps := ["text", "at"]) fun _ _ _ _ _ _ us hl => match us, hl with | [_, _], _ => rfl
  have m14 := PySem.W.mg_of X G a14
  have F15 := fun_mk (st := s_is_bracket) l15 c15 k15
  have b15 := F15.binds (ps := ["piece"]) fun _ _ _ _ _ _ us hl => match us, hl with | [_], _ => rfl
  have m15 := PySem.W.mg_of X G a15
  have F16 := fun_mk (st := s_pieces_of) l16 c16 k16
  have b16 := F16.binds (ps := ["text", "number"]) fun _ _ _ _ _ _ us hl => match us, hl with | [_, _], _ => rfl
  have m16 := PySem.W.mg_of X G a16
  have F17 := fun_mk (st := s_read_list) l17 c17 k17
  have b17 := F17.binds (ps := ["line", "read_one"]) fun _ _ _ _ _ _ us hl => match us, hl with | [_, _], _ => rfl
  have m17 := PySem.W.mg_of X G a17
  have F18 := fun_mk (st := s_read_name) l18 c18 k18
  have b18 := F18.binds (ps := ["line"]) fun _ _ _ _ _ _ us hl => match us, hl with | [_], _ => rfl
  have m18 := PySem.W.mg_of X G a18
  have F19 := fun_mk (st := s_read_column) l19 c19 k19
  have b19 := F19.binds (ps := ["line"]) fun _ _ _ _ _ _ us hl => match us, hl with | [_], _ => rfl
  have m19 := PySem.W.mg_of X G a19
  have F20 := fun_mk (st := s_read_new_name) l20 c20 k20
  have b20 := F20.binds (ps := ["line"]) fun _ _ _ _ _ _ us hl => match us, hl with | [_], _ => rfl
  have m20 := PySem.W.mg_of X G a20
  have F21 := fun_mk (st := s_read_mapped) l21 c21 k21
  have b21 := F21.binds (ps := ["line"]) fun _ _ _ _ _ _ us hl => match us, hl with | [_], _ => rfl
  have m21 := PySem.W.mg_of X G a21
  have F22 := fun_mk (st := s_read_folded) l22 c22 k22
  have b22 := F22.binds (ps := ["line"]) fun _ _ _ _ _ _ us hl => match us, hl with | [_], _ => rfl
  have m22 := PySem.W.mg_of X G a22
  have F23 := fun_mk (st := s_read_sorted) l23 c23 k23
  have b23 := F23.binds (ps := ["line"]) fun _ _ _ _ _ _ us hl => match us, hl with | [_], _ => rfl
  have m23 := PySem.W.mg_of X G a23
  have F24 := fun_mk (st := s_read_one_input) l24 c24 k24
  have b24 := F24.binds (ps := ["line"]) fun _ _ _ _ _ _ us hl => match us, hl with | [_], _ => rfl
  have m24 := PySem.W.mg_of X G a24
  have F25 := fun_mk (st := s_read_two_inputs) l25 c25 k25
  have b25 := F25.binds (ps := ["line"]) fun _ _ _ _ _ _ us hl => match us, hl with | [_], _ => rfl
  have m25 := PySem.W.mg_of X G a25
  have F26 := fun_mk (st := s_read_filter) l26 c26 k26
  have b26 := F26.binds (ps := ["line"]) fun _ _ _ _ _ _ us hl => match us, hl with | [_], _ => rfl
  have m26 := PySem.W.mg_of X G a26
  have F27 := fun_mk (st := s_read_map) l27 c27 k27
  have b27 := F27.binds (ps := ["line"]) fun _ _ _ _ _ _ us hl => match us, hl with | [_], _ => rfl
  have m27 := PySem.W.mg_of X G a27
  have F28 := fun_mk (st := s_read_fold) l28 c28 k28
  have b28 := F28.binds (ps := ["line"]) fun _ _ _ _ _ _ us hl => match us, hl with | [_], _ => rfl
  have m28 := PySem.W.mg_of X G a28
  have F29 := fun_mk (st := s_read_join) l29 c29 k29
  have b29 := F29.binds (ps := ["line"]) fun _ _ _ _ _ _ us hl => match us, hl with | [_], _ => rfl
  have m29 := PySem.W.mg_of X G a29
  have F30 := fun_mk (st := s_read_union) l30 c30 k30
  have b30 := F30.binds (ps := ["line"]) fun _ _ _ _ _ _ us hl => match us, hl with | [_], _ => rfl
  have m30 := PySem.W.mg_of X G a30
  have F31 := fun_mk (st := s_read_unlike) l31 c31 k31
  have b31 := F31.binds (ps := ["line"]) fun _ _ _ _ _ _ us hl => match us, hl with | [_], _ => rfl
  have m31 := PySem.W.mg_of X G a31
  have F32 := fun_mk (st := s_read_sort) l32 c32 k32
  have b32 := F32.binds (ps := ["line"]) fun _ _ _ _ _ _ us hl => match us, hl with | [_], _ => rfl
  have m32 := PySem.W.mg_of X G a32
  have F33 := fun_mk (st := s_read_table_head) l33 c33 k33
  have b33 := F33.binds (ps := ["line"]) fun _ _ _ _ _ _ us hl => match us, hl with | [_], _ => rfl
  have m33 := PySem.W.mg_of X G a33
  have F34 := fun_mk (st := s_read_step) l34 c34 k34
  have b34 := F34.binds (ps := ["line"]) fun _ _ _ _ _ _ us hl => match us, hl with | [_], _ => rfl
  have m34 := PySem.W.mg_of X G a34
  have F35 := fun_mk (st := s_read_job) l35 c35 k35
  have b35 := F35.binds (ps := ["text"]) fun _ _ _ _ _ _ us hl => match us, hl with | [_], _ => rfl
  have m35 := PySem.W.mg_of X G a35
  have F36 := fun_mk (st := sCell) l36 c36 k36
  have b36 := F36.binds (ps := ["script", "k"]) fun _ _ _ _ _ _ us hl => match us, hl with | [_, _], _ => rfl
  have m36 := PySem.W.mg_of X G a36
  have F37 := fun_mk (st := sDraw) l37 c37 k37
  have b37 := F37.binds (ps := ["cell", "k", "bound"]) fun _ _ _ _ _ _ us hl => match us, hl with | [_, _, _], _ => rfl
  have m37 := PySem.W.mg_of X G a37
  have F38 := fun_mk (st := sNumb) l38 c38 k38
  have b38 := F38.binds (ps := ["cell", "k", "bound"]) fun _ _ _ _ _ _ us hl => match us, hl with | [_, _, _], _ => rfl
  have m38 := PySem.W.mg_of X G a38
  have F39 := fun_mk (st := sNext) l39 c39 k39
  have b39 := F39.binds (ps := ["draw", "bound"]) fun _ _ _ _ _ _ us hl => match us, hl with | [_, _], _ => rfl
  have m39 := PySem.W.mg_of X G a39
  have F40 := fun_mk (st := sPick) l40 c40 k40
  have b40 := F40.binds (ps := ["draw", "things"]) fun _ _ _ _ _ _ us hl => match us, hl with | [_, _], _ => rfl
  have m40 := PySem.W.mg_of X G a40
  have F41 := fun_mk (st := s_law_wrong) l41 c41 k41
  have b41 := F41.binds (ps := ["lines"]) fun _ _ _ _ _ _ us hl => match us, hl with | [_], _ => rfl
  have m41 := PySem.W.mg_of X G a41
  have F42 := fun_mk (st := s_law_near) l42 c42 k42
  have b42 := F42.binds (ps := ["draw"]) fun _ _ _ _ _ _ us hl => match us, hl with | [_], _ => rfl
  have m42 := PySem.W.mg_of X G a42
  have F43 := fun_mk (st := sLaw) l43 c43 k43
  have m_len := PySem.W.mg_none_of X G z1
  have m_int := PySem.W.mg_none_of X G z2
  have m_sum := PySem.W.mg_none_of X G z3
  have m_all := PySem.W.mg_none_of X G z4
  have m_range := PySem.W.mg_none_of X G z5
  have m_str := PySem.W.mg_none_of X G z6
  have m_list := PySem.W.mg_none_of X G z7
  have m_tuple := PySem.W.mg_none_of X G z8
  have m_isinstance := PySem.W.mg_none_of X G z9
  have m_enumerate := PySem.W.mg_none_of X G z10
  have m_WHOLE := PySem.W.mg_of X G g1
  have m_NOT := PySem.W.mg_of X G g2
  have m_COMPARISON := PySem.W.mg_of X G g3
  have m_MINUS := PySem.W.mg_of X G g4
  have m_MOST_IN_ONE := PySem.W.mg_of X G g5
  have m_MOST_WITHIN := PySem.W.mg_of X G g6
  have m_MOST_OPEN := PySem.W.mg_of X G g7
  have m_MOST_PIECES := PySem.W.mg_of X G g8
  have m_MOST_FIGURES := PySem.W.mg_of X G g9
  have MF1 := fun_mk (st := m_Line_init) ml1 mc1 mk1
  have mb1 := MF1.binds (ps := ["self", "text", "number"]) fun _ _ _ _ _ _ us hl => match us, hl with | [_, _, _], _ => rfl
  have MF2 := fun_mk (st := m_Line_fail) ml2 mc2 mk2
  have mb2 := MF2.binds (ps := ["self"]) fun _ _ _ _ _ _ us hl => match us, hl with | [_], _ => rfl
  have MF3 := fun_mk (st := m_Line_is_kind) ml3 mc3 mk3
  have mb3 := MF3.binds (ps := ["self", "kind"]) fun _ _ _ _ _ _ us hl => match us, hl with | [_, _], _ => rfl
  have MF4 := fun_mk (st := m_Line_own_word) ml4 mc4 mk4
  have mb4 := MF4.binds (ps := ["self"]) fun _ _ _ _ _ _ us hl => match us, hl with | [_], _ => rfl
  have MF5 := fun_mk (st := m_Line_take) ml5 mc5 mk5
  have mb5 := MF5.binds (ps := ["self", "kind"]) fun _ _ _ _ _ _ us hl => match us, hl with | [_, _], _ => rfl
  have MF6 := fun_mk (st := m_Line_take_one_of) ml6 mc6 mk6
  have mb6 := MF6.binds (ps := ["self", "words"]) fun _ _ _ _ _ _ us hl => match us, hl with | [_, _], _ => rfl
  have MF7 := fun_mk (st := m_Line_took) ml7 mc7 mk7
  have mb7 := MF7.binds (ps := ["self", "word"]) fun _ _ _ _ _ _ us hl => match us, hl with | [_, _], _ => rfl
  have MF8 := fun_mk (st := m_Line_expect) ml8 mc8 mk8
  have mb8 := MF8.binds (ps := ["self", "word"]) fun _ _ _ _ _ _ us hl => match us, hl with | [_, _], _ => rfl
  have MF9 := fun_mk (st := m_Line_expect_end) ml9 mc9 mk9
  have mb9 := MF9.binds (ps := ["self"]) fun _ _ _ _ _ _ us hl => match us, hl with | [_], _ => rfl
  have bad : PySem.BadY.BadTxt K mg C fI :=
    { gC := PySem.W.mg_of X G aC, cls := ⟨nm, qn, N, bs, _, sn, sub, ab, col, dd, n0, n1, n2, n3, n5, xL, rfl⟩, sa := sa, ga := gat, gg := gg, noN := nb, noW := nw, iC := ai, tC := ti, kC := kC, exC := eC, tyC := tyC, hdC := hC, te := exm_own eC iC tyC sC,
      fn := ⟨_, _, _, _, _, _, _, _, _, _, _, _, _, _, _, _, _, _, _, li, ci⟩ }
  have Z : LnC K CL := ⟨⟨pgL, hdL, poL, saL⟩, y1, y2, y3⟩
  have Tb : Tbl K mg := ⟨⟨aO, PySem.W.mg_of X G gO, fun H => .inr ⟨_, itsO, nO, lO, rfl, rfl, by rw [← Array.length_toList, ← vO.length]; decide, vO⟩⟩, ⟨aG, PySem.W.mg_of X G gG, fun H => .inr ⟨_, itsG, nG, lG, rfl, rfl, by rw [← Array.length_toList, ← vG.length]; decide, vG⟩⟩, ⟨_, PySem.W.mg_of X G gS⟩⟩
  have Lev : Lvl K w mg := by
    refine ⟨⟨dl, es, nn, PySem.W.mg_of X G gD, ⟨lD, gK, lw⟩, fun z hz => ?_⟩⟩
    have hz' : z ∈ ([("" : Str), ("read" : Str), ("filter" : Str), ("where" : Str), ("map" : Str), ("to" : Str), ("as" : Str), ("fold" : Str), ("by" : Str), ("join" : Str), ("union" : Str), ("unlike" : Str), ("sort" : Str), ("first" : Str), ("up" : Str), ("down" : Str), ("answer" : Str), ("and" : Str), ("or" : Str), ("not" : Str), ("mod" : Str), ("length" : Str), ("int" : Str), ("text" : Str), ("count" : Str), ("sum" : Str), ("least" : Str), ("greatest" : Str), ("mean" : Str), ("!=" : Str), ("<=" : Str), (">=" : Str), ("(" : Str), (")" : Str), ("," : Str), ("=" : Str), ("<" : Str), (">" : Str), ("+" : Str), ("-" : Str), ("*" : Str), ("/" : Str), (":" : Str)] : List Str) := by rw [← all_words]; exact hz
    simp only [List.mem_cons, List.not_mem_nil, or_false] at hz'
    rcases hz' with rfl | rfl | rfl | rfl | rfl | rfl | rfl | rfl | rfl | rfl | rfl | rfl | rfl | rfl | rfl | rfl | rfl | rfl | rfl | rfl | rfl | rfl | rfl | rfl | rfl | rfl | rfl | rfl | rfl | rfl | rfl | rfl | rfl | rfl | rfl | rfl | rfl | rfl | rfl | rfl | rfl | rfl | rfl
    · exact .inr ⟨x1, by decide +kernel⟩
    · exact .inr ⟨x2, by decide +kernel⟩
    · exact .inr ⟨x3, by decide +kernel⟩
    · exact .inr ⟨x4, by decide +kernel⟩
    · exact .inr ⟨x5, by decide +kernel⟩
    · exact .inr ⟨x6, by decide +kernel⟩
    · exact .inr ⟨x7, by decide +kernel⟩
    · exact .inr ⟨x8, by decide +kernel⟩
    · exact .inr ⟨x9, by decide +kernel⟩
    · exact .inr ⟨x10, by decide +kernel⟩
    · exact .inr ⟨x11, by decide +kernel⟩
    · exact .inr ⟨x12, by decide +kernel⟩
    · exact .inr ⟨x13, by decide +kernel⟩
    · exact .inr ⟨x14, by decide +kernel⟩
    · exact .inr ⟨x15, by decide +kernel⟩
    · exact .inr ⟨x16, by decide +kernel⟩
    · exact .inr ⟨x17, by decide +kernel⟩
    · exact .inl ⟨_, .int 2, o2, ⟨_, rfl⟩, by decide +kernel⟩
    · exact .inl ⟨_, .int 1, o1, ⟨_, rfl⟩, by decide +kernel⟩
    · exact .inr ⟨x18, by decide +kernel⟩
    · exact .inl ⟨_, .int 6, o13, ⟨_, rfl⟩, by decide +kernel⟩
    · exact .inr ⟨x19, by decide +kernel⟩
    · exact .inr ⟨x20, by decide +kernel⟩
    · exact .inr ⟨x21, by decide +kernel⟩
    · exact .inr ⟨x22, by decide +kernel⟩
    · exact .inr ⟨x23, by decide +kernel⟩
    · exact .inr ⟨x24, by decide +kernel⟩
    · exact .inr ⟨x25, by decide +kernel⟩
    · exact .inr ⟨x26, by decide +kernel⟩
    · exact .inl ⟨_, .int 4, o4, ⟨_, rfl⟩, by decide +kernel⟩
    · exact .inl ⟨_, .int 4, o6, ⟨_, rfl⟩, by decide +kernel⟩
    · exact .inl ⟨_, .int 4, o8, ⟨_, rfl⟩, by decide +kernel⟩
    · exact .inr ⟨x27, by decide +kernel⟩
    · exact .inr ⟨x28, by decide +kernel⟩
    · exact .inr ⟨x29, by decide +kernel⟩
    · exact .inl ⟨_, .int 4, o3, ⟨_, rfl⟩, by decide +kernel⟩
    · exact .inl ⟨_, .int 4, o5, ⟨_, rfl⟩, by decide +kernel⟩
    · exact .inl ⟨_, .int 4, o7, ⟨_, rfl⟩, by decide +kernel⟩
    · exact .inl ⟨_, .int 5, o9, ⟨_, rfl⟩, by decide +kernel⟩
    · exact .inl ⟨_, .int 5, o10, ⟨_, rfl⟩, by decide +kernel⟩
    · exact .inl ⟨_, .int 6, o11, ⟨_, rfl⟩, by decide +kernel⟩
    · exact .inl ⟨_, .int 6, o12, ⟨_, rfl⟩, by decide +kernel⟩
    · exact .inr ⟨x30, by decide +kernel⟩
  refine ⟨PySem.W.fnOf "law" "law" (defArgs sLaw) (defBody sLaw) (defScope sLaw) .none kV43 dc43 pm43 an43 cd43 ct43, fun s v => .of_eq rfl, fun base _ _ => ?_⟩
  have R_fig : Ready l.prog w K mg base 1 "is_figure" ["sign"] spFig := ⟨⟨f10, _, ok_figure F10, b10, m10, k10⟩⟩
  have R_let : Ready l.prog w K mg base 1 "is_letter" ["sign"] spLet := ⟨⟨f11, _, ok_letter F11, b11, m11, k11⟩⟩
  have R_run : Ready l.prog w K mg base 2 "run_end" ["text", "at"] spRunEnd := ⟨⟨f12, _, ok_runend F12 m_len R_let R_fig, b12, m12, k12⟩⟩
  have R_num : Ready l.prog w K mg base 2 "is_number" ["run"] spNumber := ⟨⟨f13, _, ok_number F13 m_len m_all ⟨_, m_MOST_FIGURES⟩ R_fig, b13, m13, k13⟩⟩
  have R_piece : Ready l.prog w K mg base 3 "piece_at" ["text", "at"] spPiece := ⟨⟨f14, _, ok_piece F14 Tb m_int R_let R_fig R_run R_num, b14, m14, k14⟩⟩
  have R_br : Ready l.prog w K mg base 1 "is_bracket" ["piece"] spBr := ⟨⟨f15, _, ok_br F15, b15, m15, k15⟩⟩
  have R_pieces : ReadyX l.prog w K mg base 4 "pieces_of" ["text", "number"] (spPieces K C) := ⟨⟨f16, _, ok_pieces F16 bad m_len ⟨_, m_MOST_PIECES⟩ R_piece R_br, b16, m16, k16⟩⟩
  have M_kind : ReadyM l.prog w K mg base CL 1 "is_kind" ["self", "kind"] (spIsKind CL) := ⟨⟨mf3, _, ok_iskind MF3 Z, mb3, ⟨ma3, mi3, mk3⟩⟩⟩
  have M_fail : ReadyM l.prog w K mg base CL 2 "fail" ["self"] (spFail C CL) := ⟨⟨mf2, _, ok_fail MF2 bad Z, mb2, ⟨ma2, mi2, mk2⟩⟩⟩
  have M_own : ReadyM l.prog w K mg base CL 2 "own_word" ["self"] (spOwn CL) := ⟨⟨mf4, _, ok_own MF4 Z M_kind, mb4, ⟨ma4, mi4, mk4⟩⟩⟩
  have M_take : ReadyM l.prog w K mg base CL 3 "take" ["self", "kind"] (spTake C CL) := ⟨⟨mf5, _, ok_take MF5 Z M_kind M_fail, mb5, ⟨ma5, mi5, mk5⟩⟩⟩
  have M_took : ReadyM l.prog w K mg base CL 3 "took" ["self", "word"] (spTook CL) := ⟨⟨mf7, _, ok_took MF7 Z M_own, mb7, ⟨ma7, mi7, mk7⟩⟩⟩
  have M_expect : ReadyM l.prog w K mg base CL 4 "expect" ["self", "word"] (spExpect C CL) := ⟨⟨mf8, _, ok_expect MF8 Z M_took M_fail, mb8, ⟨ma8, mi8, mk8⟩⟩⟩
  have M_end : ReadyM l.prog w K mg base CL 3 "expect_end" ["self"] (spExpEnd C CL) := ⟨⟨mf9, _, ok_expend MF9 Z M_kind M_fail, mb9, ⟨ma9, mi9, mk9⟩⟩⟩
  have M_one : ReadyM l.prog w K mg base CL 4 "take_one_of" ["self", "words"] (spTakeOne K C CL) := ⟨⟨mf6, _, ok_takeone MF6 Z M_own M_fail M_take, mb6, ⟨ma6, mi6, mk6⟩⟩⟩
  have C_line : ReadyC l.prog w K mg base CL 5 "Line" ["self", "text", "number"] (spInit C CL) := ⟨⟨mf1, _, PySem.W.mg_of X G aL, ⟨mkL, ma1, mi1, kcL⟩, ok_init MF1 Z R_pieces, mb1⟩⟩
  have R_parts : Ready l.prog w K mg base 1 "parts_of" ["told"] spParts := ⟨⟨f1, _, ok_parts F1, b1, m1, k1⟩⟩
  have R_rows : Ready l.prog w K mg base 2 "rows_of_parts" ["told"] spRows := ⟨⟨f2, _, ok_rows F2 m_len R_parts, b2, m2, k2⟩⟩
  have R_many : Ready l.prog w K mg base 3 "how_many" ["told"] spMany := ⟨⟨f3, _, ok_many F3 m_len m_sum R_rows, b3, m3, k3⟩⟩
  have R_deep : Ready l.prog w K mg base 3 "how_deep" ["told"] spDeep := ⟨⟨f4, _, ok_deep F4 m_len R_rows, b4, m4, k4⟩⟩
  have R_large : Ready l.prog w K mg base 4 "is_large" ["told"] spLarge := ⟨⟨f5, _, ok_large F5 ⟨_, m_MOST_IN_ONE⟩ ⟨_, m_MOST_WITHIN⟩ R_many R_deep, b5, m5, k5⟩⟩
  have R_nlv : Ready l.prog w K mg base 3 "next_level" ["line"] (spNextLv CL) := ⟨⟨f6, _, ok_nextlv F6 Z Lev M_own, b6, m6, k6⟩⟩
  have R_part : ∀ m : Nat, ReadyX l.prog w K mg base (2 * m + 5) "read_part" ["line", "level", "many"] (spPart C CL m) := fun m => by
    induction m with
    | zero => exact ⟨⟨f8, _, ok_part0 (k := 0) F8 Z Lev ⟨_, m_MOST_OPEN⟩ ⟨_, m_COMPARISON⟩ ⟨_, m_WHOLE⟩ M_fail M_take R_nlv R_large ⟨⟨f7, _, no_defX fun _ _ _ _ h => h, b7, m7, k7⟩⟩ ⟨⟨f8, _, no_defX fun _ _ _ _ h => h, b8, m8, k8⟩⟩, b8, m8, k8⟩⟩
    | succ m ih => exact ⟨⟨f8, _, ok_part (k := 2 * m) F8 Z Lev ⟨_, m_MOST_OPEN⟩ ⟨_, m_COMPARISON⟩ ⟨_, m_WHOLE⟩ M_fail M_take R_nlv R_large ⟨⟨f7, _, ok_oper (k := 2 * m) F7 Z ⟨_, m_NOT⟩ ⟨_, m_MINUS⟩ ⟨_, m_WHOLE⟩ M_took M_expect M_kind M_take ih, b7, m7, k7⟩⟩ ih, b8, m8, k8⟩⟩
  have R_expr : ReadyX l.prog w K mg base 206 "read_expression" ["line"] (spRd C CL ExA rdExpr) := ⟨⟨f9, _, ok_expr F9 ⟨_, m_WHOLE⟩ (R_part 100), b9, m9, k9⟩⟩
  have R_new : ReadyX l.prog w K mg base 5 "read_new_name" ["line"] (spRd C CL StrAt rdNew) := ⟨⟨f20, _, ok_rnew F20 Z M_expect M_take, b20, m20, k20⟩⟩
  have R_one : ReadyX l.prog w K mg base 6 "read_one_input" ["line"] (spRd C CL InAt rdOne) := ⟨⟨f24, _, (ok_rone F24 Z M_take).mono (by decide), b24, m24, k24⟩⟩
  have R_two : ReadyX l.prog w K mg base 6 "read_two_inputs" ["line"] (spRd C CL InAt rdTwoIn) := ⟨⟨f25, _, (ok_rtwoin F25 Z M_take M_expect).mono (by decide), b25, m25, k25⟩⟩
  have L_col : ReadyX l.prog w K mg base 6 "read_list" ["line", "read_one"] (spList C CL f19 TwoAt (rdTwo ["int", "text"])) := ⟨⟨f17, _, ok_list F17 Z m_tuple TwoAt.keep (two_fine (by decide +kernel)) M_took ⟨⟨_, _, ok_rcolumn F19 Z M_take M_one, k19, b19⟩⟩ (by decide), b17, m17, k17⟩⟩
  have L_sorted : ReadyX l.prog w K mg base 6 "read_list" ["line", "read_one"] (spList C CL f23 TwoAt (rdTwo ["up", "down"])) := ⟨⟨f17, _, ok_list F17 Z m_tuple TwoAt.keep (two_fine (by decide +kernel)) M_took ⟨⟨_, _, ok_rsorted F23 Z M_take M_one, k23, b23⟩⟩ (by decide), b17, m17, k17⟩⟩
  have L_name : ReadyX l.prog w K mg base 6 "read_list" ["line", "read_one"] (spList C CL f18 StrAt rdName) := ⟨⟨f17, _, ok_list F17 Z m_tuple StrAt.keep name_fine M_took ⟨⟨_, _, (ok_rname F18 Z M_take).mono (by decide), k18, b18⟩⟩ (by decide), b17, m17, k17⟩⟩
  have L_mapped : ReadyX l.prog w K mg base 208 "read_list" ["line", "read_one"] (spList C CL f21 MapAt rdMapped) := ⟨⟨f17, _, ok_list F17 Z m_tuple MapAt.keep mapped_fine M_took ⟨⟨_, _, ok_rmapped F21 Z (by decide) M_own R_expr R_new, k21, b21⟩⟩ (by decide), b17, m17, k17⟩⟩
  have L_folded : ReadyX l.prog w K mg base 208 "read_list" ["line", "read_one"] (spList C CL f22 FoldAt rdFolded) := ⟨⟨f17, _, ok_list F17 Z m_tuple FoldAt.keep folded_fine M_took ⟨⟨_, _, ok_rfolded F22 Z (by decide) M_one M_expect R_expr R_new, k22, b22⟩⟩ (by decide), b17, m17, k17⟩⟩
  have R_head : ReadyX l.prog w K mg base 8 "read_table_head" ["line"] (spRd C CL HeadAt rdHead) := ⟨⟨f33, _, (ok_rhead F33 Z m19 M_take M_expect L_col).mono (by decide), b33, m33, k33⟩⟩
  have RD : RdsAt l.prog w K mg base C CL 209 := by
    let ff : Str → Addr := fun wh => if wh = "filter" then f26 else if wh = "map" then f27 else if wh = "fold" then f28 else if wh = "join" then f29 else if wh = "union" then f30 else if wh = "unlike" then f31 else f32
    refine ⟨dR, ff, PySem.W.mg_of X G gR, dicW_mk lR hR lwR, fun wh hw => ?_⟩
    have hw' : wh ∈ (["filter", "map", "fold", "join", "union", "unlike", "sort"] : List Str) := hw
    simp only [List.mem_cons, List.not_mem_nil, or_false] at hw'
    rcases hw' with rfl | rfl | rfl | rfl | rfl | rfl | rfl
    · have e : ff "filter" = f26 := if_pos rfl
      rw [e, rest_filter_eq]
      exact ⟨⟨_, _, _, lR, gKR, p1, rfl⟩, 207, by decide, ⟨⟨_, _, (ok_rfilter F26 Z (by decide) R_one M_expect R_expr).imp (spRd_map (At' := RstAt) (g := fun (x : List Str × Ex) => (x.1, Dt.filter x.2)) fun H v a h => h), k26, b26⟩⟩⟩
    · have e : ff "map" = f27 := (if_neg (by decide +kernel)).trans (if_pos rfl)
      rw [e, rest_map_eq]
      exact ⟨⟨_, _, _, lR, gKR, p2, rfl⟩, 209, by decide, ⟨⟨_, _, (ok_rmap F27 Z (by decide) R_one M_expect m21 L_mapped).imp (spRd_map (At' := RstAt) (g := fun (x : List Str × List (Ex × Str)) => (x.1, Dt.map x.2)) fun H v a h => h), k27, b27⟩⟩⟩
    · have e : ff "fold" = f28 := (if_neg (by decide +kernel)).trans ((if_neg (by decide +kernel)).trans (if_pos rfl))
      rw [e, rest_fold_eq]
      exact ⟨⟨_, _, _, lR, gKR, p3, rfl⟩, 209, by decide, ⟨⟨_, _, (ok_rfold F28 Z (by decide) m18 m22 R_one M_took M_expect L_name L_folded).imp (spRd_map (At' := RstAt) (g := fun (x : List Str × List Str × List (Str × Option Ex × Str)) => (x.1, Dt.fold x.2.1 x.2.2)) fun H v a h => h), k28, b28⟩⟩⟩
    · have e : ff "join" = f29 := (if_neg (by decide +kernel)).trans ((if_neg (by decide +kernel)).trans ((if_neg (by decide +kernel)).trans (if_pos rfl)))
      rw [e, rest_join_eq]
      exact ⟨⟨_, _, _, lR, gKR, p4, rfl⟩, 7, by decide, ⟨⟨_, _, (ok_rjoin F29 Z (by decide) R_two M_expect m18 L_name).imp (spRd_map (At' := RstAt) (g := fun (x : List Str × List Str) => (x.1, Dt.join x.2)) fun H v a h => h), k29, b29⟩⟩⟩
    · have e : ff "union" = f30 := (if_neg (by decide +kernel)).trans ((if_neg (by decide +kernel)).trans ((if_neg (by decide +kernel)).trans ((if_neg (by decide +kernel)).trans (if_pos rfl))))
      rw [e, rest_union_eq]
      exact ⟨⟨_, _, _, lR, gKR, p5, rfl⟩, 7, by decide, ⟨⟨_, _, (ok_runion F30 R_two).imp (spRd_map (At' := RstAt) (g := fun (x : List Str × Unit) => (x.1, Dt.union)) fun H v a h => h), k30, b30⟩⟩⟩
    · have e : ff "unlike" = f31 := (if_neg (by decide +kernel)).trans ((if_neg (by decide +kernel)).trans ((if_neg (by decide +kernel)).trans ((if_neg (by decide +kernel)).trans ((if_neg (by decide +kernel)).trans (if_pos rfl)))))
      rw [e, rest_unlike_eq]
      exact ⟨⟨_, _, _, lR, gKR, p6, rfl⟩, 7, by decide, ⟨⟨_, _, (ok_runlike F31 R_one).imp (spRd_map (At' := RstAt) (g := fun (x : List Str × Unit) => (x.1, Dt.unlike)) fun H v a h => h), k31, b31⟩⟩⟩
    · have e : ff "sort" = f32 := (if_neg (by decide +kernel)).trans ((if_neg (by decide +kernel)).trans ((if_neg (by decide +kernel)).trans ((if_neg (by decide +kernel)).trans ((if_neg (by decide +kernel)).trans ((if_neg (by decide +kernel)).trans (rfl))))))
      rw [e, rest_sort_eq]
      exact ⟨⟨_, _, _, lR, gKR, p7, rfl⟩, 7, by decide, ⟨⟨_, _, (ok_rsort F32 Z m23 R_one M_take M_expect L_sorted).imp (spRd_map (At' := RstAt) (g := fun (x : List Str × List (Str × Str) × Nat) => (x.1, Dt.sort x.2.1 x.2.2)) fun H v a h => h), k32, b32⟩⟩⟩
  have R_step : ReadyX l.prog w K mg base 210 "read_step" ["line"] (spRd C CL StqAt rdStep) := ⟨⟨f34, _, ok_rstep F34 Z (by decide) m_list RD M_took M_take M_expect M_one R_head, b34, m34, k34⟩⟩
  have R_rjob : ReadyX l.prog w K mg base 211 "read_job" ["text"] (spJob C) := ⟨⟨f35, _, ok_rjob F35 bad Z (by decide) m_isinstance m_str m_enumerate m_len m_tuple C_line M_kind M_end M_took M_take R_step, b35, m35, k35⟩⟩
  have R_cell : Ready l.prog w K mg base 1 "_law_cell_at" ["script", "k"] (spCell K) := ⟨⟨f36, _, ok_cell F36 m_len, b36, m36, k36⟩⟩
  have R_draw : Ready l.prog w K mg base 1 "_law_draw" ["cell", "k", "bound"] spDraw := ⟨⟨f37, _, ok_draw F37 m_int, b37, m37, k37⟩⟩
  have R_numb : Ready l.prog w K mg base 2 "_law_number" ["cell", "k", "bound"] spNumb := ⟨⟨f38, _, ok_numb F38 m_int m_range R_draw, b38, m38, k38⟩⟩
  have R_next : Ready l.prog w K mg base 3 "_law_next" ["draw", "bound"] spNext := ⟨⟨f39, _, ok_next F39 m_int R_cell R_numb, b39, m39, k39⟩⟩
  have R_pick : Ready l.prog w K mg base 4 "_law_pick" ["draw", "things"] (spPick K) := ⟨⟨f40, _, ok_pick F40 m_len R_next, b40, m40, k40⟩⟩
  have R_wrong : Ready l.prog w K mg base 212 "_law_wrong" ["lines"] (spWrong K) := ⟨⟨f41, _, ok_wrong F41 bad R_rjob, b41, m41, k41⟩⟩
  have R_near : Ready l.prog w K mg base 5 "_law_near" ["draw"] spNear := ⟨⟨f42, _, ok_near F42 R_pick, b42, m42, k42⟩⟩
  exact ok_law F43 (by decide) m_len R_next R_pick R_near R_wrong
theorem walk {l : PySem.W.OpenLaw} {q : Program} {loose : List Str} {XP : (Str → Option Value) → Heap → Prop} {YP : World → Heap → Prop} {d : DefRec} {K : Params → PySem.W.Frag} (hn : l.most = some 63) (hdf : d.params.defaults = [])
    (hY : ∀ (w : World) (h : Heap), YP w h → (K w.params).In h)
    (F : ∀ (w : World) (mg : Str → Option Value) (fa : Addr) (h : Heap), (K w.params).In h → h.Ns mainGlobals mg → mg d.name = some (.ref fa) →
      ∃ fd : FuncData, (∀ (s : Shared) (u : Value), BindsTo s fd ⟨[u], []⟩ [("script", u)]) ∧ ∀ base : Heap, (K w.params).In base → base.Ns mainGlobals mg → FnOk l.prog w (K w.params) mg base CX0 213 fa fd ["script"] (spLaw (K w.params))) :
    PySem.W.WalkO q loose XP YP l.row.toRowW d [] (fun f vs => PySem.call f vs) :=
  L2.walk_of (n := 63) (k := 213) (x := "script") (CX := fun _ => CX0) (sp := fun w => spLaw (K w.params)) hn (by decide) hdf ⟨rfl, by decide, by decide⟩ hY F (fun _ _ a ns hl _ hS => ⟨a, ns, rfl, hS, fun _ => rfl⟩) fun _ _ _ _ _ z => z
end Kx
open PySem PySem.W PyProof.Rows
set_option maxRecDepth 100000 in
set_option maxHeartbeats 0 in
theorem PySem.Challenge.cw_countedonce_k13_whole_deep_texts_holds : PySem.Challenge.rw_countedonce_k13_whole_deep_texts.Holds := by
  w_on; o_law; k_head; (case hw => w_witness2)
  k_fill
  refine Kx.walk (l := PySem.Challenge.rw_countedonce_k13_whole_deep_texts) rfl rfl (fun w h Y => PySem.W.kIn_of Y) ?F
  case F =>
    intro w mg fa h KX G hmg
    refine' Kx.all_mk KX G hmg ?a1 ?l1 ?c1 ?k1 ?a2 ?l2 ?c2 ?k2 ?a3 ?l3 ?c3 ?k3 ?a4 ?l4 ?c4 ?k4 ?a5 ?l5 ?c5 ?k5 ?a6 ?l6 ?c6 ?k6 ?a7 ?l7 ?c7 ?k7 ?a8 ?l8 ?c8 ?k8 ?a9 ?l9 ?c9 ?k9 ?a10 ?l10 ?c10 ?k10 ?a11 ?l11 ?c11 ?k11 ?a12 ?l12 ?c12 ?k12 ?a13 ?l13 ?c13 ?k13 ?a14 ?l14 ?c14 ?k14 ?a15 ?l15 ?c15 ?k15 ?a16 ?l16 ?c16 ?k16 ?a17 ?l17 ?c17 ?k17 ?a18 ?l18 ?c18 ?k18 ?a19 ?l19 ?c19 ?k19 ?a20 ?l20 ?c20 ?k20 ?a21 ?l21 ?c21 ?k21 ?a22 ?l22 ?c22 ?k22 ?a23 ?l23 ?c23 ?k23 ?a24 ?l24 ?c24 ?k24 ?a25 ?l25 ?c25 ?k25 ?a26 ?l26 ?c26 ?k26 ?a27 ?l27 ?c27 ?k27 ?a28 ?l28 ?c28 ?k28 ?a29 ?l29 ?c29 ?k29 ?a30 ?l30 ?c30 ?k30 ?a31 ?l31 ?c31 ?k31 ?a32 ?l32 ?c32 ?k32 ?a33 ?l33 ?c33 ?k33 ?a34 ?l34 ?c34 ?k34 ?a35 ?l35 ?c35 ?k35 ?a36 ?l36 ?c36 ?k36 ?a37 ?l37 ?c37 ?k37 ?a38 ?l38 ?c38 ?k38 ?a39 ?l39 ?c39 ?k39 ?a40 ?l40 ?c40 ?k40 ?a41 ?l41 ?c41 ?k41 ?a42 ?l42 ?c42 ?k42 ?a43 ?l43 ?c43 ?k43 ?z1 ?z2 ?z3 ?z4 ?z5 ?z6 ?z7 ?z8 ?z9 ?z10 ?g1 ?g2 ?g3 ?g4 ?g5 ?g6 ?g7 ?g8 ?g9 ?aL ?ma1 ?mi1 ?ml1 ?mc1 ?mk1 ?ma2 ?mi2 ?ml2 ?mc2 ?mk2 ?ma3 ?mi3 ?ml3 ?mc3 ?mk3 ?ma4 ?mi4 ?ml4 ?mc4 ?mk4 ?ma5 ?mi5 ?ml5 ?mc5 ?mk5 ?ma6 ?mi6 ?ml6 ?mc6 ?mk6 ?ma7 ?mi7 ?ml7 ?mc7 ?mk7 ?ma8 ?mi8 ?ml8 ?mc8 ?mk8 ?ma9 ?mi9 ?ml9 ?mc9 ?mk9 ?aC ?xL ?sa ?gat ?gg ?nb ?nw ?ai ?ti ?li ?ci ?kC ?eC ?tyC ?hC ?iC ?sC ?gD ?lD ?o1 ?o2 ?o3 ?o4 ?o5 ?o6 ?o7 ?o8 ?o9 ?o10 ?o11 ?o12 ?o13 ?x1 ?x2 ?x3 ?x4 ?x5 ?x6 ?x7 ?x8 ?x9 ?x10 ?x11 ?x12 ?x13 ?x14 ?x15 ?x16 ?x17 ?x18 ?x19 ?x20 ?x21 ?x22 ?x23 ?x24 ?x25 ?x26 ?x27 ?x28 ?x29 ?x30 ?gK ?lw ?gO ?lO ?vO ?gG ?lG ?vG ?gS ?gR ?lR ?p1 ?p2 ?p3 ?p4 ?p5 ?p6 ?p7 ?gKR ?hR ?lwR ?pgL ?hdL ?poL ?saL ?mkL ?kcL ?y1 ?y2 ?y3
    (case a1 => k_is)
    (case l1 => k_is)
    (case c1 => k_is)
    (case k1 => k_is)
    (case a2 => k_is)
    (case l2 => k_is)
    (case c2 => k_is)
    (case k2 => k_is)
    (case a3 => k_is)
    (case l3 => k_is)
    (case c3 => k_is)
    (case k3 => k_is)
    (case a4 => k_is)
    (case l4 => k_is)
    (case c4 => k_is)
    (case k4 => k_is)
    (case a5 => k_is)
    (case l5 => k_is)
    (case c5 => k_is)
    (case k5 => k_is)
    (case a6 => k_is)
    (case l6 => k_is)
    (case c6 => k_is)
    (case k6 => k_is)
    (case a7 => k_is)
    (case l7 => k_is)
    (case c7 => k_is)
    (case k7 => k_is)
    (case a8 => k_is)
    (case l8 => k_is)
    (case c8 => k_is)
    (case k8 => k_is)
    (case a9 => k_is)
    (case l9 => k_is)
    (case c9 => k_is)
    (case k9 => k_is)
    (case a10 => k_is)
    (case l10 => k_is)
    (case c10 => k_is)
    (case k10 => k_is)
    (case a11 => k_is)
    (case l11 => k_is)
    (case c11 => k_is)
    (case k11 => k_is)
    (case a12 => k_is)
    (case l12 => k_is)
    (case c12 => k_is)
    (case k12 => k_is)
    (case a13 => k_is)
    (case l13 => k_is)
    (case c13 => k_is)
    (case k13 => k_is)
    (case a14 => k_is)
    (case l14 => k_is)
    (case c14 => k_is)
    (case k14 => k_is)
    (case a15 => k_is)
    (case l15 => k_is)
    (case c15 => k_is)
    (case k15 => k_is)
    (case a16 => k_is)
    (case l16 => k_is)
    (case c16 => k_is)
    (case k16 => k_is)
    (case a17 => k_is)
    (case l17 => k_is)
    (case c17 => k_is)
    (case k17 => k_is)
    (case a18 => k_is)
    (case l18 => k_is)
    (case c18 => k_is)
    (case k18 => k_is)
    (case a19 => k_is)
    (case l19 => k_is)
    (case c19 => k_is)
    (case k19 => k_is)
    (case a20 => k_is)
    (case l20 => k_is)
    (case c20 => k_is)
    (case k20 => k_is)
    (case a21 => k_is)
    (case l21 => k_is)
    (case c21 => k_is)
    (case k21 => k_is)
    (case a22 => k_is)
    (case l22 => k_is)
    (case c22 => k_is)
    (case k22 => k_is)
    (case a23 => k_is)
    (case l23 => k_is)
    (case c23 => k_is)
    (case k23 => k_is)
    (case a24 => k_is)
    (case l24 => k_is)
    (case c24 => k_is)
    (case k24 => k_is)
    (case a25 => k_is)
    (case l25 => k_is)
    (case c25 => k_is)
    (case k25 => k_is)
    (case a26 => k_is)
    (case l26 => k_is)
    (case c26 => k_is)
    (case k26 => k_is)
    (case a27 => k_is)
    (case l27 => k_is)
    (case c27 => k_is)
    (case k27 => k_is)
    (case a28 => k_is)
    (case l28 => k_is)
    (case c28 => k_is)
    (case k28 => k_is)
    (case a29 => k_is)
    (case l29 => k_is)
    (case c29 => k_is)
    (case k29 => k_is)
    (case a30 => k_is)
    (case l30 => k_is)
    (case c30 => k_is)
    (case k30 => k_is)
    (case a31 => k_is)
    (case l31 => k_is)
    (case c31 => k_is)
    (case k31 => k_is)
    (case a32 => k_is)
    (case l32 => k_is)
    (case c32 => k_is)
    (case k32 => k_is)
    (case a33 => k_is)
    (case l33 => k_is)
    (case c33 => k_is)
    (case k33 => k_is)
    (case a34 => k_is)
    (case l34 => k_is)
    (case c34 => k_is)
    (case k34 => k_is)
    (case a35 => k_is)
    (case l35 => k_is)
    (case c35 => k_is)
    (case k35 => k_is)
    (case a36 => k_is)
    (case l36 => k_is)
    (case c36 => k_is)
    (case k36 => k_is)
    (case a37 => k_is)
    (case l37 => k_is)
    (case c37 => k_is)
    (case k37 => k_is)
    (case a38 => k_is)
    (case l38 => k_is)
    (case c38 => k_is)
    (case k38 => k_is)
    (case a39 => k_is)
    (case l39 => k_is)
    (case c39 => k_is)
    (case k39 => k_is)
    (case a40 => k_is)
    (case l40 => k_is)
    (case c40 => k_is)
    (case k40 => k_is)
    (case a41 => k_is)
    (case l41 => k_is)
    (case c41 => k_is)
    (case k41 => k_is)
    (case a42 => k_is)
    (case l42 => k_is)
    (case c42 => k_is)
    (case k42 => k_is)
    (case a43 => k_is)
    (case l43 => k_is)
    (case c43 => k_is)
    (case k43 => k_is)
    (case z1 => k_is)
    (case z2 => k_is)
    (case z3 => k_is)
    (case z4 => k_is)
    (case z5 => k_is)
    (case z6 => k_is)
    (case z7 => k_is)
    (case z8 => k_is)
    (case z9 => k_is)
    (case z10 => k_is)
    (case g1 => k_is)
    (case g2 => k_is)
    (case g3 => k_is)
    (case g4 => k_is)
    (case g5 => k_is)
    (case g6 => k_is)
    (case g7 => k_is)
    (case g8 => k_is)
    (case g9 => k_is)
    (case aL => k_is)
    (case ma1 => k_is)
    (case mi1 => k_is)
    (case ml1 => k_is)
    (case mc1 => k_is)
    (case mk1 => k_is)
    (case ma2 => k_is)
    (case mi2 => k_is)
    (case ml2 => k_is)
    (case mc2 => k_is)
    (case mk2 => k_is)
    (case ma3 => k_is)
    (case mi3 => k_is)
    (case ml3 => k_is)
    (case mc3 => k_is)
    (case mk3 => k_is)
    (case ma4 => k_is)
    (case mi4 => k_is)
    (case ml4 => k_is)
    (case mc4 => k_is)
    (case mk4 => k_is)
    (case ma5 => k_is)
    (case mi5 => k_is)
    (case ml5 => k_is)
    (case mc5 => k_is)
    (case mk5 => k_is)
    (case ma6 => k_is)
    (case mi6 => k_is)
    (case ml6 => k_is)
    (case mc6 => k_is)
    (case mk6 => k_is)
    (case ma7 => k_is)
    (case mi7 => k_is)
    (case ml7 => k_is)
    (case mc7 => k_is)
    (case mk7 => k_is)
    (case ma8 => k_is)
    (case mi8 => k_is)
    (case ml8 => k_is)
    (case mc8 => k_is)
    (case mk8 => k_is)
    (case ma9 => k_is)
    (case mi9 => k_is)
    (case ml9 => k_is)
    (case mc9 => k_is)
    (case mk9 => k_is)
    (case aC => k_is)
    (case xL => k_is)
    (case sa => k_is)
    (case gat => k_is)
    (case gg => k_is)
    (case nb => k_is)
    (case nw => k_is)
    (case ai => k_is)
    (case ti => k_is)
    (case li => k_is)
    (case ci => k_is)
    (case kC => k_is)
    (case eC => k_is)
    (case tyC => k_is)
    (case hC => k_is)
    (case iC => k_is)
    (case gD => k_is)
    (case lD => k_is)
    (case o1 => k_is)
    (case o2 => k_is)
    (case o3 => k_is)
    (case o4 => k_is)
    (case o5 => k_is)
    (case o6 => k_is)
    (case o7 => k_is)
    (case o8 => k_is)
    (case o9 => k_is)
    (case o10 => k_is)
    (case o11 => k_is)
    (case o12 => k_is)
    (case o13 => k_is)
    (case x1 => k_is)
    (case x2 => k_is)
    (case x3 => k_is)
    (case x4 => k_is)
    (case x5 => k_is)
    (case x6 => k_is)
    (case x7 => k_is)
    (case x8 => k_is)
    (case x9 => k_is)
    (case x10 => k_is)
    (case x11 => k_is)
    (case x12 => k_is)
    (case x13 => k_is)
    (case x14 => k_is)
    (case x15 => k_is)
    (case x16 => k_is)
    (case x17 => k_is)
    (case x18 => k_is)
    (case x19 => k_is)
    (case x20 => k_is)
    (case x21 => k_is)
    (case x22 => k_is)
    (case x23 => k_is)
    (case x24 => k_is)
    (case x25 => k_is)
    (case x26 => k_is)
    (case x27 => k_is)
    (case x28 => k_is)
    (case x29 => k_is)
    (case x30 => k_is)
    (case gO => k_is)
    (case lO => k_is)
    (case gG => k_is)
    (case lG => k_is)
    (case gS => k_is)
    (case gR => k_is)
    (case lR => k_is)
    (case p1 => k_is)
    (case p2 => k_is)
    (case p3 => k_is)
    (case p4 => k_is)
    (case p5 => k_is)
    (case p6 => k_is)
    (case p7 => k_is)
    (case pgL => k_is)
    (case hdL => k_is)
    (case poL => k_is)
    (case saL => k_is)
    (case mkL => k_is)
    (case kcL => k_is)
    (case y1 => k_is)
    (case y2 => k_is)
    (case y3 => k_is)
    (case sC => first | rfl | k_is)
    (case gK => repeat (first | exact True.intro | refine ⟨⟨_, _, rfl, rfl⟩, ?_⟩))
    (case lw => first | rfl | decide +kernel | k_is)
    (case vO => repeat (first | exact .nil | refine .cons ⟨_, rfl⟩ ?_))
    (case vG => repeat (first | exact .nil | refine .cons ⟨_, rfl⟩ ?_))
    (case gKR => repeat (first | exact True.intro | refine ⟨⟨_, _, rfl, rfl⟩, ?_⟩))
    (case hR => rfl)
    (case lwR => first | rfl | decide +kernel | k_is)
#print axioms PySem.Challenge.cw_countedonce_k13_whole_deep_texts_holds

