import PyProof.Rows.All
import Wide.All
import OpenK.AllK
import Wide.FinOn
import PyProof.StrOps2
import HandS.ForMost
import HandS.ForExc
import HandS.SetKeys
import HandS.DictComp
import HandS.ExcInit
import HandS.IsInst
import HandS.Wide
import HandS.Evl
import OpenK.KEqL
import HandS.Walk
import HandS.Dict
import HandS.WordsDict
import KE.KCallOwn
import HandS.OwnEq
import KE.KDictList
import OpenK.KMeth
import HandS.Style
import HandS.ExcField
import HandS.ExcIs
import HandS.CallSlots
import KE.KExcIs
import HandS.Deep
import HandS.RaiseMore
import HandS.TryOnly
import HandS.ClsMeth
import HandS.TryMany
import HandS.NoneIn
import KE.GoesEnumKw
import HandS.HotCalls
import HandS.FStr
import HandS.Replace
import HandS.ReplaceList
import HandS.Codes
import HandS.ListItems
import PyProof.CollectIter
import PySem.Challenge.RW_ownersagree_k21_handler_tables_refused
set_option Elab.async false
set_option linter.all false
set_option maxRecDepth 100000
set_option maxHeartbeats 4000000
namespace My
open PySem PySem.Spec PyProof.Rows L2
section
variable {X : Cx}
theorem op_powB : OpR X (binaryOp .Pow) (rI (fun i j => 0 ≤ j ∧ (Builtin.Int.intBits i : Int) * j ≤ 2 ^ 27) fun i j => .int (i ^ j.toNat)) := opI fun _ _ _ _ _ _ _ hc q => pow_int hc.1 hc.2 q
/-- a text, n times -/
def repS (x : Str) (n : Nat) : Str := ⟨(List.replicate n x.cps.toList).flatten.toArray⟩
theorem foldl_arr : ∀ (n : Nat) (a b : Array Nat), (List.replicate n a).foldl (· ++ ·) b = b ++ (List.replicate n a.toList).flatten.toArray
  | 0, a, b => by simp
  | n + 1, a, b => by
    rw [List.replicate_succ, List.foldl_cons, foldl_arr n a (b ++ a)]
    apply Array.ext'; simp [List.replicate_succ]
theorem len_rep {α : Type} : ∀ (n : Nat) (l : List α), (List.replicate n l).flatten.length = n * l.length
  | 0, l => by simp
  | n + 1, l => by rw [List.replicate_succ, List.flatten_cons, List.length_append, len_rep n l, Nat.succ_mul, Nat.add_comm]
theorem op_mulS : OpR X (binaryOp .Mult) (fun x y H Q => ∃ z n, x = .str z ∧ y = .int n ∧ 0 ≤ n ∧ n ≤ 1000 ∧ z.length ≤ 1000 ∧ Q (.str (repS z n.toNat)) H) := by
  intro pins s σ H x y v u Q I rx ry h
  obtain ⟨z, n, rfl, rfl, h0, h1, hz, q⟩ := h
  obtain ⟨t, rfl⟩ := rx
  obtain ⟨t', rfl⟩ := ry
  have fin : ∀ (w : Str) (tk : Tok) , w = repS z n.toNat → ∀ k, EP X pins σ Q (.str w tk) { s with toks := k } := fun w tk e k => ⟨.str (repS z n.toNat), H, I.tok _, ⟨tk, by rw [e]⟩, q⟩
  refine PySem.P.mul_str ?_ ?_ ?_ ?_
  · have a : ¬ n < -(2 ^ 63 : Int) := by omega
    have b : ¬ n ≥ 2 ^ 63 := by omega
    rw [decide_eq_false a, decide_eq_false b]; rfl
  · intro a _
    have : (z.length : Int) ≤ 1000 := by omega
    have h5 : (1000 : Int) ≤ (2 ^ 63 - 1) / n := (Int.le_ediv_iff_mul_le (by omega)).mpr (by omega)
    omega
  · intro a b
    have hz2 : z.length * n.toNat ≤ 1000 * 1000 := Nat.mul_le_mul hz (by omega)
    show decide (z.length * n.toNat > sizeLine) = false
    rw [sizeLine_eq]
    exact decide_eq_false (by omega)
  · by_cases a : n < 1
    · have e : n = 0 := by omega
      subst e
      rw [if_pos a]
      exact ⟨by decide, fin _ _ (by rfl) _⟩
    · rw [if_neg a]
      by_cases b : (n == 1 || z.length == 0) = true
      · rw [if_pos b]
        refine fin _ _ ?_ s.toks
        rcases Bool.or_eq_true _ _ ▸ b with e | e
        · have e : n = 1 := by simpa using e
          subst e
          show z = ⟨_⟩
          cases z; simp [repS]
        · have e : z.cps.size = 0 := by simpa [Str.length] using e
          have e2 : z.cps = #[] := Array.eq_empty_of_size_eq_zero e
          unfold repS
          rw [e2]
          cases z
          simp at e2
          simp [e2]
      · rw [if_neg b]
        refine ⟨?_, fin _ _ ?_ _⟩
        · have hz2 : z.length * n.toNat ≤ 1000 * 1000 := Nat.mul_le_mul hz (by omega)
          show Array.size _ ≤ sizeLine
          rw [foldl_arr, sizeLine_eq]
          have e : (#[] ++ (List.replicate n.toNat z.cps.toList).flatten.toArray).size = n.toNat * z.length := by
            rw [Array.size_append]
            simp only [List.size_toArray, len_rep]
            simp [Str.length]
          rw [e, Nat.mul_comm]
          omega
        · unfold repS
          rw [foldl_arr]
          simp
end
end My
namespace My
open PySem PySem.Spec PyProof.Rows L2
/-- what holds ahead of the rest of a block -/
theorem seq_cut {t u : TS} {D : Ends} {σ : L2.St} {H : Hp} (J : L2.St → Hp → Prop) (hu : ∀ σ H, J σ H → u D σ H) (ht : (∀ σ H, J σ H → u D σ H) → tSeq t u D σ H) : tSeq t u D σ H := ht hu
theorem atI_n {α : Type} {xs : List α} {i : Int} {j : Nat} {v : α} (e : i = (j : Int)) (h : xs[j]? = some v) : atI xs i = some v := by rw [e]; exact atI_nat h
theorem ixN_n {n : Nat} {i : Int} {j : Nat} (e : i = (j : Int)) (h : j < n) : ixN n i = some j := by
  unfold ixN
  rw [e, if_pos (by omega), if_pos (by omega)]
  simp
theorem fmod_rng {a b : Int} (h : 0 < b) : 0 ≤ a.fmod b ∧ a.fmod b < b := ⟨Int.fmod_nonneg_of_pos a h, Int.fmod_lt_of_pos a h⟩
end My

namespace My
open PySem PySem.Spec PyProof.Rows L2 Evl
section
variable {K : PySem.W.Frag} {H : Hp}
mutual
theorem dp_ex {H1 : Hp} (e : Ex H H1) : ∀ {d : PyData} {v : V}, Dp K H v d → Dp K H1 v d
  | _, _, .non => .non
  | _, _, .bl b => .bl b
  | _, _, .int i => .int i
  | _, _, .str x => .str x
  | _, _, .lst h a => .lst (ex_l e h) (dpa_ex e a)
  | _, _, .tup h a => .tup (ex_t e h) (dpa_ex e a)
theorem dpa_ex {H1 : Hp} (e : Ex H H1) : ∀ {ds : List PyData} {vs : List V}, DpAll K H vs ds → DpAll K H1 vs ds
  | _, _, .nil => .nil
  | _, _, .cons h a => .cons (dp_ex e h) (dpa_ex e a)
end
theorem rv_eqD {x y : V} {d e : PyData} {b : Bool} (h1 : Dp K H x d) (h2 : Dp K H y e) (s1 : SeqAt.shaped d = true) (s2 : SeqAt.shaped e = true) (hb : PyData.eqv d e = b) : RV (rEqD K) x y H (.bl b) :=
  fun H1 a _ q => ⟨d, e, dp_ex a h1, dp_ex a h2, s1, s2, by rw [hb]; exact q H1 (Ex.refl H1)⟩
theorem rv_neD {x y : V} {d e : PyData} {b : Bool} (h1 : Dp K H x d) (h2 : Dp K H y e) (s1 : SeqAt.shaped d = true) (s2 : SeqAt.shaped e = true) (hb : (!PyData.eqv d e) = b) : RV (rNeD K) x y H (.bl b) :=
  fun H1 a _ q => ⟨d, e, dp_ex a h1, dp_ex a h2, s1, s2, by rw [hb]; exact q H1 (Ex.refl H1)⟩
theorem rc_int {i : Int} : RC (fun xs H Q => (∃ i, xs = [V.int i] ∧ Q (.int i) H) ∨ ∃ k, xs = [V.bl k] ∧ Q (.int (if k then 1 else 0)) H) [.int i] H (.int i) := fun H1 _ _ q => .inl ⟨i, rfl, q H1 (Ex.refl H1)⟩
theorem rc_intB {b : Bool} : RC (fun xs H Q => (∃ i, xs = [V.int i] ∧ Q (.int i) H) ∨ ∃ k, xs = [V.bl k] ∧ Q (.int (if k then 1 else 0)) H) [.bl b] H (.int (if b then 1 else 0)) := fun H1 _ _ q => .inr ⟨b, rfl, q H1 (Ex.refl H1)⟩
theorem rc_abs {i : Int} : RC (fun xs H Q => ∃ i, xs = [V.int i] ∧ Q (.int (if i < 0 then -i else i)) H) [.int i] H (.int (if i < 0 then -i else i)) := fun H1 _ _ q => ⟨i, rfl, q H1 (Ex.refl H1)⟩
end
theorem shaped_ints (ns : List Int) : SeqAt.shaped (.list (ns.map PyData.int)) = true := PySem.W.ke_shaped_ints ns
end My
namespace My
open PySem PySem.Spec PyProof.Rows L2 Evl
section
variable {D : Ends} {σ : L2.St} {H : Hp} {t u : TS} {te ta tb : TE} {g : TG} {r : R2} {Q : VK} {v : V} {i : Nat}
theorem w_seq (h : t { D with nx := u D } σ H) : tSeq t u D σ H := h
theorem w_asg (h : te σ H fun v H1 => g v σ H1 D.nx) : tAsg te g D σ H := h
theorem w_set (h : te σ H fun v H1 => D.nx (σ.set i (some v)) H1) : tAsg te (gName i) D σ H := h
theorem q_set (h : te σ H fun v H1 => u D (σ.set i (some v)) H1) : tSeq (tAsg te (gName i)) u D σ H := h
theorem w_op (h : ta σ H fun x H1 => tb σ H1 fun y H2 => r x y H2 Q) : tOp r ta tb σ H Q := h
theorem w_ev (h : Ev te σ H v) (k : ∀ H1, Ex H H1 → Q v H1) : te σ H Q := h H (Ex.refl H) Q k
theorem w_evl {xs : List V} (h : EvL te σ H xs) (k : ∀ p H1, H p = none → Ex H H1 → H1 p = some (.lst xs) → Q (.ref p) H1) : te σ H Q := h H (Ex.refl H) Q k
theorem w_evu {xs : List V} (h : EvU te σ H xs) (k : ∀ p H1, H p = none → Ex H H1 → H1 p = some (.tup xs) → Q (.ref p) H1) : te σ H Q := h H (Ex.refl H) Q k
theorem w_eva {tl : TA} {vs : List V} {Q : List V → Hp → Prop} (h : EvA tl σ H vs) (k : ∀ H1, Ex H H1 → Q vs H1) : tl σ H Q := h H (Ex.refl H) Q k
theorem w_evt {tt : TT} {b : Bool} {Q : Bool → Hp → Prop} (h : EvT tt σ H b) (k : ∀ H1, Ex H H1 → Q b H1) : tt σ H Q := h H (Ex.refl H) Q k
theorem w_ret (h : te σ H D.rt) : tRet te D σ H := h
theorem w_drop (h : te σ H fun _ H1 => D.nx σ H1) : tDrop te D σ H := h
theorem q_drop' (h : te σ H fun _ H1 => u D σ H1) : tSeq (tDrop te) u D σ H := h
theorem w_call {sp : Sp} {dvs : List V} {E : XK} {tl : TA} (h : tl σ H fun vs H1 => sp (vs ++ dvs) H1 Q E) : tCall sp dvs E tl σ H Q := h
theorem w_cons {tl : TA} {Q : List V → Hp → Prop} (h : ta σ H fun x H1 => tl σ H1 fun xs H2 => Q (x :: xs) H2) : tCons ta tl σ H Q := h
theorem w_nil {Q : List V → Hp → Prop} (h : Q [] H) : tNil σ H Q := h
theorem w_cb {rc : List V → Hp → VK → Prop} {tl : TA} (h : tl σ H fun vs H1 => rc vs H1 Q) : tCB rc tl σ H Q := h
theorem w_ifS {c : TT} (h : c σ H fun b H1 => if b = true then t D σ H1 else u D σ H1) : tIfS c t u D σ H := h
theorem w_test {Q : Bool → Hp → Prop} (h : te σ H fun x H' => ∃ k, x = .bl k ∧ Q k H') : tTest te σ H Q := h
end
end My
namespace My
open PySem PySem.Spec PyProof.Rows L2 Evl
theorem s_norm {σ : L2.St} (σ' : L2.St) {t : TS} {D : Ends} {H : Hp} (h : σ = σ') (k : t D σ' H) : t D σ H := by rw [h]; exact k
theorem cast_mod (a b : Nat) : ((a % b : Nat) : Int) = (a : Int) % (b : Int) := by simp
end My
namespace My
open PySem PySem.Spec PyProof.Rows L2 Evl
section
variable {X : Cx}
theorem pe_cls {x : Str} {C : Addr} {pos : Pos} (hg : Gl X x) (hm : X.mg x = some (.ref C)) (hd : (x == ("__debug__" : Str)) = false := by decide) : PE X (.Name x pos) (tC (.ref C)) := pe_glob hg hm rfl hd
theorem pe_ty {x : Str} {n : String} {pos : Pos} (hg : Gl X x) (hm : X.mg x = none) (hv : bootBuiltins x = some (.type n)) (hn : x ≠ "__name__" := by decide) (hd : (x == ("__debug__" : Str)) = false := by decide) : PE X (.Name x pos) (tC (.ty n)) := pe_bltn hg hm hv rfl hn hd
end
end My
namespace My
open PySem PySem.Spec PyProof.Rows L2 Evl
/-! ### the rules with the written part named: within a comprehension it may not be read off the block's own context -/
section
variable {X : Cx}
theorem ixL (K : PySem.W.Frag) (h : X.K = K := by rfl) : IxR X (rIxL K) := by subst h; exact ix_list
theorem ixT (K : PySem.W.Frag) (h : X.K = K := by rfl) : IxR X (rIxT K) := by subst h; exact ix_tup
theorem slL (K : PySem.W.Frag) (h : X.K = K := by rfl) : SlR X (rSlL K) := by subst h; exact sl_list
theorem slT (K : PySem.W.Frag) (h : X.K = K := by rfl) : SlR X (rSlT K) := by subst h; exact sl_tup
theorem inSeq (K : PySem.W.Frag) (h : X.K = K := by rfl) : OpR X (compareOp .In) (rIn K false) := by subst h; exact op_in_seq
theorem notInSeq (K : PySem.W.Frag) (h : X.K = K := by rfl) : OpR X (compareOp .NotIn) (rIn K true) := by subst h; exact op_notIn_seq
theorem eqDK (K : PySem.W.Frag) (hu : X.A.units + 64 < cLine) (h : X.K = K := by rfl) : OpR X (compareOp .Eq) (rEqD K) := by subst h; exact op_eqD hu
theorem neDK (K : PySem.W.Frag) (hu : X.A.units + 64 < cLine) (h : X.K = K := by rfl) : OpR X (compareOp .NotEq) (rNeD K) := by subst h; exact op_neD hu
theorem lenSeq (K : PySem.W.Frag) (h : X.K = K := by rfl) : CallR X (.builtin "len") (rLenS K) := by subst h; exact call_len_seq
theorem listOf (K : PySem.W.Frag) (h : X.K = K := by rfl) : CallR X (.type "list") (rListS K) := by subst h; exact call_list_of
def rTupS (K : PySem.W.Frag) : List V → Hp → VK → Prop := fun xs H Q => ∃ p ys, xs = [.ref p] ∧ ((SqL K H p ys ∧ ∀ l, H l = none → Q (.ref l) (upd H l (.tup ys))) ∨ (SqT K H p ys ∧ Q (.ref p) H))
theorem tupOf (K : PySem.W.Frag) (h : X.K = K := by rfl) : CallR X (.type "tuple") (rTupS K) := by subst h; exact call_tuple_of
theorem allK (K : PySem.W.Frag) (hc : X.calm = true) (h : X.K = K := by rfl) : CallR X (.builtin "all") (rAll K) := by subst h; exact cr_all hc
theorem anyK (K : PySem.W.Frag) (hc : X.calm = true) (h : X.K = K := by rfl) : CallR X (.builtin "any") (rAny K) := by subst h; exact cr_any hc
theorem sortedK (K : PySem.W.Frag) (h : X.K = K := by rfl) : CallR X (.builtin "sorted") (rSortedS K) := by subst h; exact cr_sortedS
theorem isiK (K : PySem.W.Frag) (h : X.K = K := by rfl) : CallR X (.builtin "isinstance") (rIsi K) := by subst h; exact call_isi
theorem idxK (K : PySem.W.Frag) (h : X.K = K := by rfl) : MtR X "list.index" (rIndex K) := by subst h; exact mt_index
def rJoinS (K : PySem.W.Frag) : V → List V → Hp → VK → Prop := fun x xs H Q => ∃ a p, ∃ ys : List Str, x = .str a ∧ xs = [.ref p] ∧ (SqL K H p (ys.map V.str) ∨ SqT K H p (ys.map V.str)) ∧ (ys.map Str.length).sum + (ys.length - 1) * a.length ≤ 16777216 ∧ Q (.str (Txt.join a ys)) H
theorem piL (K : PySem.W.Frag) {tg l : Expr} {tl : TE} (hl : PE X l tl) (h : X.K = K := by rfl) : PI X tg l (iList K tl) := by subst h; exact pi_list hl
theorem piT (K : PySem.W.Frag) {tg l : Expr} {tl : TE} (hl : PE X l tl) (h : X.K = K := by rfl) : PI X tg l (iTup K tl) := by subst h; exact pi_tup hl
theorem fldK (K : PySem.W.Frag) {e : Expr} {f : Str} {pos : Pos} {ta : TE} (he : PE X e ta) (h : X.K = K := by rfl) (hb : attributeBase e f X.env (eval e X.env) = eval e X.env := by rfl) : PE X (.Attribute e f pos) (tFld K ta f) := by subst h; exact pe_fld he hb
theorem truK (K : PySem.W.Frag) {a : Expr} {ta : TE} (ha : PE X a ta) (h : X.K = K := by rfl) (he : ∀ whole, isTrue a X.env whole = (do let v ← whole; standAt a.pos; holding [v] (truthy v)) := by intro _; rfl) : PT X a (fun σ H Q => ta σ H fun x H' => ∃ k, TruV K x H' k ∧ Q k H') := by subst h; exact pt_truth ha he
theorem bmK (K : PySem.W.Frag) {o e : Expr} {es : List Expr} {to : TE} {t : TA} {name : Str} {apos cpos : Pos} {T id : String} {r : V → List V → Hp → VK → Prop} (pa : PlainAttrs T) (slot : Slot T name id) (hty : typeOf (.builtin id) = pure (.type "method_descriptor")) (hm : MtR X id r) (ho : PE X o to) (ha : PA X (e :: es) t) (h : X.K = K := by rfl)
    (hbase : attributeBase o name X.env (eval o X.env) = eval o X.env := by rfl)
    (hfew : ((backTo cpos (starEach (e :: es) X.env)).all (fun x => !x.1) && (backToKw cpos (keywordEach [] X.env)).all (fun x => x.1.isSome)
      && decide ((e :: es).length + ([] : List Keyword).length + (if ([] : List Keyword).isEmpty then 0 else 1) < 30)) = true := by rfl)
    (hline : (apos.endLine == cpos.line) = true := by rfl) (hs : starEach (e :: es) X.env = (false, eval e X.env) :: starEach es X.env := by rfl) (hplain : (backTo cpos (starEach es X.env)).any (·.1) = false := by rfl) :
    PE X (.Call (.Attribute o name apos) (e :: es) [] cpos) (tBM K T r to t) := by subst h; exact pe_bm pa slot hty hm ho ha hbase hfew hline hs hplain
theorem bmK0 (K : PySem.W.Frag) {o : Expr} {to : TE} {name : Str} {apos cpos : Pos} {T id : String} {r : V → List V → Hp → VK → Prop} (pa : PlainAttrs T) (slot : Slot T name id) (hty : typeOf (.builtin id) = pure (.type "method_descriptor")) (hm : MtR X id r) (ho : PE X o to) (h : X.K = K := by rfl)
    (hbase : attributeBase o name X.env (eval o X.env) = eval o X.env := by rfl) (hline : (apos.endLine == cpos.line) = true := by rfl) : PE X (.Call (.Attribute o name apos) [] [] cpos) (tBM0 K T r to) := by subst h; exact pe_bm0 pa slot hty hm ho hbase hline
end
end My

namespace My
open PySem PySem.Spec PyProof.Rows L2 Evl
theorem et_yes {σ : L2.St} {H : Hp} : EvT tYes σ H true := fun H1 _ _ q => q H1 (Ex.refl H1)
theorem wipe1 (σ : L2.St) (j : Nat) (x : Option V) : wipe ((wipe σ [j]).set j x) [j] = wipe σ [j] := by simp [wipe, List.set_set]
theorem given_all {n : Nat} {v : Nat → V} : given n (fun _ => true) v = (List.range n).map v := by
  unfold given
  rw [List.filter_eq_self.mpr fun _ _ => rfl]
end My

/-! A dict comprehension with two clauses and no test: {k: v for t0 in i0 for t1 in i1}. -/
namespace My
open PySem PySem.Spec PyProof.Rows L2
section
variable (kx vx t0 i0 t1 i1 : Expr) (scope : Scope) (pos : Pos)
/-- the comprehension -/
def dcx : Expr := .DictComp kx vx [⟨t0, i0, [], 0⟩, ⟨t1, i1, [], 0⟩] scope pos
theorem dcx_outer (it acc : Value) (env : Env) : compTurn (dcx kx vx t0 i0 t1 i1 scope pos) 0 it acc env = (do
      standAt i0.pos
      match ← pyNext it with
      | none => pure (.done .next)
      | some v =>
        letOwnedTupleGo t0 it v
        assign t0 env v
        let mut ok := true
        for c in ([] : List Expr) do
          if ok then ok ← isTrue c env (eval c env)
        if ok then
          let src ← eval i1 env
          standAt i1.pos
          let src ← foldedSetIterable i1 env src
          let _ ← runOwn (.compStart (dcx kx vx t0 i0 t1 i1 scope pos) 1 (← holding [src] (pyIter src)) acc env) env
        again (.compLoop (dcx kx vx t0 i0 t1 i1 scope pos) 0 it acc env)) := by rfl
theorem dcx_inner (it : Value) (D : Addr) (env : Env) : compTurn (dcx kx vx t0 i0 t1 i1 scope pos) 1 it (.ref D) env = (do
      standAt i1.pos
      match ← pyNext it with
      | none => pure (.done .next)
      | some v =>
        letOwnedTupleGo t1 it v
        assign t1 env v
        let mut ok := true
        for c in ([] : List Expr) do
          if ok then ok ← isTrue c env (eval c env)
        if ok then
          (do
            let key ← eval kx env
            let val ← holding [key] (eval vx env)
            standAt { kx.pos with endLine := vx.pos.endLine, endCol := vx.pos.endCol }
            holding [key, val] (dictSet D key val))
        again (.compLoop (dcx kx vx t0 i0 t1 i1 scope pos) 1 it (.ref D) env)) := by rfl
end
end My

namespace My
open PySem PySem.Spec PyProof.Rows L2
section
variable {prog : Program} {w : World} {A : Around} {R : Result → Shared → Prop} {s : Shared} {kx vx t0 i0 t1 i1 : Expr} {scope : Scope} {pos : Pos} {it : Value} {D : Addr} {env : Env}
/-- the outer loop -/
theorem dcx_loop0 (fold : ∀ x, foldedSetIterable i1 env x = pure x) (G : Nat → Shared → Prop)
    (turn : ∀ n s, G n s → wpAny (model prog w) A (pyNext it) (fun r a1 => match r with
      | none => R (.ok .next) a1
      | some v => wpAny (model prog w) A (letOwnedTupleGo t0 it v) (fun _ a2 => wpAny (model prog w) A (assign t0 env v) (fun _ a3 =>
          wpAny (model prog w) A (eval i1 env) (fun x a4 => wpAny (model prog w) A (pyIter x) (fun j a5 =>
            codeAny (model prog w) A (.compStart (dcx kx vx t0 i0 t1 i1 scope pos) 1 j (.ref D) env) (fun r a6 => match r with
              | .ok _ => ∃ m, m < n ∧ G m a6
              | .error _ => False) a5) (notedBy (model prog w) A env fun e z => R (.error e) z) a4) (notedBy (model prog w) A env fun e z => R (.error e) z) a3) (notedBy (model prog w) A env fun e z => R (.error e) z) a2)
          (notedBy (model prog w) A env fun e z => R (.error e) z) a1) (notedBy (model prog w) A env fun e z => R (.error e) z) s)
    (n : Nat) (h : G n s) : codeAny (model prog w) A (.compLoop (dcx kx vx t0 i0 t1 i1 scope pos) 0 it (.ref D) env) R s := by
  refine codeAny_loop rfl G (fun n s g => ?_) n h
  show wpAny _ A ((compTurn (dcx kx vx t0 i0 t1 i1 scope pos) 0 it (.ref D) env).onRaise (fun x => do noteFrame x env; theTreesLotGoes x)) _ _ s
  refine wpAny_noted ?_
  rw [dcx_outer]
  refine wpAny_bind (wpAny_standAt (wpAny_bind (wpAny_mono (turn n s g) (fun r a1 q => ?_) fun _ _ z => z)))
  match r, q with
  | none, q => exact wpAny_pure q
  | some v, q =>
    refine wpAny_bind (wpAny_mono q (fun _ a2 q => wpAny_bind (wpAny_mono q (fun _ a3 q => wpAny_bind (wpAny_pure ?_)) fun _ _ z => z)) fun _ _ z => z)
    refine wpAny_bind (wpAny_mono q (fun x a4 q => wpAny_bind (wpAny_standAt (wpAny_bind (wpAny_of_eq (fold x) (wpAny_bind (wpAny_holding (wpAny_mono q (fun j a5 q => ?_) fun _ _ z => z))))))) fun _ _ z => z)
    refine wpAny_bind (wpAny_runOwn ?_)
    rw [Around.mark_none]
    refine codeAny_mono q fun r a6 q => ?_
    match r, q with
    | .ok _, q => first | exact wpAny_pure ⟨rfl, q⟩ | exact wpAny_bind (wpAny_pure (wpAny_pure ⟨rfl, q⟩))
    | .error _, q => exact q.elim
/-- the inner loop -/
theorem dcx_loop1 (G : Nat → Shared → Prop)
    (turn : ∀ n s, G n s → wpAny (model prog w) A (pyNext it) (fun r a1 => match r with
      | none => R (.ok .next) a1
      | some v => wpAny (model prog w) A (letOwnedTupleGo t1 it v) (fun _ a2 => wpAny (model prog w) A (assign t1 env v) (fun _ a3 =>
          wpAny (model prog w) A (eval kx env) (fun kv a4 => wpAny (model prog w) A (eval vx env) (fun vv a5 =>
            wpAny (model prog w) A (dictSet D kv vv) (fun _ a6 => ∃ m, m < n ∧ G m a6) (notedBy (model prog w) A env fun e z => R (.error e) z) a5) (notedBy (model prog w) A env fun e z => R (.error e) z) a4) (notedBy (model prog w) A env fun e z => R (.error e) z) a3)
          (notedBy (model prog w) A env fun e z => R (.error e) z) a2) (notedBy (model prog w) A env fun e z => R (.error e) z) a1) (notedBy (model prog w) A env fun e z => R (.error e) z) s)
    (n : Nat) (h : G n s) : codeAny (model prog w) A (.compLoop (dcx kx vx t0 i0 t1 i1 scope pos) 1 it (.ref D) env) R s := by
  refine codeAny_loop rfl G (fun n s g => ?_) n h
  show wpAny _ A ((compTurn (dcx kx vx t0 i0 t1 i1 scope pos) 1 it (.ref D) env).onRaise (fun x => do noteFrame x env; theTreesLotGoes x)) _ _ s
  refine wpAny_noted ?_
  rw [dcx_inner]
  refine wpAny_bind (wpAny_standAt (wpAny_bind (wpAny_mono (turn n s g) (fun r a1 q => ?_) fun _ _ z => z)))
  match r, q with
  | none, q => exact wpAny_pure q
  | some v, q =>
    refine wpAny_bind (wpAny_mono q (fun _ a2 q => wpAny_bind (wpAny_mono q (fun _ a3 q => wpAny_bind (wpAny_pure ?_)) fun _ _ z => z)) fun _ _ z => z)
    exact wpAny_bind (wpAny_bind (wpAny_mono q (fun kv a4 q => wpAny_bind (wpAny_holding (wpAny_mono q (fun vv a5 q => wpAny_bind (wpAny_standAt (wpAny_holding (wpAny_mono q (fun _ a6 q => wpAny_pure ⟨rfl, q⟩) fun _ _ z => z)))) fun _ _ z => z))) fun _ _ z => z))
/-- the inner clause begins -/
theorem dcx_start1 (h0 : codeAny (model prog w) A (.compLoop (dcx kx vx t0 i0 t1 i1 scope pos) 1 it (.ref D) env) R s)
    (h : wpAny (model prog w) A (pyIter it) (fun j z => codeAny (model prog w) A (.compLoop (dcx kx vx t0 i0 t1 i1 scope pos) 1 j (.ref D) env) R z) (notedBy (model prog w) A env fun x z => R (.error x) z) s) :
    codeAny (model prog w) A (.compStart (dcx kx vx t0 i0 t1 i1 scope pos) 1 it (.ref D) env) R s := by
  refine codeAny_of_tree ?_
  show wpAny _ _ ((compStart (dcx kx vx t0 i0 t1 i1 scope pos) 1 it (.ref D) env).onRaise (fun x => do noteFrame x env; standAt theWindowsPlace)) _ _ s
  refine wpAny_notedAt ?_
  unfold compStart
  show wpAny _ _ (ask >>= _) _ _ s
  refine wpAny_bind (wpAny_askSetting (wpAny_ite ?_))
  split
  · first
      | exact wpAny_bind (wpAny_pure (wpAny_pure (And.intro rfl h0)))
      | exact wpAny_pure (And.intro rfl h0)
  · refine wpAny_bind (wpAny_rule ?_)
    first
      | exact wpAny_bind (wpAny_standAt (wpAny_bind (wpAny_mono h (fun j z q => wpAny_pure (And.intro rfl q)) fun _ _ x => x)))
      | (show wpAny _ _ (standAt i1.pos >>= _) _ _ s; exact wpAny_bind (wpAny_standAt (wpAny_bind (wpAny_mono h (fun j z q => wpAny_pure (And.intro rfl q)) fun _ _ x => x))))
end
end My
namespace My
open PySem PySem.Spec PyProof.Rows L2
section
variable {X : Cx}
/-- {k: v for tg in .. for tg1 in ..}: D the new dict; from the inner loop's end Nx is reached -/
def tDc2 (wi : TI) (g : TG) (wi1 : TI) (g1 : TG) (tk tv : TE) (vs vs1 : List Nat) : TE := fun σ H Q => wi σ H fun J H1 => ∀ D, H1 D = none → ∃ W : Nat → Nat → Hp → Prop, (∃ m, W 0 m (upd H1 D (.dK []))) ∧ ∀ i m H, W i m H →
  (J.stop i H ∧ Q (.ref D) H) ∨ (J.go i H ∧ ∃ Nx : Hp → Prop, (∀ H', Nx H' → ∃ m', m' < m ∧ W (i + 1) m' H') ∧ ∀ x H', J.yld i H x H' → g x (wipe σ vs) H' fun σ2 H2 => wipe σ2 vs = wipe σ vs ∧
    wi1 σ2 H2 fun J1 H4 => ∃ W1 : Nat → Nat → Hp → Prop, (∃ m, W1 0 m H4) ∧ ∀ j k H, W1 j k H →
      (J1.stop j H ∧ Nx H) ∨ (J1.go j H ∧ ∃ Nx1 : Hp → Prop, (∀ H', Nx1 H' → ∃ k', k' < k ∧ W1 (j + 1) k' H') ∧ ∀ x H', J1.yld j H x H' → g1 x (wipe σ2 vs1) H' fun σ3 H5 => wipe σ3 vs1 = wipe σ2 vs1 ∧
        tk σ3 H5 fun y H7 => tv σ3 H7 fun z H8 => ∃ kvs q, y = kV q ∧ H8 D = some (.dK kvs) ∧ kvs.length < sizeLine ∧ Nx1 (upd H8 D (.dK (putK kvs q z)))))
variable {kx vx tg iter tg1 iter1 : Expr} {scope : Scope} {own : List (Str × Nat)} {vs1 : List Nat} {pos : Pos} {wi wi1 : TI} {g g1 : TG} {tk tv : TE}
theorem dc2_core {pins : List (Addr × Obj)} {s : Shared} {σ : L2.St} {H : Hp} {Q : VK} {pos' : Pos} {use : Option (Value → Sem Unit)} {Qf : Value → Shared → Prop} (calm : X.calm = true) (nd : X.N.Nodup) (I : Inv X pins σ H s) (src : PI X tg iter wi) (ok : BlkOk X.N X.env.scope scope own) (sub1 : ∀ i ∈ vs1, i ∈ own.map (·.2))
    (hg : ∀ (s : Shared) (H : Hp) (C : Addr) (cl : List (Str × Addr)) (fp : List Addr), PG (X.blk s H scope (compEnvC scope cl C X.env) fp) tg g)
    (src1 : ∀ (s : Shared) (H : Hp) (C : Addr) (cl : List (Str × Addr)) (fp : List Addr), PI (X.blk s H scope (compEnvC scope cl C X.env) fp) tg1 iter1 wi1)
    (hg1 : ∀ (s : Shared) (H : Hp) (C : Addr) (cl : List (Str × Addr)) (fp : List Addr), PG (X.blk s H scope (compEnvC scope cl C X.env) fp) tg1 g1)
    (hk : ∀ (s : Shared) (H : Hp) (C : Addr) (cl : List (Str × Addr)) (fp : List Addr), PE (X.blk s H scope (compEnvC scope cl C X.env) fp) kx tk)
    (hv : ∀ (s : Shared) (H : Hp) (C : Addr) (cl : List (Str × Addr)) (fp : List Addr), PE (X.blk s H scope (compEnvC scope cl C X.env) fp) vx tv)
    (fold0 : ∀ x, foldedSetIterable iter X.env x = pure x) (fold1 : ∀ env x, foldedSetIterable iter1 env x = pure x)
    (want : tDc2 wi g wi1 g1 tk tv (own.map (·.2)) vs1 σ H Q)
    (back0 : ∀ D C s' m H', Inv X pins σ H' s' → Q (.ref D) H' → s'.heap.Ns C m → FpOk X pins H' C → compPost (model X.prog X.w) X.A X.xe use Qf (.ref D) C (.ok .next) s') :
    wpAny (model X.prog X.w) X.A (comprehension (.DictComp kx vx [⟨tg, iter, [], 0⟩, ⟨tg1, iter1, [], 0⟩] scope pos) scope X.env pos' newDict false (eval iter X.env) use) Qf X.xe s := by
  have cells : ∀ y ∈ scope.names, y.2 = .free → ∃ c, X.env.cells.lookup y.1 = some c := fun y hy e => (ok.free y hy e).elim (fun z => I.ok.has _ (.inl z)) fun z => I.ok.has _ (.inr z)
  refine wpAny_comprehension_free (use := use) rfl fold0 (closure_ok cells) ok.kind (fun y hy e => by rw [ok.uniq y hy, e]) (thn (src.run pins s σ H _ I want) fun xv sA mid => thn mid fun itv sB got => ?_)
  obtain ⟨it, fp, tn, J, HB, rfl, IB, T, stB, fB, q⟩ := got
  refine wpAny_newObj_type (newEnv_comp ?_)
  generalize eD : sB.heap.objs.size = D
  have freeD : HB D = none := IB.hok.fresh (Nat.le_of_eq eD)
  obtain ⟨W, ⟨m0, w0⟩, turn⟩ := q D freeD
  generalize eC : ({ sB with heap := sB.heap.push { cls := .type "dict", data := .dict #[] } } : Shared) = sC
  have IC : Inv X pins σ (upd HB D (.dK [])) sC := by
    subst eC
    exact IB.laid (t' := sB.toks) (fun b o e => Heap.get?_push_of_some _ e) (Nat.le_of_eq eD) (by subst eD; exact dk_empty sB.heap IB.big)
  have hC : sC.heap = sB.heap.push { cls := .type "dict", data := .dict #[] } := by subst eC; rfl
  have fC : ∀ b ∈ fp, FpOk X pins (upd HB D (.dK [])) b ∧ b < sC.heap.objs.size := fun b hb => by
    obtain ⟨o, e, _⟩ := T.obj _ _ stB b hb
    have lt := Heap.lt_size e
    exact ⟨⟨by rw [upd_ne (by rw [← eD]; exact Nat.ne_of_lt lt)]; exact (fB b hb).1, (fB b hb).2⟩, by rw [hC, Heap.size_push]; exact Nat.lt_succ_of_lt lt⟩
  have stC : tn 0 sC.heap := T.keep _ _ _ stB fun b _ o e => by rw [hC]; exact Heap.get?_push_of_some _ e
  have IE := block_start IC ok nd fC
  generalize ecl : cellsFrom (sC.heap.objs.size + 1) scope.names (cloFrom X.env.cells scope.names []) = cl at IE ⊢
  have pg := hg sC (upd HB D (.dK [])) sC.heap.objs.size cl fp
  have pk := hk sC (upd HB D (.dK [])) sC.heap.objs.size cl fp
  have pv := hv sC (upd HB D (.dK [])) sC.heap.objs.size cl fp
  have p1 := src1 sC (upd HB D (.dK [])) sC.heap.objs.size cl fp
  have pg1 := hg1 sC (upd HB D (.dK [])) sC.heap.objs.size cl fp
  show codeAny _ _ (.compStart (dcx kx vx tg iter tg1 iter1 scope pos) 0 (.ref it) (.ref D) (compEnvC scope cl sC.heap.objs.size X.env)) (compPost (model X.prog X.w) X.A X.xe use Qf (.ref D) sC.heap.objs.size) { sC with heap := pushCells (sC.heap.push { cls := .type "dict", data := .dict #[] }) scope.names }
  have freeF : ∀ b ∈ fp, (upd HB D (.dK [])) b = none := fun b hb => (fC b hb).1.1
  generalize ee : compEnvC scope cl sC.heap.objs.size X.env = ce at IE pg pk pv p1 pg1 ⊢
  have locs : ce.locals = sC.heap.objs.size := by subst ee; rfl
  generalize eH : upd HB D (.dK []) = HC at IC IE pg pk pv p1 pg1 w0 freeF fC
  generalize eS : ({ sC with heap := pushCells (sC.heap.push { cls := .type "dict", data := .dict #[] }) scope.names } : Shared) = sE at IE ⊢
  have stE : tn 0 sE.heap := T.keep _ _ _ stC fun b _ o e => by subst eS; exact pushCells_keeps _ _ _ _ (Heap.get?_push_of_some _ e)
  have still : ∀ {σ' : L2.St} {H' : Hp} {z : Shared}, Inv (X.blk sC HC scope ce fp) [] σ' H' z → (∀ b ∈ fp, H' b = none) → ∀ b ∈ fp, FpOk (X.blk sC HC scope ce fp) [] H' b := fun {σ' H' z} K hn b hb =>
    ⟨hn b hb, (K.ok.exf b hb).1, K.ok.exfs b hb, .inl hb, fun x c e => (K.ok.exf b hb).2 x c e, fun p hp => absurd (show p ∈ ([] : List (Addr × Obj)) ++ [] from hp) (by simp)⟩
  -- what a turn of the outer loop starts from
  let Start : Nat → Shared → Prop := fun n z => ∃ i H', Inv (X.blk sC HC scope ce fp) [] (wipe σ (own.map (·.2))) H' z ∧ tn i z.heap ∧ (∀ b ∈ fp, H' b = none) ∧ W i n H'
  suffices run : codeAny (model X.prog X.w) X.A (.compLoop (dcx kx vx tg iter tg1 iter1 scope pos) 0 (.ref it) (.ref D) ce) (compPost (model X.prog X.w) X.A X.xe use Qf (.ref D) sC.heap.objs.size) sE from
    codeAny_compStart_dict run (T.self X.A 0 _ _ _ stE run)
  refine dcx_loop0 (fold1 ce) Start ?_ m0 ⟨0, HC, IE, stE, freeF, w0⟩
  rintro n z5 ⟨i, H5, I5, st5, n5, w5⟩
  rcases turn i n H5 w5 with ⟨stop, fin⟩ | ⟨go, Nx, back, step⟩
  · refine thnF (T.done (X.blk sC HC scope ce fp) rfl rfl rfl calm i [] z5 _ H5 (fun _ _ => False) I5 (still I5 n5) st5 stop) fun r z6 ⟨er, I6⟩ => ?_
    subst er
    have I7 : Inv X pins σ H5 z6 := IC.call' (ch := fp) I6.os I6.base I6.hok I6.bare fun b hb => ⟨(fC b hb).1.2.2.2.1, (fC b hb).1.2.1, (fC b hb).1.2.2.2.2.1, (fC b hb).1.2.2.2.2.2⟩
    have gone : H5 sC.heap.objs.size = none := by rw [← locs]; exact I6.free
    obtain ⟨m, ns, _⟩ := I6.loc
    have ns : z6.heap.Ns ce.locals m := ns
    rw [locs] at ns
    exact back0 D sC.heap.objs.size z6 m H5 I7 fin ns (IC.fpOk (Nat.le_refl _) gone)
  · refine thnF (T.item (X.blk sC HC scope ce fp) rfl rfl rfl calm i [] z5 _ H5 (fun _ _ => False) I5 (still I5 n5) st5 go) fun r z6 ⟨u, er, h6⟩ => ?_
    subst er
    refine thnF h6 fun _ z7 ⟨x, H7, I7, r7, y7, st7, n7⟩ => ?_
    refine thnF (pg.run _ z7 _ H7 x u _ (I7.pinned (still I7 n7) (T.obj _ _ st7)) r7 (step x H7 y7)) fun _ z8 ⟨σ8, H8, I8, same8, q8⟩ => ?_
    refine thnF (p1.run _ z8 σ8 H8 _ I8 q8) fun xv zA mid => thnF mid fun itv zB got => ?_
    obtain ⟨it1, fp1, tn1, J1, HI, e1, II, T1, st1, fI, W1, ⟨m1, w1⟩, turn1⟩ := got
    subst e1
    have still1 : ∀ {H' : Hp}, (∀ b ∈ fp1, H' b = none) → ∀ b ∈ fp1, FpOk (X.blk sC HC scope ce fp) ([] ++ pinsAt fp z7.heap) H' b := fun hn b hb => ⟨hn b hb, (fI b hb).2⟩
    suffices run1 : codeAny (model X.prog X.w) X.A (.compLoop (dcx kx vx tg iter tg1 iter1 scope pos) 1 (.ref it1) (.ref D) ce) (fun r z => match r with | .ok _ => ∃ m, m < n ∧ Start m z | .error _ => False) zB from
      dcx_start1 run1 (T1.self X.A 0 _ _ _ st1 run1)
    refine dcx_loop1 (fun k z => ∃ j H', Inv (X.blk sC HC scope ce fp) ([] ++ pinsAt fp z7.heap) (wipe σ8 vs1) H' z ∧ tn1 j z.heap ∧ (∀ b ∈ fp1, H' b = none) ∧ W1 j k H') ?_ m1 ⟨0, HI, II.weak (wipe_length _ _) (fun j v e => (wipe_some e).1), st1, fun b hb => (fI b hb).1, w1⟩
    rintro k zC ⟨j, H12, I12, st12, n12, w12⟩
    rcases turn1 j k H12 w12 with ⟨stop1, nx⟩ | ⟨go1, Nx1, back1, step1⟩
    · refine thnF (T1.done (X.blk sC HC scope ce fp) rfl rfl rfl calm j _ zC (wipe σ8 vs1) H12 (fun _ _ => False) I12 (still1 n12) st12 stop1) fun r zD ⟨er, I13⟩ => ?_
      subst er
      obtain ⟨m', lt, w'⟩ := back H12 nx
      have kept : ∀ b ∈ fp, ∀ o, z7.heap.get? b = some o → zD.heap.get? b = some o ∧ H12 b = none := fun b hb o e =>
        let z := I13.pin (b, o) (List.mem_append_right _ (List.mem_append_right _ (mem_pinsAt hb e)))
        ⟨z.1, z.2.1⟩
      refine ⟨m', lt, i + 1, H12, (I13.unpinned (pins := [])).weak (by rw [← same8, wipe_length, wipe_length]) (fun a v e => ?_), T.keep _ _ _ st7 fun b hb o e => (kept b hb o e).1, fun b hb => ?_, w'⟩
      · rw [← same8] at e
        obtain ⟨e1, e2⟩ := wipe_some e
        rw [wipe_out fun z => e2 (sub1 a z)]
        exact e1
      · obtain ⟨o, e, _⟩ := T.obj _ _ st7 b hb
        exact (kept b hb o e).2
    · refine thnF (T1.item (X.blk sC HC scope ce fp) rfl rfl rfl calm j _ zC (wipe σ8 vs1) H12 (fun _ _ => False) I12 (still1 n12) st12 go1) fun r zD ⟨u1, er, h13⟩ => ?_
      subst er
      refine thnF h13 fun _ zE ⟨x1, H14, I14, r14, y14, st14, n14⟩ => ?_
      refine thnF (pg1.run _ zE (wipe σ8 vs1) H14 x1 u1 _ (I14.pinned (still1 n14) (T1.obj _ _ st14)) r14 (step1 x1 H14 y14)) fun _ zF ⟨σ15, H15, I15, same15, q15⟩ => ?_
      refine thnF (pk.run _ zF σ15 H15 _ I15 q15) fun kz zG ⟨yk, H16, I16, r16, q16⟩ => ?_
      refine thnF (pv.run _ zG σ15 H16 _ I16 q16) fun vz zH ⟨yv, H17, I17, r17, kvs, kq, ek, hD, few, nx⟩ => ?_
      subst ek
      refine d_dictSet (X := X.blk sC HC scope ce fp) I17 hD few r16 r17 fun zI I18 => ?_
      obtain ⟨m', lt, w'⟩ := back1 _ nx
      have kept : ∀ b ∈ fp1, ∀ o, zE.heap.get? b = some o → zI.heap.get? b = some o ∧ (upd H17 D (.dK (putK kvs kq yv))) b = none := fun b hb o e =>
        let z := I18.pin (b, o) (List.mem_append_right _ (List.mem_append_right _ (mem_pinsAt hb e)))
        ⟨z.1, z.2.1⟩
      refine ⟨m', lt, j + 1, _, I18.unpinned.weak (by rw [← same15, wipe_length]) (fun a v e => by rw [← same15] at e; exact (wipe_some e).1), T1.keep _ _ _ st14 fun b hb o e => (kept b hb o e).1, fun b hb => ?_, w'⟩
      obtain ⟨o, e, _⟩ := T1.obj _ _ st14 b hb
      exact (kept b hb o e).2
theorem pe_dc2 (calm : X.calm = true) (nd : X.N.Nodup) (src : PI X tg iter wi) (ok : BlkOk X.N X.env.scope scope own) (sub1 : ∀ i ∈ vs1, i ∈ own.map (·.2))
    (hg : ∀ (s : Shared) (H : Hp) (C : Addr) (cl : List (Str × Addr)) (fp : List Addr), PG (X.blk s H scope (compEnvC scope cl C X.env) fp) tg g)
    (src1 : ∀ (s : Shared) (H : Hp) (C : Addr) (cl : List (Str × Addr)) (fp : List Addr), PI (X.blk s H scope (compEnvC scope cl C X.env) fp) tg1 iter1 wi1)
    (hg1 : ∀ (s : Shared) (H : Hp) (C : Addr) (cl : List (Str × Addr)) (fp : List Addr), PG (X.blk s H scope (compEnvC scope cl C X.env) fp) tg1 g1)
    (hk : ∀ (s : Shared) (H : Hp) (C : Addr) (cl : List (Str × Addr)) (fp : List Addr), PE (X.blk s H scope (compEnvC scope cl C X.env) fp) kx tk)
    (hv : ∀ (s : Shared) (H : Hp) (C : Addr) (cl : List (Str × Addr)) (fp : List Addr), PE (X.blk s H scope (compEnvC scope cl C X.env) fp) vx tv)
    (fold0 : ∀ x, foldedSetIterable iter X.env x = pure x := by intro _; rfl) (fold1 : ∀ env x, foldedSetIterable iter1 env x = pure x := by intro _ _; rfl) :
    PE X (.DictComp kx vx [⟨tg, iter, [], 0⟩, ⟨tg1, iter1, [], 0⟩] scope pos) (tDc2 wi g wi1 g1 tk tv (own.map (·.2)) vs1) := by
  constructor; intro pins s σ H Q I want
  rw [arm_eval_DictComp]
  refine dc2_core calm nd I src ok sub1 hg src1 hg1 hk hv fold0 fold1 want fun D C s' m H' J q ns f => ⟨m, ns, fun h2 sb => ?_⟩
  obtain ⟨a0, a1, a2, a3, a4, a5⟩ := f
  exact ⟨.ref D, H', J.turned (t' := s'.toks) (fun b o hb e => (sb.2 b hb).trans e) a0 a1 a3 a4 a5, rfl, q⟩
/-- a local is set to such a dict, in one row -/
theorem ps_setDc2 {i : Nat} {y : Str} {py spos : Pos} (calm : X.calm = true) (nd : X.N.Nodup) (hy : X.N[i]? = some y) (loc : X.env.scope.names.lookup y = some .local)
    (swap : swapsWith (.DictComp kx vx [⟨tg, iter, [], 0⟩, ⟨tg1, iter1, [], 0⟩] scope pos) (some (.Name y py)) spos.line X.env = pure true)
    (src : PI X tg iter wi) (ok : BlkOk X.N X.env.scope scope own) (sub1 : ∀ i ∈ vs1, i ∈ own.map (·.2))
    (hg : ∀ (s : Shared) (H : Hp) (C : Addr) (cl : List (Str × Addr)) (fp : List Addr), PG (X.blk s H scope (compEnvC scope cl C X.env) fp) tg g)
    (src1 : ∀ (s : Shared) (H : Hp) (C : Addr) (cl : List (Str × Addr)) (fp : List Addr), PI (X.blk s H scope (compEnvC scope cl C X.env) fp) tg1 iter1 wi1)
    (hg1 : ∀ (s : Shared) (H : Hp) (C : Addr) (cl : List (Str × Addr)) (fp : List Addr), PG (X.blk s H scope (compEnvC scope cl C X.env) fp) tg1 g1)
    (hk : ∀ (s : Shared) (H : Hp) (C : Addr) (cl : List (Str × Addr)) (fp : List Addr), PE (X.blk s H scope (compEnvC scope cl C X.env) fp) kx tk)
    (hv : ∀ (s : Shared) (H : Hp) (C : Addr) (cl : List (Str × Addr)) (fp : List Addr), PE (X.blk s H scope (compEnvC scope cl C X.env) fp) vx tv)
    (fold0 : ∀ x, foldedSetIterable iter X.env x = pure x := by intro _; rfl) (fold1 : ∀ env x, foldedSetIterable iter1 env x = pure x := by intro _ _; rfl) :
    PS X (.Assign [.Name y py] (.DictComp kx vx [⟨tg, iter, [], 0⟩, ⟨tg1, iter1, [], 0⟩] scope pos) spos) (tAsg (tDc2 wi g wi1 g1 tk tv (own.map (·.2)) vs1) (gName i)) := by
  constructor; intro pins s σ H D I want
  rw [exec_Assign_Name_used _ _ _ _ swap]
  refine wpAny_bind (wpAny_standAt (wpAny_bind ?_))
  show wpAny _ X.A (do let _ ← comprehension (.DictComp kx vx [⟨tg, iter, [], 0⟩, ⟨tg1, iter1, [], 0⟩] scope pos) scope X.env (firstIterPos [⟨tg, iter, [], 0⟩, ⟨tg1, iter1, [], 0⟩] pos) newDict false (eval iter X.env) (some (assign (.Name y py) X.env))) _ _ s
  have want : tDc2 wi g wi1 g1 tk tv (own.map (·.2)) vs1 σ H (fun x H1 => gName i x σ H1 D.nx) := want
  refine wpAny_bind (thn (dc2_core (Qf := fun _ z => SP X pins D .next z) calm nd I src ok sub1 hg src1 hg1 hk hv fold0 fold1 want fun L C s' m H' J q ns f => ?_) fun _ z zq => wpAny_pure (wpAny_pure zq))
  show wpAny _ _ (assign (.Name y py) X.env (.ref L)) _ _ _
  refine wpAny_assign_Name (store_ok2 (v := V.ref L) J nd hy (.inl loc) rfl (fun s2 I2 ⟨a, sb, ha⟩ => ?_) (.inr loc))
  obtain ⟨a0, a1, a2, a3, a4, a5⟩ := f
  have off : C ≠ a := by
    rcases ha with z | z
    · rw [z]; exact a1
    · exact fun e => a4 y a z e.symm
  refine ⟨m, ns.sameBut sb off, fun h3 sb3 => ?_⟩
  exact ⟨_, H', I2.turned (t' := s2.toks) (fun b o hb e => (sb3.2 b hb).trans e) a0 a1 a3 a4 a5, q⟩
theorem sw_dict {gs : List Comprehension} {py : Pos} {y : Str} {l : Nat} {env : Env} (kind : env.scope.kind = .function) (loc : env.scope.names.lookup y = some .local) (row : (py.line == pos.line) = true)
    (off : (scope.names.any fun (n, k) => n == y && (k == .local || k == .cell)) = false) : swapsWith (.DictComp kx vx gs scope pos) (some (.Name y py)) l env = pure true := by
  have k1 : env.kindOf y = some .local := loc
  have k2 : env.blockKind = .function := by unfold Env.blockKind; rw [kind]; rfl
  unfold swapsWith
  simp only [k2, k1, off, Expr.pos, row]
  rfl
end
end My

namespace My
open PySem PySem.Spec PyProof.Rows L2 Evl
section
variable {X : Cx}
theorem pe_gstr {x z : Str} {t : Tok} {pos : Pos} (hg : Gl X x) (hm : X.mg x = some (.str z t)) (hd : (x == ("__debug__" : Str)) = false := by decide) : PE X (.Name x pos) (tC (.str z)) := pe_glob hg hm ⟨t, rfl⟩ hd
theorem pe_gint {x : Str} {z : Int} {t : Tok} {pos : Pos} (hg : Gl X x) (hm : X.mg x = some (.int z t)) (hd : (x == ("__debug__" : Str)) = false := by decide) : PE X (.Name x pos) (tC (.int z)) := pe_glob hg hm ⟨t, rfl⟩ hd
/-- a list or a tuple -/
def SqA (K : PySem.W.Frag) (H : Hp) (a : Addr) (xs : List V) : Prop := SqL K H a xs ∨ SqT K H a xs
theorem SqA.ex {K : PySem.W.Frag} {H H' : Hp} {a : Addr} {xs : List V} (e : Ex H H') (h : SqA K H a xs) : SqA K H' a xs := h.elim (fun z => .inl (ex_l e z)) fun z => .inr (ex_t e z)
/-- what a name holds is walked, a list or a tuple -/
def iAny (K : PySem.W.Frag) (i : Nat) : TI := fun σ H R => ∃ a, σ[i]? = some (some (.ref a)) ∧ (((∃ xs, SqL K H a xs) ∧ R (Itl K a) H) ∨ ((∃ xs, SqT K H a xs) ∧ R (Itt K a) H))
theorem pi_any (K : PySem.W.Frag) (i : Nat) {tg : Expr} {x : Str} {pos : Pos} (h : PE X (.Name x pos) (tVar i)) (hK : X.K = K := by rfl) : PI X tg (.Name x pos) (iAny K i) := by
  subst hK
  refine ⟨fun pins s σ H R I q => ?_⟩
  obtain ⟨a, e, q | q⟩ := q
  · exact (pi_list h).run pins s σ H R I ⟨_, e, a, rfl, q⟩
  · exact (pi_tup h).run pins s σ H R I ⟨_, e, a, rfl, q⟩
end
section
variable {K : PySem.W.Frag} {σ : L2.St} {H H' : Hp} {ta tb te tx tc : TE} {t u : TT} {x y z v : V} {r r' : R2}
theorem ev_chain {a b : Bool} (ha : Ev ta σ H x) (hb : Ev tb σ H y) (h1 : RV r x y H (.bl a)) (hc : a = true → Ev tc σ H z) (h2 : a = true → RV r' y z H (.bl b)) : Ev (tChain r r' ta tb tc) σ H (.bl (a && b)) := fun H1 e Q q =>
  ha H1 e _ fun H2 e2 => hb H2 (e.trans e2) _ fun H3 e3 => h1 H3 ((e.trans e2).trans e3) _ fun H4 e4 => ⟨a, rfl, by
    have ee := ((e.trans e2).trans e3).trans e4
    cases a with
    | false => exact q H4 ((e2.trans e3).trans e4)
    | true => exact hc rfl H4 ee _ fun H5 e5 => h2 rfl H5 (ee.trans e5) Q fun H6 e6 => q H6 ((((e2.trans e3).trans e4).trans e5).trans e6)⟩
theorem ev_all {bs : List Bool} (h : EvL te σ H (bs.map V.bl)) : Ev (tCB (rAll K) (tCons te tNil)) σ H (.bl (bs.all id)) := fun H1 e Q q => h H1 e _ fun p H2 _ e2 h2 => ⟨p, bs, rfl, SqL.of h2, q H2 e2⟩
theorem ev_any {bs : List Bool} (h : EvL te σ H (bs.map V.bl)) : Ev (tCB (rAny K) (tCons te tNil)) σ H (.bl (bs.any id)) := fun H1 e Q q => h H1 e _ fun p H2 _ e2 h2 => ⟨p, bs, rfl, SqL.of h2, q H2 e2⟩
/-- a comprehension over anything that gives its items and leaves the heap -/
theorem el_lcW {wi : TI} {j : Nat} {vs : List Nat} {n : Nat} (f : Nat → Bool) (v : Nat → V) (hn : n ≤ 40000) (X : Nat → V → Prop)
    (hi : ∀ H1, Ex H H1 → ∀ R : It → Hp → Prop, (∀ J H2, Ex H1 H2 → (∃ G, Walk J n G (fun i H3 x H4 => H4 = H3 ∧ X i x) ∧ ∀ H3, Ex H2 H3 → G H3) → R J H2) → wi σ H1 R)
    (hw : ∀ x, wipe ((wipe σ vs).set j (some x)) vs = wipe σ vs)
    (ht : ∀ (i : Nat) (x : V) H1, Ex H H1 → i < n → X i x → EvT t ((wipe σ vs).set j (some x)) H1 (f i)) (he : ∀ (i : Nat) (x : V) H1, Ex H H1 → i < n → X i x → f i = true → Ev te ((wipe σ vs).set j (some x)) H1 (v i)) :
    EvL (tLc wi (gName j) t te vs) σ H (given n f v) := fun H0 e Q q => hi H0 e _ fun J H1 e1 ⟨G, wk, hG⟩ Dl hD =>
  lc_it wk (Cw H1 f v Dl) ⟨hD, Ex.new hD, upd_same⟩ (fun i H' _ p => hG H' p.2.1) (fun i x H2 H' hi p y => by
    obtain ⟨rfl, hx⟩ := y
    exact ⟨hw x, cw_turn p (by omega) (ht i x H1 (e.trans e1) hi hx) (fun hf => he i x H1 (e.trans e1) hi hx hf)⟩) (fun H' p => q Dl H' (fresh_back e1 p.1) (e1.trans p.2.1) p.2.2)
/-- the sources -/
theorem wi_str {w : Str} (h : Ev te σ H (.str w)) : ∀ H1, Ex H H1 → ∀ R : It → Hp → Prop, (∀ J H2, Ex H1 H2 → (∃ G, Walk J w.cps.size G (fun i H3 x H4 => H4 = H3 ∧ ∃ c, w.cps[i]? = some c ∧ x = .str ⟨#[c]⟩) ∧ ∀ H3, Ex H2 H3 → G H3) → R J H2) → iStr te σ H1 R :=
  fun H1 e R k => h H1 e _ fun H2 e2 => ⟨w, rfl, k _ H2 e2 ⟨_, walk_str, fun _ _ => trivial⟩⟩
theorem wi_list {a : Addr} {xs : List V} (h : Ev te σ H (.ref a)) (hx : SqL K H a xs) : ∀ H1, Ex H H1 → ∀ R : It → Hp → Prop, (∀ J H2, Ex H1 H2 → (∃ G, Walk J xs.length G (fun i H3 x H4 => H4 = H3 ∧ xs[i]? = some x) ∧ ∀ H3, Ex H2 H3 → G H3) → R J H2) → iList K te σ H1 R :=
  fun H1 e R k => h H1 e _ fun H2 e2 => ⟨a, rfl, ⟨xs, ex_l (e.trans e2) hx⟩, k _ H2 e2 ⟨_, walk_list, fun H3 e3 => ex_l ((e.trans e2).trans e3) hx⟩⟩
theorem wi_tup {a : Addr} {xs : List V} (h : Ev te σ H (.ref a)) (hx : SqT K H a xs) : ∀ H1, Ex H H1 → ∀ R : It → Hp → Prop, (∀ J H2, Ex H1 H2 → (∃ G, Walk J xs.length G (fun i H3 x H4 => H4 = H3 ∧ xs[i]? = some x) ∧ ∀ H3, Ex H2 H3 → G H3) → R J H2) → iTup K te σ H1 R :=
  fun H1 e R k => h H1 e _ fun H2 e2 => ⟨a, rfl, ⟨xs, ex_t (e.trans e2) hx⟩, k _ H2 e2 ⟨_, walk_tup, fun H3 e3 => ex_t ((e.trans e2).trans e3) hx⟩⟩
theorem wi_any {a : Addr} {xs : List V} {i : Nat} (h : σ[i]? = some (some (.ref a))) (hx : SqA K H a xs) : ∀ H1, Ex H H1 → ∀ R : It → Hp → Prop, (∀ J H2, Ex H1 H2 → (∃ G, Walk J xs.length G (fun i H3 x H4 => H4 = H3 ∧ xs[i]? = some x) ∧ ∀ H3, Ex H2 H3 → G H3) → R J H2) → iAny K i σ H1 R :=
  fun H1 e R k => ⟨a, h, hx.elim (fun z => .inl ⟨⟨xs, ex_l e z⟩, k _ H1 (Ex.refl _) ⟨_, walk_list, fun H3 e3 => ex_l (e.trans e3) z⟩⟩) fun z => .inr ⟨⟨xs, ex_t e z⟩, k _ H1 (Ex.refl _) ⟨_, walk_tup, fun H3 e3 => ex_t (e.trans e3) z⟩⟩⟩
/-- a for over a list or a tuple that stood at H0 -/
theorem s_forA {a : Addr} {xs : List V} {i : Nat} {g : TG} {tu : TS} {D : Ends} {H0 : Hp} (h : σ[i]? = some (some (.ref a))) (hx : SqA K H0 a xs) (Pv : Nat → L2.St → Hp → Prop) (h0 : Pv 0 σ H) (hP : ∀ i σ' H', i ≤ xs.length → Pv i σ' H' → Ex H0 H')
    (hs : ∀ i x σ' H', xs[i]? = some x → Pv i σ' H' → g x σ' H' fun σ2 H2 => tu { D with nx := Pv (i + 1), ct := Pv (i + 1), bk := D.nx } σ2 H2) (hd : ∀ σ' H', Pv xs.length σ' H' → D.nx σ' H') : tFor (iAny K i) g tu D σ H := by
  have e0 := hP 0 σ H (Nat.zero_le _) h0
  rcases hx with z | z
  · exact ⟨a, h, .inl ⟨⟨xs, ex_l e0 z⟩, for_list (K := K) (a := a) (xs := xs) Pv h0 (fun i σ' H' hi p => ex_l (hP i σ' H' hi p) z) hs hd⟩⟩
  · exact ⟨a, h, .inr ⟨⟨xs, ex_t e0 z⟩, for_tup (K := K) (a := a) (xs := xs) Pv h0 (fun i σ' H' hi p => ex_t (hP i σ' H' hi p) z) hs hd⟩⟩
theorem q_forA {a : Addr} {xs : List V} {i : Nat} {g : TG} {tu tz : TS} {D : Ends} {H0 : Hp} (h : σ[i]? = some (some (.ref a))) (hx : SqA K H0 a xs) (Pv : Nat → L2.St → Hp → Prop) (h0 : Pv 0 σ H) (hP : ∀ i σ' H', i ≤ xs.length → Pv i σ' H' → Ex H0 H')
    (hs : ∀ i x σ' H', xs[i]? = some x → Pv i σ' H' → g x σ' H' fun σ2 H2 => tu { D with nx := Pv (i + 1), ct := Pv (i + 1), bk := tz D } σ2 H2) (hd : ∀ σ' H', Pv xs.length σ' H' → tz D σ' H') : tSeq (tFor (iAny K i) g tu) tz D σ H := s_forA (D := { D with nx := tz D }) h hx Pv h0 hP hs hd
/-! ### a dict of the rows' members -/
def rowKeys (a : Addr) (r : List Str) : List (Key × V) := r.map fun m => (Sum.inr m, V.ref a)
def dictOf (as : List Addr) (rows : List (List Str)) : List (Key × V) := (as.zip rows).flatMap fun p => rowKeys p.1 p.2
theorem keys_row (a : Addr) (r : List Str) : (rowKeys a r).map (·.1) = r.map Sum.inr := by simp [rowKeys, List.map_map, Function.comp_def]
theorem keys_dictOf : ∀ (as : List Addr) (rows : List (List Str)), as.length = rows.length → (dictOf as rows).map (·.1) = (rows.flatten).map Sum.inr
  | [], [], _ => rfl
  | [], _ :: _, h => by simp at h
  | _ :: _, [], h => by simp at h
  | a :: as, r :: rows, h => by
    have ih := keys_dictOf as rows (by simpa using h)
    show ((rowKeys a r) ++ dictOf as rows).map (·.1) = _
    rw [List.map_append, keys_row, ih, List.flatten_cons, List.map_append]
theorem not_valV {κ : Type} [DecidableEq κ] {kvs : List (κ × V)} {k : κ} (h : k ∉ kvs.map (·.1)) : valV kvs k = none := by
  cases e : valV kvs k with
  | none => rfl
  | some v => exact absurd (valV_in e) h
theorem paired_get {α β : Type} {F : α → β → Prop} : ∀ {as : List α} {bs : List β}, Paired F as bs → ∀ {i : Nat} (h : i < as.length) (h' : i < bs.length), F as[i] bs[i]
  | _, _, .cons r t, 0, _, _ => r
  | _, _, .cons r t, i + 1, h, h' => paired_get t (Nat.lt_of_succ_lt_succ h) (Nat.lt_of_succ_lt_succ h')
theorem dictOf_snoc {as : List Addr} {rows : List (List Str)} {k : Nat} (h : k < as.length) (h' : k < rows.length) : dictOf (as.take (k + 1)) (rows.take (k + 1)) = dictOf (as.take k) (rows.take k) ++ rowKeys as[k] rows[k] := by
  unfold dictOf
  rw [List.take_succ_eq_append_getElem h, List.take_succ_eq_append_getElem h', List.zip_append (by simp; omega), List.flatMap_append]
  simp
theorem wipe_two {i j : Nat} {x : Option V} : wipe ((wipe σ [i, j]).set i x) [i, j] = wipe σ [i, j] := by
  show ((((σ.set j none).set i none).set i x).set j none).set i none = (σ.set j none).set i none
  rw [List.set_set]
  by_cases h : i = j
  · subst h; simp [List.set_set]
  · rw [List.set_comm _ _ h, List.set_set, List.set_set]
theorem ed_rows {wi : TI} {i j : Nat} (as : List Addr) (rows : List (List Str)) (hr : Paired (fun a xs => SqA K H a (xs.map V.str)) as rows) (nd : rows.flatten.Nodup) (few : rows.flatten.length ≤ 10000) (li : i < σ.length) (lj : j < σ.length) (hij : i ≠ j)
    (hi : ∀ H1, Ex H H1 → ∀ R : It → Hp → Prop, (∀ J H2, Ex H1 H2 → (∃ G, Walk J (as.map V.ref).length G (fun i H3 x H4 => H4 = H3 ∧ (as.map V.ref)[i]? = some x) ∧ ∀ H3, Ex H2 H3 → G H3) → R J H2) → wi σ H1 R) :
    ∀ H1, Ex H H1 → ∀ Q : VK, (∀ p H2, H1 p = none → Ex H1 H2 → H2 p = some (.dK (dictOf as rows)) → Q (.ref p) H2) → tDc2 wi (gName i) (iAny K i) (gName j) (tVar j) (tVar i) [i, j] [j] σ H1 Q := by
  intro H1 e1 Q want
  refine hi H1 e1 _ fun J H2 e2 ⟨G, wk, hG⟩ D hD => ?_
  have hlen : as.length = rows.length := Paired.length hr
  have hn : (as.map V.ref).length = as.length := by simp
  refine ⟨fun k m H3 => m = as.length - k ∧ k ≤ as.length ∧ Ex H2 H3 ∧ H3 D = some (.dK (dictOf (as.take k) (rows.take k))), ⟨as.length, by simp, Nat.zero_le _, Ex.new hD, upd_same⟩, ?_⟩
  rintro k m H3 ⟨rfl, hk, e3, h3⟩
  by_cases hlt : k < as.length
  · refine .inr ⟨wk.goes k H3 (by rw [hn]; exact hlt) (hG H3 e3), fun H4 => Ex H2 H4 ∧ H4 D = some (.dK (dictOf (as.take (k + 1)) (rows.take (k + 1)))), fun H4 p => ⟨as.length - (k + 1), by omega, rfl, hlt, p.1, p.2⟩, fun x H4 y => ?_⟩
    obtain ⟨e4, hx⟩ := wk.yields k H3 x H4 (by rw [hn]; exact hlt) (hG H3 e3) y
    clear y
    subst e4
    rw [List.getElem?_map, List.getElem?_eq_getElem hlt] at hx
    obtain rfl : x = V.ref as[k] := (Option.some.inj hx).symm
    have hlt2 : k < rows.length := by omega
    have hrow : SqA K H as[k] ((rows[k]).map V.str) := paired_get hr hlt hlt2
    have snoc := dictOf_snoc hlt hlt2
    have key : ∀ a : Nat, (ha : a < (rows[k]).length) → (Sum.inr ((rows[k])[a]) : Key) ∉ (dictOf (as.take k) (rows.take k) ++ rowKeys as[k] ((rows[k]).take a)).map (·.1) := by
      intro a ha
      rw [List.map_append, keys_dictOf _ _ (by simp; omega), keys_row]
      have sp : rows.flatten = (rows.take k).flatten ++ ((rows[k]).take a ++ ((rows[k])[a] :: (rows[k]).drop (a + 1))) ++ (rows.drop (k + 1)).flatten := by
        have q1 : (rows[k]).take a ++ ((rows[k])[a] :: (rows[k]).drop (a + 1)) = rows[k] := by
          rw [← List.drop_eq_getElem_cons ha]; exact List.take_append_drop _ _
        rw [q1]
        have q2 : rows = rows.take k ++ (rows[k] :: rows.drop (k + 1)) := by
          rw [← List.drop_eq_getElem_cons hlt2]; exact (List.take_append_drop _ _).symm
        conv => lhs; rw [q2]
        rw [List.flatten_append, List.flatten_cons, List.append_assoc]
      rw [sp] at nd
      have nd1 := (List.nodup_append.mp nd).1
      obtain ⟨_, n2, n3⟩ := List.nodup_append.mp nd1
      obtain ⟨_, _, n5⟩ := List.nodup_append.mp n2
      intro m
      rcases List.mem_append.mp m with m | m
      · obtain ⟨w, hw, e⟩ := List.mem_map.mp m
        cases e
        exact n3 _ hw _ (List.mem_append_right _ (List.mem_cons_self ..)) rfl
      · obtain ⟨w, hw, e⟩ := List.mem_map.mp m
        cases e
        exact n5 _ hw _ (List.mem_cons_self ..) rfl
    have small : ∀ a : Nat, a < (rows[k]).length → (dictOf (as.take k) (rows.take k) ++ rowKeys as[k] ((rows[k]).take a)).length < sizeLine := by
      intro a ha
      have q := congrArg List.length (keys_dictOf (as.take k) (rows.take k) (by simp; omega))
      have q1 : (rows.take k).flatten.length + (rows[k]).length ≤ rows.flatten.length := by
        have q2 : rows = rows.take k ++ (rows[k] :: rows.drop (k + 1)) := by
          rw [← List.drop_eq_getElem_cons hlt2]; exact (List.take_append_drop _ _).symm
        conv => rhs; rw [q2]
        simp only [List.flatten_append, List.flatten_cons, List.length_append]
        omega
      simp only [List.length_map] at q
      rw [List.length_append]
      simp only [rowKeys, List.length_map, List.length_take]
      have : (10000 : Nat) < sizeLine := by decide
      omega
    refine ⟨wipe_two, ?_⟩
    have gi : ((wipe σ [i, j]).set i (some (V.ref as[k])))[i]? = some (some (V.ref as[k])) := List.getElem?_set_self (by rw [wipe_length]; exact li)
    have eH4 : Ex H H4 := (e1.trans e2).trans e3
    have core : ∀ (J1 : It) (G1 : Hp → Prop), Walk J1 (rows[k]).length G1 (fun a H5 x H6 => H6 = H5 ∧ ((rows[k]).map V.str)[a]? = some x) → (∀ H5, Ex H2 H5 → G1 H5) →
        ∃ W1 : Nat → Nat → Hp → Prop, (∃ m, W1 0 m H4) ∧ ∀ a m H5, W1 a m H5 → (J1.stop a H5 ∧ (Ex H2 H5 ∧ H5 D = some (.dK (dictOf (as.take (k + 1)) (rows.take (k + 1)))))) ∨
          (J1.go a H5 ∧ ∃ Nx1 : Hp → Prop, (∀ H', Nx1 H' → ∃ m', m' < m ∧ W1 (a + 1) m' H') ∧ ∀ x H', J1.yld a H5 x H' → gName j x (wipe ((wipe σ [i, j]).set i (some (V.ref as[k]))) [j]) H' fun σ3 H5 => wipe σ3 [j] = wipe ((wipe σ [i, j]).set i (some (V.ref as[k]))) [j] ∧
            tVar j σ3 H5 fun y H7 => tVar i σ3 H7 fun z H8 => ∃ kvs q, y = kV q ∧ H8 D = some (.dK kvs) ∧ kvs.length < sizeLine ∧ Nx1 (upd H8 D (.dK (putK kvs q z)))) := by
      intro J1 G1 wk1 hG1
      refine ⟨fun a m H5 => m = (rows[k]).length - a ∧ a ≤ (rows[k]).length ∧ Ex H2 H5 ∧ H5 D = some (.dK (dictOf (as.take k) (rows.take k) ++ rowKeys as[k] ((rows[k]).take a))), ⟨(rows[k]).length, by simp, Nat.zero_le _, e3, by rw [h3]; simp [rowKeys]⟩, ?_⟩
      rintro a m H5 ⟨rfl, ha, e5, h5⟩
      by_cases hla : a < (rows[k]).length
      · refine .inr ⟨wk1.goes a H5 hla (hG1 H5 e5), _, fun H7 p => ⟨(rows[k]).length - (a + 1), by omega, rfl, hla, p⟩, fun x H7 y => ?_⟩
        obtain ⟨e7, hx7⟩ := wk1.yields a H5 x H7 hla (hG1 H5 e5) y
        clear y
        subst e7
        rw [List.getElem?_map, List.getElem?_eq_getElem hla] at hx7
        obtain rfl : x = V.str ((rows[k])[a]) := (Option.some.inj hx7).symm
        refine ⟨wipe1 _ _ _, V.str ((rows[k])[a]), List.getElem?_set_self (by rw [wipe_length, List.length_set, wipe_length]; exact lj), V.ref as[k], ?_, _, Sum.inr ((rows[k])[a]), rfl, h5, small a hla, ?_, ?_⟩
        · rw [List.getElem?_set_ne (Ne.symm hij)]
          show (((wipe σ [i, j]).set i (some (V.ref as[k]))).set j none)[i]? = _
          rw [List.getElem?_set_ne (Ne.symm hij)]
          exact gi
        · exact Ex.mut e5 hD
        · rw [upd_same, putK_new _ (not_valV (key a hla)), List.append_assoc]
          congr 3
          unfold rowKeys
          rw [List.take_succ_eq_append_getElem hla, List.map_append]
          rfl
      · have ea : a = (rows[k]).length := by omega
        subst ea
        refine .inl ⟨wk1.stops H5 (hG1 H5 e5), e5, ?_⟩
        rw [h5, List.take_length, snoc]
    rcases hrow with z | z
    · exact ⟨as[k], gi, .inl ⟨⟨_, ex_l eH4 z⟩, core _ _ (by have q := walk_list (K := K) (a := as[k]) (xs := (rows[k]).map V.str); rw [List.length_map] at q; exact q) fun H5 e5 => ex_l ((e1.trans e2).trans e5) z⟩⟩
    · exact ⟨as[k], gi, .inr ⟨⟨_, ex_t eH4 z⟩, core _ _ (by have q := walk_tup (K := K) (a := as[k]) (xs := (rows[k]).map V.str); rw [List.length_map] at q; exact q) fun H5 e5 => ex_t ((e1.trans e2).trans e5) z⟩⟩
  · have ek : k = as.length := by omega
    subst ek
    refine .inl ⟨by rw [← hn]; exact wk.stops H3 (hG H3 e3), ?_⟩
    refine want D H3 (fresh_back e2 hD) (e2.trans e3) ?_
    rw [h3, List.take_length, hlen, List.take_length]
end
end My
namespace My
open PySem PySem.Spec PyProof.Rows L2 Evl
theorem el_is {te : TE} {σ : L2.St} {H : Hp} {xs ys : List V} (h : EvL te σ H xs) (e : xs = ys) : EvL te σ H ys := by rw [← e]; exact h
end My

namespace My
open PySem PySem.Spec PyProof.Rows L2 Evl
section
variable {K : PySem.W.Frag} {σ : L2.St} {H : Hp} {te : TE}
/-- a method of a text -/
theorem ev_bmS {w : Str} {z : V} {r : V → List V → Hp → VK → Prop} {ta : TA} {vs : List V} (h : Ev te σ H (.str w)) (ha : EvA ta σ H vs) (hr : RC (r (.str w)) vs H z) : Ev (tBM K "str" r te ta) σ H z := fun H1 e Q q =>
  h H1 e _ fun H2 e2 => ⟨rfl, ha H2 (e.trans e2) _ fun H3 e3 => hr H3 ((e.trans e2).trans e3) Q fun H4 e4 => q H4 ((e2.trans e3).trans e4)⟩
theorem ev_slS {w : Str} {tl th : TO} {lo hi : Option Int} (h : Ev te σ H (.str w)) (h1 : EvO tl σ H lo) (h2 : EvO th σ H hi) (hz : w.length ≤ sizeLine) : Ev (tSl rSlS te tl th) σ H (.str (cutS w lo hi)) := fun H1 e Q q =>
  h H1 e _ fun H2 e2 => h1 H2 (e.trans e2) _ fun H3 e3 => h2 H3 ((e.trans e2).trans e3) _ fun H4 e4 => ⟨w, rfl, hz, q H4 ((e2.trans e3).trans e4)⟩
end
end My
namespace My
open PySem PySem.Spec PyProof.Rows L2 Evl
section
variable {K : PySem.W.Frag} {σ : L2.St} {H : Hp} {te : TE}
theorem inV_strs (m : Str) : ∀ ps : List Str, inV (.str m) (ps.map V.str) = decide (m ∈ ps)
  | [] => by simp [inV]
  | p :: ps => by
    have ih := inV_strs m ps
    show (eqV (.str p) (.str m) || inV (.str m) (ps.map V.str)) = _
    rw [ih]
    show ((p == m) || decide (m ∈ ps)) = _
    by_cases h : p = m
    · subst h; simp
    · have h' : ¬ m = p := fun e => h e.symm
      simp [h, h']
theorem flat_strs (ps : List Str) : (ps.map V.str).all flatV = true := by
  rw [List.all_map, List.all_eq_true]
  intro x _
  rfl
theorem rv_inA {neg : Bool} {p : Addr} {xs : List V} {x : V} (h : SqA K H p xs) (hx : flatV x = true) (ha : xs.all flatV = true) : RV (rIn K neg) x (.ref p) H (.bl (if neg then !inV x xs else inV x xs)) :=
  fun H1 e _ q => ⟨p, xs, rfl, (h.ex e), hx, ha, q H1 (Ex.refl H1)⟩
theorem rv_inStr {p : Addr} {ps : List Str} {m : Str} (h : SqA K H p (ps.map V.str)) : RV (rIn K false) (.str m) (.ref p) H (.bl (decide (m ∈ ps))) := by
  have q := rv_inA (neg := false) (x := .str m) h rfl (flat_strs ps)
  rw [inV_strs] at q
  exact q
theorem rv_niStr {p : Addr} {ps : List Str} {m : Str} (h : SqA K H p (ps.map V.str)) : RV (rIn K true) (.str m) (.ref p) H (.bl (decide (m ∉ ps))) := by
  have q := rv_inA (neg := true) (x := .str m) h rfl (flat_strs ps)
  rw [inV_strs] at q
  by_cases z : m ∈ ps
  · simpa [z] using q
  · simpa [z] using q
theorem rv_sin {P : Program} {w : World} {a : Addr} {S : Key → Bool} {n : Nat} {k : Key} (h : H a = some (SetK P w a S n)) : RV (rSInK P w false) (kV k) (.ref a) H (.bl (S k)) := fun H1 e _ q => ⟨k, a, S, n, rfl, rfl, e _ _ h, q H1 (Ex.refl H1)⟩
theorem et_truL {p : Addr} {xs : List V} (h : Ev te σ H (.ref p)) (hp : H p = some (.lst xs)) : EvT (fun σ H Q => te σ H fun x H' => ∃ k, TruV K x H' k ∧ Q k H') σ H (!xs.isEmpty) := fun H1 e _ q => h H1 e _ fun H2 e2 => ⟨_, .inl ⟨xs, SqL.of ((e.trans e2) _ _ hp), rfl⟩, q H2 e2⟩
theorem ev_lenA {p : Addr} {xs : List V} (ha : Ev te σ H (.ref p)) (h : SqA K H p xs) : Ev (tCB (rLenS K) (tCons te tNil)) σ H (.int (xs.length : Int)) := fun H1 e Q q =>
  ha H1 e _ fun H2 e2 => ⟨p, xs, rfl, h.ex (e.trans e2), q H2 e2⟩
end
end My

namespace My
open PySem PySem.Spec PyProof.Rows L2 Evl
section
variable {K : PySem.W.Frag} {σ : L2.St} {H H' : Hp} {ta tb te tx td ty : TE} {t u : TT} {x y z v : V} {D : Ends} {tz : TS}
theorem given_filter {ps : List Str} {p : Str → Bool} : given ps.length (fun i => p (ps.getD i "")) (fun i => V.str (ps.getD i "")) = (ps.filter p).map V.str := by
  have e : (List.range ps.length).map (fun i => ps.getD i "") = ps := by
    apply List.ext_getElem
    · simp
    · intro i h1 h2
      simp [List.getD_eq_getElem?_getD, List.getElem?_eq_getElem h2]
  unfold given
  conv => rhs; rw [← e, List.filter_map, List.map_map]
  rfl
/-- the names of a sequence that pass a test -/
theorem el_filtW {wi : TI} {j : Nat} {vs : List Nat} {ps : List Str} (p : Str → Bool) (hn : ps.length ≤ 40000) (lj : j < σ.length)
    (hi : ∀ H1, Ex H H1 → ∀ R : It → Hp → Prop, (∀ J H2, Ex H1 H2 → (∃ G, Walk J (ps.map V.str).length G (fun i H3 x H4 => H4 = H3 ∧ (ps.map V.str)[i]? = some x) ∧ ∀ H3, Ex H2 H3 → G H3) → R J H2) → wi σ H1 R)
    (hw : ∀ x, wipe ((wipe σ vs).set j (some x)) vs = wipe σ vs)
    (ht : ∀ m ∈ ps, ∀ H1, Ex H H1 → EvT t ((wipe σ vs).set j (some (.str m))) H1 (p m)) :
    EvL (tLc wi (gName j) t (tVar j) vs) σ H ((ps.filter p).map V.str) := by
  rw [← given_filter]
  refine el_lcW (n := ps.length) (fun i => p (ps.getD i "")) (fun i => V.str (ps.getD i "")) hn (fun i x => (ps.map V.str)[i]? = some x) (by rw [← List.length_map (f := V.str)]; exact hi) hw (fun i x H1 e1 hlt hx => ?_) (fun i x H1 e1 hlt hx _ => ?_)
  all_goals
    rw [List.getElem?_map, List.getElem?_eq_getElem hlt] at hx
    obtain rfl : x = V.str ps[i] := (Option.some.inj hx).symm
    rw [List.getD_eq_getElem?_getD, List.getElem?_eq_getElem hlt]
  · exact ht _ (List.getElem_mem hlt) H1 e1
  · exact ev_var (by rw [List.getElem?_set_self (by rw [wipe_length]; exact lj)]; rfl)
theorem el_filtA {i j : Nat} {vs : List Nat} {ps : List Str} {a : Addr} (p : Str → Bool) (h : σ[i]? = some (some (.ref a))) (hx : SqA K H a (ps.map V.str)) (hn : ps.length ≤ 40000) (lj : j < σ.length)
    (hw : ∀ x, wipe ((wipe σ vs).set j (some x)) vs = wipe σ vs) (ht : ∀ m ∈ ps, ∀ H1, Ex H H1 → EvT t ((wipe σ vs).set j (some (.str m))) H1 (p m)) :
    EvL (tLc (iAny K i) (gName j) t (tVar j) vs) σ H ((ps.filter p).map V.str) := el_filtW p hn lj (wi_any h hx) hw ht
theorem isD_of {a : Addr} {kvs : List (Key × V)} (h : H a = some (.dK kvs)) : IsD H a := .inl ⟨kvs, .inl h⟩
/-- d.get(k, [..]) -/
theorem w_dget2L {a : Addr} {kvs : List (Key × V)} {k : Key} {xs : List V} {Q : VK} (hd : Ev td σ H (.ref a)) (h : H a = some (.dK kvs)) (hy : Ev ty σ H (kV k)) (hx : EvL tx σ H xs)
    (q1 : ∀ v, valV kvs k = some v → ∀ H', Ex H H' → Q v H') (q2 : valV kvs k = none → ∀ p H', H p = none → Ex H H' → H' p = some (.lst xs) → Q (.ref p) H') : tDGet2 td ty tx σ H Q :=
  hd H (Ex.refl H) _ fun H1 e1 => ⟨a, rfl, isD_of (e1 _ _ h), hy H1 e1 _ fun H2 e2 => hx H2 (e1.trans e2) _ fun p H3 hp e3 h3 => by
    have e := (e1.trans e2).trans e3
    refine ⟨valV kvs k, DGet.k (e _ _ h), ?_⟩
    cases hv : valV kvs k with
    | some v => exact q1 v hv H3 e
    | none => exact q2 hv p H3 (fresh_back (e1.trans e2) hp) e h3⟩
/-- tuple(a new list), tuple(a list) -/
theorem eu_tupL {xs : List V} (h : EvL te σ H xs) : EvU (tCB (rTupS K) (tCons te tNil)) σ H xs := fun H1 e Q q =>
  h H1 e _ fun p H2 _ e2 h2 => ⟨p, xs, rfl, .inl ⟨SqL.of h2, fun l hl => q l _ (fresh_back e2 hl) (e2.trans (Ex.new hl)) upd_same⟩⟩
theorem eu_tupR {a : Addr} {xs : List V} (h : Ev te σ H (.ref a)) (ha : SqL K H a xs) : EvU (tCB (rTupS K) (tCons te tNil)) σ H xs := fun H1 e Q q =>
  h H1 e _ fun H2 e2 => ⟨a, xs, rfl, .inl ⟨ex_l (e.trans e2) ha, fun l hl => q l _ (fresh_back e2 hl) (e2.trans (Ex.new hl)) upd_same⟩⟩
/-- a list and a list -/
theorem el_cat {a b : Addr} {xs zs : List V} (ha : Ev ta σ H (.ref a)) (hb : Ev tb σ H (.ref b)) (h1 : H a = some (.lst xs)) (h2 : H b = some (.lst zs)) (hz : xs.length + zs.length ≤ 100000) : EvL (tOp rCat ta tb) σ H (xs ++ zs) := fun H1 e Q q =>
  ha H1 e _ fun H2 e2 => hb H2 (e.trans e2) _ fun H3 e3 => ⟨a, b, xs, zs, rfl, rfl, ((e.trans e2).trans e3) _ _ h1, ((e.trans e2).trans e3) _ _ h2, sz_of hz, fun p hp => q p _ (fresh_back (e2.trans e3) hp) ((e2.trans e3).trans (Ex.new hp)) upd_same⟩
end
/-- rows that are found -/
theorem val_rows {F : Addr → List Str → Prop} (p : Str) : ∀ {as : List Addr} {rows : List (List Str)}, Paired F as rows →
    (valV (dictOf as rows) (.inr p) = none ∧ rows.find? (fun b => decide (p ∈ b)) = none) ∨ ∃ a row, valV (dictOf as rows) (.inr p) = some (.ref a) ∧ rows.find? (fun b => decide (p ∈ b)) = some row ∧ F a row
  | _, _, .nil => .inl ⟨rfl, rfl⟩
  | a :: as, r :: rows, .cons h t => by
    have e : dictOf (a :: as) (r :: rows) = rowKeys a r ++ dictOf as rows := rfl
    by_cases hp : p ∈ r
    · refine .inr ⟨a, r, ?_, by rw [List.find?_cons, decide_eq_true hp], h⟩
      rw [e]
      unfold valV
      rw [List.find?_append]
      have q : ((rowKeys a r).find? fun kv => decide (kv.1 = Sum.inr p)) = some (Sum.inr p, V.ref a) := by
        unfold rowKeys
        rw [List.find?_map]
        have z : r.find? ((fun kv : Key × V => decide (kv.1 = Sum.inr p)) ∘ fun m => (Sum.inr m, V.ref a)) = some p := by
          rw [List.find?_eq_some_iff_append]
          obtain ⟨s, u, hs, hn⟩ := List.append_of_mem hp |> fun ⟨s, u, h⟩ => (⟨_, _, List.eq_append_cons_of_mem hp |>.choose_spec.choose_spec.1, (List.eq_append_cons_of_mem hp).choose_spec.choose_spec.2⟩ : ∃ s u, r = s ++ p :: u ∧ p ∉ s)
          exact ⟨by simp, s, u, hs, fun m hm => by
            simp only [Function.comp, Bool.not_eq_true', decide_eq_false_iff_not]
            intro z
            cases z
            exact hn hm⟩
        rw [z]
        rfl
      rw [q]
      rfl
    · have none_here : valV (rowKeys a r) (.inr p) = none := not_valV (by
        rw [keys_row]
        intro z
        obtain ⟨w, hw, e⟩ := List.mem_map.mp z
        cases e
        exact hp hw)
      have ee : valV (dictOf (a :: as) (r :: rows)) (.inr p) = valV (dictOf as rows) (.inr p) := by
        rw [e]
        unfold valV at none_here ⊢
        rw [List.find?_append]
        have := Option.map_eq_none_iff.mp none_here
        rw [this]
        rfl
      rw [ee, List.find?_cons, decide_eq_false hp]
      exact val_rows p t
/-! ### join -/
def rJoin (K : PySem.W.Frag) : V → List V → Hp → VK → Prop := fun x xs H Q => ∃ a p, ∃ ys : List Str, x = .str a ∧ xs = [.ref p] ∧ (SqL K H p (ys.map V.str) ∨ SqT K H p (ys.map V.str)) ∧
    (ys.map (·.length)).sum + ys.length * a.length ≤ 16777216 ∧ Q (.str (Txt.join a ys)) H
theorem mtJoinK {X : Cx} (K : PySem.W.Frag) (h : X.K = K := by rfl) : MtR X "str.join" (rJoin K) := by subst h; exact mt_join
section
variable {K : PySem.W.Frag} {σ : L2.St} {H : Hp} {te to : TE}
theorem ev_joinL {a : Str} {ys : List Str} (ha : Ev to σ H (.str a)) (h : EvL te σ H (ys.map V.str)) (few : (ys.map (·.length)).sum + ys.length * a.length ≤ 16777216) : Ev (tBM K "str" (rJoin K) to (tCons te tNil)) σ H (.str (Txt.join a ys)) := fun H1 e Q q =>
  ha H1 e _ fun H2 e2 => ⟨rfl, h H2 (e.trans e2) _ fun p H3 _ e3 h3 => ⟨a, p, ys, rfl, rfl, .inl (SqL.of h3), few, q H3 (e2.trans e3)⟩⟩
theorem ev_joinA {a : Str} {ys : List Str} {p : Addr} (ha : Ev to σ H (.str a)) (h : Ev te σ H (.ref p)) (hx : SqA K H p (ys.map V.str)) (few : (ys.map (·.length)).sum + ys.length * a.length ≤ 16777216) : Ev (tBM K "str" (rJoin K) to (tCons te tNil)) σ H (.str (Txt.join a ys)) := fun H1 e Q q =>
  ha H1 e _ fun H2 e2 => ⟨rfl, h H2 (e.trans e2) _ fun H3 e3 => ⟨a, p, ys, rfl, rfl, hx.ex ((e.trans e2).trans e3), few, q H3 (e2.trans e3)⟩⟩
end
theorem sum_le {n : Nat} : ∀ {l : List Nat}, (∀ x ∈ l, x ≤ n) → l.sum ≤ l.length * n
  | [], _ => Nat.zero_le _
  | a :: t, h => by
    have := sum_le (l := t) fun x hx => h x (List.mem_cons_of_mem _ hx)
    have h0 := h a (List.mem_cons_self ..)
    rw [List.sum_cons, List.length_cons, Nat.succ_mul]
    omega
theorem app_len (x y : Str) : (x ++ y).length = x.length + y.length := by
  show (x.cps ++ y.cps).size = _
  rw [Array.size_append]
  rfl
theorem join_len0 (y : Str) : ∀ ys : List Str, (Str.join y ys).length ≤ (ys.map (·.length)).sum + ys.length * y.length
  | [] => Nat.zero_le _
  | [x] => by
    show x.length ≤ _
    simp
  | x :: z :: r => by
    have ih := join_len0 y (z :: r)
    show (x ++ y ++ Str.join y (z :: r)).length ≤ _
    rw [app_len, app_len, List.map_cons, List.sum_cons, List.length_cons, Nat.succ_mul]
    omega
theorem join_len (y : Str) (ys : List Str) : (Txt.join y ys).length ≤ (ys.map (·.length)).sum + ys.length * y.length := by
  rw [TL.join_eq]
  exact join_len0 y ys
theorem lens_sum {ys : List Str} {n : Nat} (h : ∀ m ∈ ys, m.length ≤ n) : (ys.map (·.length)).sum ≤ ys.length * n := by
  have := sum_le (l := ys.map (·.length)) (n := n) (fun x hx => by
    obtain ⟨m, hm, rfl⟩ := List.mem_map.mp hx
    exact h m hm)
  rwa [List.length_map] at this
/-- a comprehension over the rows of a list or tuple, each row's text -/
theorem given_map {n : Nat} {v : Nat → V} : given n (fun _ => true) v = (List.range n).map v := by
  unfold given
  congr 1
  exact List.filter_eq_self.mpr fun _ _ => rfl
end My

namespace My
open PySem PySem.Spec PyProof.Rows L2
/-! ### an instance's own special methods -/
/-- the class at C has the def f under the name m -/
structure Own (K : PySem.W.Frag) (C : Addr) (m : Str) (f : Addr) : Prop where
  at_ : PySem.W.findIn K (.ref C) m = some (some (.ref f))
  fn : PySem.W.isFn K (.ref f) = true
section
variable {X : Cx} {CX : CXT} {n : Nat} {f C : Addr} {fd : FuncData} {ps : List Str} {sp : Sp} {E : XK} {A : Around}
theorem run_in {pins : List (Addr × Obj)} {σ : L2.St} {H : Hp} {s : Shared} {Q : VK} {us : List Value} {vs : List V} (F : FnOk X.prog X.w X.K X.mg X.base CX n f fd ps sp) (room : Room n A) (fr : A.frames = X.A.frames) (hb : Binds X.K fd ps []) (hx : Passes CX X E)
    (I : Inv X pins σ H s) (r : Vals vs us) (h : sp vs H Q E) : wpAny (model X.prog X.w) A (call (.ref f) us) (EP X pins σ Q) X.xe s := by
  have e0 : Env0 X.prog X.w X.K X.mg X.base A X.stack s H := by
    have e := I.env0
    exact ⟨by rw [fr]; exact e.frames, e.mod, e.bs, e.bsz, e.funs, e.frf, e.hok, e.bare⟩
  have hl := F.len _ _ _ _ h
  refine wpAny_call (codeAny_mono (F.run A X.stack s H ⟨us, []⟩ us vs Q E room e0 (by
    have z := hb s us I.kIn (by rw [List.append_nil, ← r.length]; exact hl)
    rw [List.append_nil] at z
    exact z) r h) fun r s' hq => ?_)
  cases r with
  | error e => exact hx pins σ H s e s' I hq
  | ok fl =>
    cases fl with
    | ret u => exact I.after hq
    | next => exact False.elim hq
    | brk => exact False.elim hq
    | cont => exact False.elim hq
/-- len(o) -/
def rLenO (C : Addr) (sp : Sp) (E : XK) : List V → Hp → VK → Prop := fun xs H Q => ∃ (a dx : Addr) (fs : List (Str × V)), xs = [.ref a] ∧ H a = some (.ins C dx fs) ∧ sp [.ref a] H (fun v H' => ∃ i : Int, v = .int i ∧ (0 ≤ i ∧ i < 2 ^ 63) ∧ Q (.int i) H') E
theorem call_lenO (o : Own X.K C "__len__" f) (F : FnOk X.prog X.w X.K X.mg X.base CX n f fd ps sp) (hr : Room (n + 1) X.A) (hb : Binds X.K fd ps []) (hx : Passes CX X E) : CallR X (.builtin "len") (rLenO C sp E) := by
  intro pins s σ H xs us Q I r h
  obtain ⟨a, dx, fs, rfl, ha, q⟩ := h
  obtain ⟨u, rfl, ru⟩ := vals1 r
  cases (show u = Value.ref a from ru)
  obtain ⟨mA, J, _⟩ := ins_get I.hok ha
  obtain ⟨od, J, _⟩ := J.look
  obtain ⟨m, hF⟩ := I.fr
  refine PySem.W.len_K hF I.ok.mod.kin J o.at_ o.fn (wpAny_mono (run_in F hr.in1 rfl hb hx I r q) (fun v s' hv => ?_) fun _ _ z => z)
  obtain ⟨x, H', I', rx, i, rfl, hi, hq⟩ := hv
  obtain ⟨t, rfl⟩ := rx
  exact ⟨hi, .int i, H', I'.tok _, ⟨_, rfl⟩, hq⟩
/-- str(o) -/
def rStrO (C : Addr) (sp : Sp) (E : XK) : List V → Hp → VK → Prop := fun xs H Q => ∃ (a dx : Addr) (fs : List (Str × V)), xs = [.ref a] ∧ H a = some (.ins C dx fs) ∧ sp [.ref a] H (fun v H' => ∃ y : Str, v = .str y ∧ Q (.str y) H') E
theorem call_strO (o : Own X.K C "__str__" f) (F : FnOk X.prog X.w X.K X.mg X.base CX n f fd ps sp) (hr : Room (n + 2) X.A) (hb : Binds X.K fd ps []) (hx : Passes CX X E) : CallR X (.type "str") (rStrO C sp E) := by
  intro pins s σ H xs us Q I r h
  obtain ⟨a, dx, fs, rfl, ha, q⟩ := h
  obtain ⟨u, rfl, ru⟩ := vals1 r
  cases (show u = Value.ref a from ru)
  obtain ⟨mA, J, _⟩ := ins_get I.hok ha
  obtain ⟨od, J, _⟩ := J.look
  have r2 : Room n X.A.in1.in1 := hr.in1.in1
  refine PySem.W.kso_call r2.units0 I.kIn J o.at_ o.fn (wpAny_mono (run_in F r2 rfl hb hx I r q) (fun v s' hv => ?_) fun _ _ z => z)
  obtain ⟨x, H', I', rx, y, rfl, hq⟩ := hv
  obtain ⟨t, rfl⟩ := rx
  exact ⟨.str y, H', I', ⟨_, rfl⟩, hq⟩
end
end My

namespace My
open PySem PySem.Spec PyProof.Rows L2 Evl
/-! ### list(d.values()) -/
def tListVals (te : TE) : TE := fun σ H Q => te σ H fun x H1 => ∃ (d : Addr) (kvs : List (Key × V)), x = .ref d ∧ H1 d = some (.dK kvs) ∧ ∀ p, H1 p = none → Q (.ref p) (upd H1 p (.lst (kvs.map (·.2))))
theorem vals_of_kv : ∀ {kvs : List (Key × V)} {vs : List (Key × Value)}, KV kvs vs → Vals (kvs.map (·.2)) (vs.map (·.2))
  | _, _, .nil => .nil
  | _, _, .cons h t => .cons h.2 (vals_of_kv t)
section
variable {X : Cx} {e : Expr} {te : TE} {p apos cpos pos : Pos}
theorem pe_listVals (calm : X.calm = true) (he : PE X e te) (hg : Gl X "list") (hm : X.mg "list" = none) (base : attributeBase e "values" X.env (eval e X.env) = eval e X.env := by rfl) (row : (apos.endLine == cpos.line) = true := by rfl)
    (each : starEach [.Call (.Attribute e "values" apos) [] [] cpos] X.env = (false, eval (.Call (.Attribute e "values" apos) [] [] cpos) X.env) :: starEach [] X.env := by rfl) :
    PE X (.Call (.Name "list" p) [.Call (.Attribute e "values" apos) [] [] cpos] [] pos) (tListVals te) := by
  constructor; intro pins s σ H Q I want
  refine wpAny_Call_Name_kw (ld_blt I hg hm boot_list ?_)
  refine PyProof.Rows.callWith_type1 ?_ each rfl
  rw [each]
  show wpAny _ _ (spliced ((false, eval (.Call (.Attribute e "values" apos) [] [] cpos) X.env) :: backTo pos (starEach [] X.env))) _ _ s
  refine Calls.spliced_cons ?_
  refine wpAny_Call_method (T := "dict") (id := "dict.values") base rfl row F.plainAttrs_dict F.slot_dict_values F.type_dict_values (thn (he.run pins s σ H _ I want) fun u s1 ⟨x, H1, I1, rx, d, kvs, ex, hd, q⟩ => ?_)
  subst ex
  cases (show u = Value.ref d from rx)
  obtain ⟨few, low, vs, kv, hdo⟩ := I1.hok d _ hd
  obtain ⟨ep, hat⟩ := hdo.dictAt
  have lk : kvs.length = vs.length := Paired.length kv
  have I2 : Inv X pins σ H1 { s1 with heap := s1.heap.push { cls := .type "dict_values", data := .fields #[.ref d] } } := I1.kept (t' := s1.toks) fun b ob z => Heap.get?_push_of_some _ z
  refine ⟨hdo.typeIs, hdo.mapOf.noDict, ?_⟩
  show wpAny _ _ (callWith cpos (.builtin "dict.values") [.ref d] [] []) _ X.xe s1
  refine method_meetsIn F.slot_dict_values F.entry_dict_values rfl (PySem.evalArgs_none ⟨rfl, hdo.typeIs, F.args_dict_values_1 _, _, meets_dict_values (mixKind X.prog X.w) d low, ⟨vs, hdo⟩, ?_⟩)
  refine Calls.spliced_nil ?_
  refine PySem.W.kdl_call (PySem.W.kdl_values (knd := mixKind X.prog X.w) (kvs := vs) (ep := ep)) (I1.ok.hd calm) ⟨⟨_, Heap.get?_push_size _ rfl, rfl, rfl⟩, hat.push _⟩ (by omega) fun h' tk acc c keep hS got => ?_
  have eq : acc.toList = vs.map (·.2) := PySem.W.kdl_vals_eq acc.toList (by rw [Array.length_toList, got.1]) fun j v hj => got.2 j v (by rw [← Array.getElem?_toList]; exact hj)
  refine ⟨.ref _, upd H1 _ (.lst (kvs.map (·.2))), I2.laid (t' := tk) keep (Nat.le_refl _) (show ObjOk X.prog X.w _ _ _ (.lst (kvs.map (·.2))) from ⟨?_, acc.toList, c, ?_, ?_⟩), rfl, q _ (I2.hok.fresh (Nat.le_refl _))⟩
  · rw [List.length_map]; omega
  · rw [eq]; exact vals_of_kv kv
  · rw [Array.toArray_toList]; exact hS
end
section
variable {σ : L2.St} {H : Hp} {te : TE}
theorem el_vals {d : Addr} {kvs : List (Key × V)} (h : Ev te σ H (.ref d)) (hd : H d = some (.dK kvs)) : EvL (tListVals te) σ H (kvs.map (·.2)) := fun H1 e1 Q q =>
  h H1 e1 _ fun H2 e2 => ⟨d, kvs, rfl, (e1.trans e2) _ _ hd, fun p hp => q p _ (fresh_back e2 hp) (e2.trans (Ex.new hp)) upd_same⟩
end
end My

namespace My
open PySem PySem.Spec PyProof.Rows L2 Evl
section
variable {K : PySem.W.Frag} {σ : L2.St} {H : Hp} {te : TE} {ta : TA} {j : Nat} {vs : List Nat} {Q : VK}
/-- a comprehension over range(n) whose element may change things: Pv by the list, the turn and the heap -/
theorem w_lcR {n : Nat} (h : EvA ta σ H [.int (n : Int)]) (hn : n ≤ 40000) (hw : ∀ x, wipe ((wipe σ vs).set j (some x)) vs = wipe σ vs) (Pv : Addr → Nat → Hp → Prop) (h0 : ∀ D H1, Ex H H1 → H1 D = none → Pv D 0 (upd H1 D (.lst [])))
    (hs : ∀ D i H', i < n → Pv D i H' → te ((wipe σ vs).set j (some (.int (i : Int)))) H' fun y H4 => ∃ acc, H4 D = some (.lst acc) ∧ acc.length < sizeLine ∧ Pv D (i + 1) (upd H4 D (.lst (acc ++ [y])))) (hd : ∀ D H', Pv D n H' → Q (.ref D) H') :
    tLc (iRng1 ta) (gName j) tYes te vs σ H Q := h H (Ex.refl H) _ fun H1 e1 => ⟨(n : Int), rfl, by omega, by omega, fun D hD =>
  lc_range (lo := 0) (n := (n : Int).toNat) (Pv D) (h0 D H1 e1 hD) (fun i H' hi p => by
    have e0 : (0 : Int) + (i : Int) = (i : Int) := Int.zero_add _
    show wipe ((wipe σ vs).set j (some (.int ((0 : Int) + (i : Int))))) vs = wipe σ vs ∧ (if true = true then te ((wipe σ vs).set j (some (.int ((0 : Int) + (i : Int))))) H' fun y H4 => ∃ acc, H4 D = some (.lst acc) ∧ acc.length < sizeLine ∧ Pv D (i + 1) (upd H4 D (.lst (acc ++ [y]))) else Pv D (i + 1) H')
    rw [e0, if_pos rfl]
    exact ⟨hw _, hs D i H' (by omega) p⟩) (fun H' p => hd D H' (by simpa using p))⟩
end
/-- labels: where the same number stands first -/
def labOf (ds : List Int) (d : Int) : Nat := ds.findIdx fun z => decide (z = d)
structure LabOk (count : Nat) (ls : List Nat) : Prop where
  n : ls.length = count
  le : ∀ k, k < count → ls.getD k 0 ≤ k
  id : ∀ k, k < count → ls.getD (ls.getD k 0) 0 = ls.getD k 0
theorem lab_at {ds : List Int} {k : Nat} (h : k < ds.length) : labOf ds ds[k] ≤ k := by
  rcases Nat.lt_or_ge k (labOf ds ds[k]) with z | z
  · exact absurd (List.not_of_lt_findIdx z) (by simp)
  · exact z
theorem lab_in {ds : List Int} {k : Nat} (h : k < ds.length) : ∃ h' : labOf ds ds[k] < ds.length, ds[labOf ds ds[k]] = ds[k] := by
  have h' : labOf ds ds[k] < ds.length := Nat.lt_of_le_of_lt (lab_at h) h
  have q := List.findIdx_getElem (xs := ds) (p := fun z => decide (z = ds[k])) (w := h')
  exact ⟨h', of_decide_eq_true q⟩
theorem labels_ok (ds : List Int) : LabOk ds.length (ds.map (labOf ds)) := by
  have g : ∀ k (h : k < ds.length), (ds.map (labOf ds)).getD k 0 = labOf ds ds[k] := fun k h => by
    simp [List.getD_eq_getElem?_getD, List.getElem?_map, List.getElem?_eq_getElem h]
  refine ⟨by simp, fun k h => by rw [g k h]; exact lab_at h, fun k h => ?_⟩
  obtain ⟨h', e⟩ := lab_in h
  rw [g k h, g _ h', e]
/-- the index of an int in a list of ints -/
theorem rv_idx {K : PySem.W.Frag} {H : Hp} {a : Addr} {ds : List Int} {d : Int} {Q : VK} (h : SqL K H a (ds.map V.int)) (hd : d ∈ ds) (q : Q (.int (labOf ds d : Nat)) H) : rIndex K (.ref a) [.int d] H Q := by
  have lt : labOf ds d < ds.length := List.findIdx_lt_length_of_exists ⟨d, hd, by simp⟩
  have at_ := List.findIdx_getElem (xs := ds) (p := fun z => decide (z = d)) (w := lt)
  refine ⟨a, ds.map V.int, .int d, labOf ds d, .int ds[labOf ds d], rfl, rfl, h, rfl, ?_, ?_, ?_, fun m z hm hz => ?_, q⟩
  · rw [List.all_map, List.all_eq_true]; intro x _; rfl
  · rw [List.getElem?_map, List.getElem?_eq_getElem lt]; rfl
  · exact beq_iff_eq.mpr (of_decide_eq_true at_)
  · have lm : m < ds.length := Nat.lt_trans hm lt
    rw [List.getElem?_map, List.getElem?_eq_getElem lm] at hz
    obtain rfl : z = V.int ds[m] := (Option.some.inj hz).symm
    have := List.not_of_lt_findIdx hm
    exact beq_eq_false_iff_ne.mpr (by simpa using this)
theorem ev_idx {K : PySem.W.Frag} {σ : L2.St} {H : Hp} {to te : TE} {a : Addr} {ds : List Int} {d : Int} (ho : Ev to σ H (.ref a)) (he : Ev te σ H (.int d)) (h : SqL K H a (ds.map V.int)) (hd : d ∈ ds) : Ev (tBM K "list" (rIndex K) to (tCons te tNil)) σ H (.int (labOf ds d : Nat)) := fun H1 e Q q =>
  ho H1 e _ fun H2 e2 => ⟨Or.inl ⟨rfl, _, ex_l (e.trans e2) h⟩, he H2 (e.trans e2) _ fun H3 e3 => rv_idx (ex_l ((e.trans e2).trans e3) h) hd (q H3 (e2.trans e3))⟩
end My
namespace My
open PySem PySem.Spec PyProof.Rows L2 Evl
section
variable {K : PySem.W.Frag} {σ : L2.St} {H : Hp} {te ta tb td ty tv : TE} {t u : TT} {D : Ends} {tz : TS}
theorem w_and {a : Bool} {Q : Bool → Hp → Prop} (h : EvT t σ H a) (k1 : a = true → ∀ H1, Ex H H1 → u σ H1 Q) (k2 : a = false → ∀ H1, Ex H H1 → Q false H1) : tAnd t u σ H Q := h H (Ex.refl H) _ fun H1 e1 => by
  cases a with
  | true => exact k1 rfl H1 e1
  | false => exact k2 rfl H1 e1
theorem w_or {a : Bool} {Q : Bool → Hp → Prop} (h : EvT t σ H a) (k1 : a = true → ∀ H1, Ex H H1 → Q true H1) (k2 : a = false → ∀ H1, Ex H H1 → u σ H1 Q) : tOr t u σ H Q := h H (Ex.refl H) _ fun H1 e1 => by
  cases a with
  | true => exact k1 rfl H1 e1
  | false => exact k2 rfl H1 e1
theorem dp_strs {H : Hp} : ∀ cs : List Str, DpAll K H (cs.map V.str) (cs.map PyData.str)
  | [] => .nil
  | c :: cs => .cons (.str c) (dp_strs cs)
theorem lay_strs : ∀ cs : List Str, (∀ c ∈ cs, PyData.strOk c = true) → PyData.canLayAll0 (cs.map PyData.str) = true
  | [], _ => rfl
  | c :: t, h => by simp [PyData.canLayAll0, PyData.canLay0, lay_strs t fun x hx => h x (List.mem_cons_of_mem _ hx), h c (List.mem_cons_self ..)]
theorem deep_strs : ∀ cs : List Str, PyData.depthAll (cs.map PyData.str) = 0
  | [] => rfl
  | c :: t => by simp [PyData.depthAll, PyData.depth, deep_strs t]
theorem shaped_strs (cs : List Str) (h : ∀ c ∈ cs, PyData.strOk c = true) : SeqAt.shaped (.list (cs.map PyData.str)) = true := by
  unfold SeqAt.shaped
  simp [PyData.canLay0, PyData.depth, lay_strs cs h, deep_strs]
/-- xs != [] of texts -/
theorem ev_ne_nil {cs : List Str} {a : Addr} (hc : ∀ c ∈ cs, PyData.strOk c = true) (h : Ev te σ H (.ref a)) (hx : H a = some (.lst (cs.map V.str))) : Ev (tOp (rNeD K) te (tLst tNil)) σ H (.bl (!decide (cs = []))) :=
  ev_opL h (el_lst ea_nil (by decide)) fun p H2 hp e2 => rv_neD (d := .list (cs.map PyData.str)) (e := .list []) (.lst (SqL.of (e2 _ _ hx)) (dp_strs cs)) (.lst (SqL.of hp) .nil) (shaped_strs cs hc) (shaped_ints []) (by cases cs <;> rfl)
theorem w_sdput (h : tv σ H fun v H1 => td σ H1 fun x H2 => ty σ H2 fun y H3 => ∃ a H4, x = .ref a ∧ DPut H3 a y v H4 ∧ D.nx σ H4) : sDPut td ty tv D σ H := h
/-- d[k] = v, the value made -/
theorem w_dput {d : Addr} {kvs : List (Key × V)} {k : Key} {v : V} (hd : Ev td σ H (.ref d)) (hy : Ev ty σ H (kV k)) (h : H d = some (.dK kvs)) (few : kvs.length < 1000) (no : k ∉ kvs.map (·.1)) (q : ∀ H1, Ex H H1 → D.nx σ (upd H1 d (.dK (kvs ++ [(k, v)])))) :
    td σ H fun x H2 => ty σ H2 fun y H3 => ∃ a H4, x = .ref a ∧ DPut H3 a y v H4 ∧ D.nx σ H4 :=
  hd H (Ex.refl H) _ fun H1 e1 => hy H1 e1 _ fun H2 e2 => ⟨d, _, rfl, DPut.k ((e1.trans e2) _ _ h) (sz_lt (by omega)), by rw [putK_new _ (not_valV no)]; exact q H2 (e1.trans e2)⟩
end
end My
namespace My
open PySem PySem.Spec PyProof.Rows L2 Evl
section
variable {K : PySem.W.Frag} {σ : L2.St} {H : Hp} {te ta tb td ty tv : TE} {t u : TT} {D : Ends} {tz : TS}
theorem el_if {b : Bool} {xs : List V} (h : EvT t σ H b) (h1 : b = true → EvL ta σ H xs) (h2 : b = false → EvL tb σ H xs) : EvL (tIf t ta tb) σ H xs := fun H1 e Q q => h H1 e _ fun H2 e2 => by
  cases b with
  | true =>
    show ta σ H2 Q
    exact h1 rfl H2 (e.trans e2) Q fun p H3 hp e3 h3 => q p H3 (fresh_back e2 hp) (e2.trans e3) h3
  | false =>
    show tb σ H2 Q
    exact h2 rfl H2 (e.trans e2) Q fun p H3 hp e3 h3 => q p H3 (fresh_back e2 hp) (e2.trans e3) h3
theorem ev_din {d : Addr} {kvs : List (Key × V)} {k : Key} (hy : Ev ty σ H (kV k)) (hd : Ev td σ H (.ref d)) (h : H d = some (.dK kvs)) : Ev (tDIn ty td) σ H (.bl (valV kvs k).isSome) := fun H1 e Q q =>
  hy H1 e _ fun H2 e2 => hd H2 (e.trans e2) _ fun H3 e3 => ⟨d, _, rfl, DGet.k (((e.trans e2).trans e3) _ _ h), q H3 (e2.trans e3)⟩
theorem ev_dget {d : Addr} {kvs : List (Key × V)} {k : Key} {v : V} (hd : Ev td σ H (.ref d)) (hy : Ev ty σ H (kV k)) (h : H d = some (.dK kvs)) (hv : valV kvs k = some v) : Ev (tDGet td ty) σ H v := fun H1 e Q q =>
  hd H1 e _ fun H2 e2 => hy H2 (e.trans e2) _ fun H3 e3 => ⟨d, v, rfl, by rw [← hv]; exact DGet.k (((e.trans e2).trans e3) _ _ h), q H3 (e2.trans e3)⟩
theorem el_catL {a : Addr} {xs zs : List V} (ha : Ev ta σ H (.ref a)) (h1 : H a = some (.lst xs)) (hb : EvL tb σ H zs) (hz : xs.length + zs.length ≤ 100000) : EvL (tOp rCat ta tb) σ H (xs ++ zs) := fun H1 e Q q =>
  ha H1 e _ fun H2 e2 => hb H2 (e.trans e2) _ fun b H3 _ e3 h3 => ⟨a, b, xs, zs, rfl, rfl, ((e.trans e2).trans e3) _ _ h1, h3, sz_of hz, fun p hp => q p _ (fresh_back (e2.trans e3) hp) ((e2.trans e3).trans (Ex.new hp)) upd_same⟩
end
end My

namespace My
open PySem PySem.Spec PyProof.Rows L2 Evl
section
variable {K : PySem.W.Frag} {σ : L2.St} {H : Hp} {te ta tb : TE} {t : TT} {x : V}
/-- a comprehension over rows, for each a new list -/
theorem w_lcNew {wi : TI} {j : Nat} {vs : List Nat} {as : List Addr} {bs : List (List Str)} (g : List Str → List V) {Q : VK} (hr : Paired (fun a xs => SqA K H a (xs.map V.str)) as bs) (n : bs.length ≤ 1000)
    (hi : ∀ H1, Ex H H1 → ∀ R : It → Hp → Prop, (∀ J H2, Ex H1 H2 → (∃ G, Walk J (as.map V.ref).length G (fun i H3 x H4 => H4 = H3 ∧ (as.map V.ref)[i]? = some x) ∧ ∀ H3, Ex H2 H3 → G H3) → R J H2) → wi σ H1 R)
    (hw : ∀ x, wipe ((wipe σ vs).set j (some x)) vs = wipe σ vs)
    (he : ∀ (a : Addr) (b : List Str) H1, Ex H H1 → b ∈ bs → SqA K H1 a (b.map V.str) → EvL te ((wipe σ vs).set j (some (.ref a))) H1 (g b))
    (k : ∀ p cs H2, H p = none → Ex H H2 → H2 p = some (.lst (cs.map V.ref)) → Paired (fun a xs => H a = none ∧ H2 a = some (.lst xs)) cs (bs.map g) → Q (.ref p) H2) : tLc wi (gName j) tYes te vs σ H Q := by
  have hlen : as.length = bs.length := Paired.length hr
  have ln : (as.map V.ref).length = bs.length := by rw [List.length_map, hlen]
  refine hi H (Ex.refl H) _ fun J H1 e1 ⟨G, wk, hG⟩ D hD => ?_
  have hD0 := fresh_back e1 hD
  refine lc_it wk (fun i H' => Ex H H' ∧ Ex H1 H' ∧ ∃ cs, H' D = some (.lst (cs.map V.ref)) ∧ Paired (fun a xs => (H a = none ∧ a ≠ D) ∧ H' a = some (.lst xs)) cs ((bs.take i).map g)) ⟨Ex.mut e1 hD0, Ex.new hD, [], upd_same, .nil⟩ (fun i H' _ p => hG H' p.2.1) (fun i x H2 H' hi' p y => ?_) (fun H' p => ?_)
  · obtain ⟨rfl, hx⟩ := y
    obtain ⟨e2, e12, cs, hd, hp⟩ := p
    have hib : i < bs.length := by omega
    have hia : i < as.length := by omega
    rw [List.getElem?_map, List.getElem?_eq_getElem hia] at hx
    obtain rfl : x = V.ref as[i] := (Option.some.inj hx).symm
    have lcs : cs.length = i := by
      have := Paired.length hp
      rw [List.length_map, List.length_take] at this
      omega
    refine ⟨hw _, ?_⟩
    dsimp only [tYes]
    rw [if_pos rfl]
    refine he as[i] bs[i] H' e2 (List.getElem_mem hib) ((paired_get hr hia hib).ex e2) H' (Ex.refl H') _ fun q H4 hq e4 h4 => ?_
    have qD : q ≠ D := fun z => by rw [z, hd] at hq; cases hq
    refine ⟨cs.map V.ref, e4 _ _ hd, sz_lt (by rw [List.length_map]; omega), Ex.mut (e2.trans e4) hD0, Ex.mut (e12.trans e4) hD, cs ++ [q], by rw [upd_same, List.map_append]; rfl, ?_⟩
    rw [List.take_succ_eq_append_getElem hib, List.map_append]
    refine Paired.snoc (Paired.mapP hp fun a b z => ⟨z.1, by rw [upd_ne z.1.2]; exact e4 _ _ z.2⟩) ⟨⟨fresh_back e2 hq, qD⟩, by rw [upd_ne qD]; exact h4⟩
  · obtain ⟨e2, e12, cs, hd, hp⟩ := p
    rw [ln, List.take_length] at hp
    exact k D cs H' hD0 e2 hd (Paired.mapP hp fun a b z => ⟨z.1.1, z.2⟩)
/-- lists of lists of texts as data -/
def dRows (rows : List (List Str)) : PyData := .list (rows.map fun r => .list (r.map PyData.str))
theorem dp_rows {as : List Addr} {rows : List (List Str)} (h : Paired (fun a xs => SqL K H a (xs.map V.str)) as rows) : DpAll K H (as.map V.ref) (rows.map fun r => PyData.list (r.map PyData.str)) := by
  induction h with
  | nil => exact .nil
  | cons a _ ih => exact .cons (.lst a (dp_strs _)) ih
theorem lay_rows : ∀ rows : List (List Str), (∀ r ∈ rows, ∀ c ∈ r, PyData.strOk c = true) → PyData.canLayAll0 (rows.map fun r => PyData.list (r.map PyData.str)) = true
  | [], _ => rfl
  | r :: t, h => by
    have a := lay_rows t fun x hx => h x (List.mem_cons_of_mem _ hx)
    have b := lay_strs r (h r (List.mem_cons_self ..))
    simp [PyData.canLayAll0, PyData.canLay0, a, b]
theorem deep_rows : ∀ rows : List (List Str), PyData.depthAll (rows.map fun r => PyData.list (r.map PyData.str)) ≤ 1
  | [] => Nat.zero_le _
  | r :: t => by
    have a := deep_rows t
    have b := deep_strs r
    simp only [List.map_cons, PyData.depthAll, PyData.depth, b]
    omega
theorem rows_canLay (rows : List (List Str)) (h : ∀ r ∈ rows, ∀ c ∈ r, PyData.strOk c = true) : (dRows rows).canLay0 = true := by
  unfold dRows
  simp [PyData.canLay0, lay_rows rows h]
theorem shaped_rows (rows : List (List Str)) (h : ∀ r ∈ rows, ∀ c ∈ r, PyData.strOk c = true) : SeqAt.shaped (dRows rows) = true := by
  unfold SeqAt.shaped
  rw [rows_canLay rows h]
  have := deep_rows rows
  show decide ((dRows rows).depth ≤ 64) = true
  refine decide_eq_true ?_
  unfold dRows
  simp only [PyData.depth]
  omega
theorem rv_eqRows {a b : Addr} {as cs : List Addr} {rows : List (List Str)} (ok : ∀ r ∈ rows, ∀ c ∈ r, PyData.strOk c = true) (ha : H a = some (.lst (as.map V.ref))) (hb : H b = some (.lst (cs.map V.ref))) (h1 : Paired (fun a xs => SqL K H a (xs.map V.str)) as rows) (h2 : Paired (fun a xs => SqL K H a (xs.map V.str)) cs rows) : RV (rEqD K) (.ref a) (.ref b) H (.bl true) :=
  rv_eqD (d := dRows rows) (e := dRows rows) (.lst (SqL.of ha) (dp_rows h1)) (.lst (SqL.of hb) (dp_rows h2)) (shaped_rows rows ok) (shaped_rows rows ok) (SeqAt.eqv_refl _ (rows_canLay rows ok))
theorem rv_neRows {a b : Addr} {as cs : List Addr} {rows : List (List Str)} (ok : ∀ r ∈ rows, ∀ c ∈ r, PyData.strOk c = true) (ha : H a = some (.lst (as.map V.ref))) (hb : H b = some (.lst (cs.map V.ref))) (h1 : Paired (fun a xs => SqL K H a (xs.map V.str)) as rows) (h2 : Paired (fun a xs => SqL K H a (xs.map V.str)) cs rows) : RV (rNeD K) (.ref a) (.ref b) H (.bl false) :=
  rv_neD (d := dRows rows) (e := dRows rows) (.lst (SqL.of ha) (dp_rows h1)) (.lst (SqL.of hb) (dp_rows h2)) (shaped_rows rows ok) (shaped_rows rows ok) (by rw [SeqAt.eqv_refl _ (rows_canLay rows ok)]; rfl)
theorem rv_neStrs {a b : Addr} {cs : List Str} (ok : ∀ c ∈ cs, PyData.strOk c = true) (ha : SqL K H a (cs.map V.str)) (hb : SqL K H b (cs.map V.str)) : RV (rNeD K) (.ref a) (.ref b) H (.bl false) :=
  rv_neD (d := .list (cs.map PyData.str)) (e := .list (cs.map PyData.str)) (.lst ha (dp_strs cs)) (.lst hb (dp_strs cs)) (shaped_strs cs ok) (shaped_strs cs ok) (by rw [SeqAt.eqv_refl _ (by simp [PyData.canLay0, lay_strs cs ok])]; rfl)
theorem ev_isT {T U : String} {b : Bool} (h : Ev te σ H x) (ty : ∀ H', Ex H H' → TyX K H' x (.type T)) (k : PySem.W.kitOne K (.type T) (.type U) = some b) : Ev (tCB (rIsi K) (tCons te (tCons (tC (.ty U)) tNil))) σ H (.bl b) := fun H1 e1 Q q =>
  h H1 e1 _ fun H2 e2 => ⟨x, .ty U, .type T, .type U, b, rfl, .ty U, ty H2 (e1.trans e2), k, q H2 e2⟩
end
end My

namespace My
open PySem PySem.Spec PyProof.Rows L2
/-! ### operators by an instance's own special methods -/
section
variable {X : Cx} {CX : CXT} {n : Nat} {f C : Addr} {fd : FuncData} {ps : List Str} {sp : Sp} {E : XK} {A : Around}
/-- what an own operator gives back: anything but NotImplemented (a value of the abstract heap is never that) -/
theorem own_at {pins : List (Addr × Obj)} {σ : L2.St} {H : Hp} {s : Shared} {a dx : Addr} {fs : List (Str × V)} (I : Inv X pins σ H s) (ha : H a = some (.ins C dx fs)) : ∃ (ox : Obj) (od : Option Obj), PySem.W.InstAt s.heap a ox C od := by
  obtain ⟨mA, J, _⟩ := ins_get I.hok ha
  obtain ⟨od, J, _⟩ := J.look
  exact ⟨_, od, J⟩
/-- x in o -/
def rInO (C : Addr) (sp : Sp) (E : XK) (neg : Bool) : R2 := fun x y H Q => ∃ (a dx : Addr) (fs : List (Str × V)), y = .ref a ∧ H a = some (.ins C dx fs) ∧ sp [.ref a, x] H (fun v H' => ∃ b : Bool, v = .bl b ∧ Q (.bl (if neg then !b else b)) H') E
theorem op_inO (o : Own X.K C "__contains__" f) (F : FnOk X.prog X.w X.K X.mg X.base CX n f fd ps sp) (hr : Room n X.A) (hb : Binds X.K fd ps []) (hx : Passes CX X E) : OpR X (compareOp .In) (rInO C sp E false) := by
  intro pins s σ H x y v u Q I rx ry h
  obtain ⟨a, dx, fs, rfl, ha, q⟩ := h
  cases (show u = Value.ref a from ry)
  obtain ⟨ox, od, J⟩ := own_at I ha
  obtain ⟨m, hF⟩ := I.fr
  refine PySem.W.in_K hF I.ok.mod.kin J o.at_ o.fn (wpAny_mono (run_in F hr rfl hb hx I (.cons (show RelV (.ref a) (Value.ref a) from rfl) (.cons rx .nil)) q) (fun r s' hv => ?_) fun _ _ z => z)
  obtain ⟨z, H', I', rz, b, rfl, hq⟩ := hv
  cases (show r = Value.bool b from rz)
  exact wpAny_pure ⟨.bl b, H', I', rfl, hq⟩
/-- o <= p, o == p, both of the class -/
def rCmpO (C : Addr) (sp : Sp) (E : XK) : R2 := fun x y H Q => ∃ (a dx b dy : Addr) (fs gs : List (Str × V)), x = .ref a ∧ y = .ref b ∧ H a = some (.ins C dx fs) ∧ H b = some (.ins C dy gs) ∧ sp [.ref a, .ref b] H (fun v H' => ∃ k : Bool, v = .bl k ∧ Q (.bl k) H') E
theorem run_cmp {op : CmpOp} {pins : List (Addr × Obj)} {s : Shared} {σ : L2.St} {H : Hp} {x y : V} {v u : Value} {Q : VK} (o : Own X.K C (cmpInfo op).2.1 f) (F : FnOk X.prog X.w X.K X.mg X.base CX n f fd ps sp) (hr : Room n X.A) (hb : Binds X.K fd ps []) (hx : Passes CX X E)
    (I : Inv X pins σ H s) (rx : RelV x v) (ry : RelV y u) (h : rCmpO C sp E x y H Q) : wpAny (model X.prog X.w) X.A (richCompare op v u) (EP X pins σ Q) X.xe s := by
  obtain ⟨a, dx, b, dy, fs, gs, rfl, rfl, ha, hy, q⟩ := h
  cases (show v = Value.ref a from rx)
  cases (show u = Value.ref b from ry)
  obtain ⟨ox, od, J⟩ := own_at I ha
  obtain ⟨oy, oe, J'⟩ := own_at I hy
  obtain ⟨m, hF⟩ := I.fr
  refine PySem.W.cmp_K (op := op) (tb := .ref C) hr.units0 hF I.ok.mod.kin J J'.type (by simp [PySem.W.notFirst]) o.at_ o.fn (wpAny_mono (run_in F hr rfl hb hx I (.cons (show RelV (.ref a) (Value.ref a) from rfl) (.cons (show RelV (.ref b) (Value.ref b) from rfl) .nil)) q) (fun r s' hv => ?_) fun _ _ z => z)
  obtain ⟨z, H', I', rz, k, rfl, hq⟩ := hv
  cases (show r = Value.bool k from rz)
  exact ⟨.bl k, H', I', rfl, hq⟩
theorem op_leO (o : Own X.K C "__le__" f) (F : FnOk X.prog X.w X.K X.mg X.base CX n f fd ps sp) (hr : Room n X.A) (hb : Binds X.K fd ps []) (hx : Passes CX X E) : OpR X (compareOp .LtE) (rCmpO C sp E) := by
  intro pins s σ H x y v u Q I rx ry h
  show wpAny (model X.prog X.w) X.A (richCompare .LtE v u) (EP X pins σ Q) X.xe s
  exact run_cmp (op := .LtE) o F hr hb hx I rx ry h
theorem op_eqO (o : Own X.K C "__eq__" f) (F : FnOk X.prog X.w X.K X.mg X.base CX n f fd ps sp) (hr : Room n X.A) (hb : Binds X.K fd ps []) (hx : Passes CX X E) : OpR X (compareOp .Eq) (rCmpO C sp E) := by
  intro pins s σ H x y v u Q I rx ry h
  show wpAny (model X.prog X.w) X.A (richCompare .Eq v u) (EP X pins σ Q) X.xe s
  exact run_cmp (op := .Eq) o F hr hb hx I rx ry h
/-- o & p, o | p, both of the class, an object back -/
def rBinO (C : Addr) (sp : Sp) (E : XK) : R2 := fun x y H Q => ∃ (a dx b dy : Addr) (fs gs : List (Str × V)), x = .ref a ∧ y = .ref b ∧ H a = some (.ins C dx fs) ∧ H b = some (.ins C dy gs) ∧ sp [.ref a, .ref b] H (fun v H' => ∃ c : Addr, v = .ref c ∧ Q (.ref c) H') E
theorem op_binO {op : Operator} (o : Own X.K C (PySem.dunder op.info.2) f) (first : PySem.W.selfFirst X.K C = true) (F : FnOk X.prog X.w X.K X.mg X.base CX n f fd ps sp) (hr : Room n X.A) (hb : Binds X.K fd ps []) (hx : Passes CX X E) : OpR X (binaryOp op) (rBinO C sp E) := by
  intro pins s σ H x y v u Q I rx ry h
  obtain ⟨a, dx, b, dy, fs, gs, rfl, rfl, ha, hy, q⟩ := h
  cases (show v = Value.ref a from rx)
  cases (show u = Value.ref b from ry)
  obtain ⟨ox, od, J⟩ := own_at I ha
  obtain ⟨oy, oe, J'⟩ := own_at I hy
  obtain ⟨m, hF⟩ := I.fr
  refine PySem.W.binop_K (op := op) hF I.ok.mod.kin J J'.type first o.at_ o.fn (wpAny_mono (run_in F hr rfl hb hx I (.cons (show RelV (.ref a) (Value.ref a) from rfl) (.cons (show RelV (.ref b) (Value.ref b) from rfl) .nil)) q) (fun r s' hv => ?_) fun _ _ z => z)
  obtain ⟨z, H', I', rz, c, rfl, hq⟩ := hv
  cases (show r = Value.ref c from rz)
  exact ⟨.ref c, H', I', rfl, hq⟩
end
end My

namespace My
open PySem PySem.Spec PyProof.Rows L2 Evl
section
variable {K : PySem.W.Frag} {σ : L2.St} {H : Hp} {te : TE}
/-- what a comprehension of two fors gives for the rows' members -/
def flatV2 (v : List Str → Str → V) (rows : List (List Str)) : List V := rows.flatMap fun r => r.map (v r)
theorem flatV2_len (v : List Str → Str → V) : ∀ rows : List (List Str), (flatV2 v rows).length = rows.flatten.length
  | [] => rfl
  | r :: t => by
    have ih := flatV2_len v t
    unfold flatV2 at ih ⊢
    rw [List.flatMap_cons, List.length_append, List.length_map, ih, List.flatten_cons, List.length_append]
theorem flatV2_snoc (v : List Str → Str → V) (rows : List (List Str)) (r : List Str) : flatV2 v (rows ++ [r]) = flatV2 v rows ++ r.map (v r) := by
  unfold flatV2
  rw [List.flatMap_append]
  simp
theorem el_lc2A {wi : TI} {i j : Nat} {as : List Addr} {rows : List (List Str)} (v : List Str → Str → V) (hr : Paired (fun a xs => SqA K H a (xs.map V.str)) as rows) (few : rows.flatten.length ≤ 10000) (li : i < σ.length) (lj : j < σ.length) (hij : i ≠ j)
    (hi : ∀ H1, Ex H H1 → ∀ R : It → Hp → Prop, (∀ J H2, Ex H1 H2 → (∃ G, Walk J (as.map V.ref).length G (fun i H3 x H4 => H4 = H3 ∧ (as.map V.ref)[i]? = some x) ∧ ∀ H3, Ex H2 H3 → G H3) → R J H2) → wi σ H1 R)
    (he : ∀ (a : Addr) (r : List Str) (m : Str) H1, Ex H H1 → r ∈ rows → m ∈ r → SqA K H1 a (r.map V.str) → Ev te ((wipe ((wipe σ [i, j]).set i (some (.ref a))) [j]).set j (some (.str m))) H1 (v r m)) :
    EvL (tLc2 wi (gName i) tYes (iAny K i) (gName j) tYes te [i, j] [j]) σ H (flatV2 v rows) := by
  intro H1 e1 Q want
  refine hi H1 e1 _ fun J H2 e2 ⟨G, wk, hG⟩ D hD => ?_
  have hlen : as.length = rows.length := Paired.length hr
  have hn : (as.map V.ref).length = as.length := by simp
  have split : ∀ k, k < rows.length → rows.flatten = (rows.take k).flatten ++ (rows.drop k).flatten := fun k _ => by rw [← List.flatten_append, List.take_append_drop]
  refine ⟨fun k m H3 => m = as.length - k ∧ k ≤ as.length ∧ Ex H2 H3 ∧ H3 D = some (.lst (flatV2 v (rows.take k))), ⟨as.length, by simp, Nat.zero_le _, Ex.new hD, upd_same⟩, ?_⟩
  rintro k m H3 ⟨rfl, hk, e3, h3⟩
  by_cases hlt : k < as.length
  · refine .inr ⟨wk.goes k H3 (by rw [hn]; exact hlt) (hG H3 e3), fun H4 => Ex H2 H4 ∧ H4 D = some (.lst (flatV2 v (rows.take (k + 1)))), fun H4 p => ⟨as.length - (k + 1), by omega, rfl, hlt, p.1, p.2⟩, fun x H4 y => ?_⟩
    obtain ⟨e4, hx⟩ := wk.yields k H3 x H4 (by rw [hn]; exact hlt) (hG H3 e3) y
    clear y
    subst e4
    rw [List.getElem?_map, List.getElem?_eq_getElem hlt] at hx
    obtain rfl : x = V.ref as[k] := (Option.some.inj hx).symm
    have hlt2 : k < rows.length := by omega
    have hrow : SqA K H as[k] ((rows[k]).map V.str) := paired_get hr hlt hlt2
    have hmem : rows[k] ∈ rows := List.getElem_mem hlt2
    have htk : rows.take (k + 1) = rows.take k ++ [rows[k]] := List.take_succ_eq_append_getElem hlt2
    have small : (rows.take k).flatten.length + (rows[k]).length ≤ 10000 := by
      have q := congrArg List.length (split (k + 1 - 1) (by omega))
      have q2 : (rows.drop k).flatten.length = (rows[k]).length + (rows.drop (k + 1)).flatten.length := by
        rw [List.drop_eq_getElem_cons hlt2, List.flatten_cons, List.length_append]
      rw [List.length_append, show k + 1 - 1 = k from rfl, q2] at q
      omega
    refine ⟨wipe_two, ?_⟩
    dsimp only [tYes]
    rw [if_pos rfl]
    have gi : ((wipe σ [i, j]).set i (some (V.ref as[k])))[i]? = some (some (V.ref as[k])) := List.getElem?_set_self (by rw [wipe_length]; exact li)
    have eH4 : Ex H H4 := (e1.trans e2).trans e3
    have core : ∀ (J1 : It) (G1 : Hp → Prop), Walk J1 (rows[k]).length G1 (fun a H5 x H6 => H6 = H5 ∧ ((rows[k]).map V.str)[a]? = some x) → (∀ H5, Ex H2 H5 → G1 H5) →
        ∃ W1 : Nat → Nat → Hp → Prop, (∃ m, W1 0 m H4) ∧ ∀ a m H5, W1 a m H5 → (J1.stop a H5 ∧ (Ex H2 H5 ∧ H5 D = some (.lst (flatV2 v (rows.take (k + 1)))))) ∨
          (J1.go a H5 ∧ ∃ Nx1 : Hp → Prop, (∀ H', Nx1 H' → ∃ m', m' < m ∧ W1 (a + 1) m' H') ∧ ∀ x H', J1.yld a H5 x H' → gName j x (wipe ((wipe σ [i, j]).set i (some (V.ref as[k]))) [j]) H' fun σ3 H5 => wipe σ3 [j] = wipe ((wipe σ [i, j]).set i (some (V.ref as[k]))) [j] ∧
            (if true = true then te σ3 H5 fun y H7 => ∃ acc, H7 D = some (.lst acc) ∧ acc.length < sizeLine ∧ Nx1 (upd H7 D (.lst (acc ++ [y]))) else Nx1 H5)) := by
      intro J1 G1 wk1 hG1
      refine ⟨fun a m H5 => m = (rows[k]).length - a ∧ a ≤ (rows[k]).length ∧ Ex H2 H5 ∧ H5 D = some (.lst (flatV2 v (rows.take k) ++ ((rows[k]).take a).map (v rows[k]))), ⟨(rows[k]).length, by simp, Nat.zero_le _, e3, by rw [h3]; simp⟩, ?_⟩
      rintro a m H5 ⟨rfl, ha, e5, h5⟩
      by_cases hla : a < (rows[k]).length
      · refine .inr ⟨wk1.goes a H5 hla (hG1 H5 e5), _, fun H7 p => ⟨(rows[k]).length - (a + 1), by omega, rfl, hla, p⟩, fun x H7 y => ?_⟩
        obtain ⟨e7, hx7⟩ := wk1.yields a H5 x H7 hla (hG1 H5 e5) y
        clear y
        subst e7
        rw [List.getElem?_map, List.getElem?_eq_getElem hla] at hx7
        obtain rfl : x = V.str ((rows[k])[a]) := (Option.some.inj hx7).symm
        refine ⟨wipe1 _ _ _, ?_⟩
        rw [if_pos rfl]
        refine he as[k] rows[k] (rows[k])[a] H7 ((e1.trans e2).trans e5) hmem (List.getElem_mem hla) (hrow.ex ((e1.trans e2).trans e5)) H7 (Ex.refl H7) _ fun H8 e8 => ?_
        refine ⟨_, e8 _ _ h5, sz_lt ?_, Ex.mut (e5.trans e8) hD, ?_⟩
        · rw [List.length_append, flatV2_len, List.length_map, List.length_take]
          omega
        · rw [upd_same, List.append_assoc, List.take_succ_eq_append_getElem hla, List.map_append]
          rfl
      · have ea : a = (rows[k]).length := by omega
        subst ea
        refine .inl ⟨wk1.stops H5 (hG1 H5 e5), e5, ?_⟩
        rw [h5, List.take_length, htk, flatV2_snoc]
    rcases hrow with z | z
    · exact ⟨as[k], gi, .inl ⟨⟨_, ex_l eH4 z⟩, core _ _ (by have q := walk_list (K := K) (a := as[k]) (xs := (rows[k]).map V.str); rw [List.length_map] at q; exact q) fun H5 e5 => ex_l ((e1.trans e2).trans e5) z⟩⟩
    · exact ⟨as[k], gi, .inr ⟨⟨_, ex_t eH4 z⟩, core _ _ (by have q := walk_tup (K := K) (a := as[k]) (xs := (rows[k]).map V.str); rw [List.length_map] at q; exact q) fun H5 e5 => ex_t ((e1.trans e2).trans e5) z⟩⟩
  · have ek : k = as.length := by omega
    subst ek
    refine .inl ⟨by rw [← hn]; exact wk.stops H3 (hG H3 e3), ?_⟩
    refine want D H3 (fresh_back e2 hD) (e2.trans e3) ?_
    rw [h3, hlen, List.take_length]
/-- tuples of texts as data -/
theorem rv_eqT {a b : Addr} {cs ds : List Str} (ok : ∀ c ∈ cs, PyData.strOk c = true) (ok2 : ∀ c ∈ ds, PyData.strOk c = true) (ha : SqT K H a (cs.map V.str)) (hb : SqT K H b (ds.map V.str)) : RV (rNeD K) (.ref a) (.ref b) H (.bl (!PyData.eqv (.tuple (cs.map PyData.str)) (.tuple (ds.map PyData.str)))) := by
  have sh : ∀ xs : List Str, (∀ c ∈ xs, PyData.strOk c = true) → SeqAt.shaped (.tuple (xs.map PyData.str)) = true := fun xs h => by
    unfold SeqAt.shaped
    simp [PyData.canLay0, PyData.depth, lay_strs xs h, deep_strs]
  exact rv_neD (d := .tuple (cs.map PyData.str)) (e := .tuple (ds.map PyData.str)) (.tup ha (dp_strs cs)) (.tup hb (dp_strs ds)) (sh cs ok) (sh ds ok2) rfl
end
end My
namespace My
open PySem PySem.Spec PyProof.Rows L2 Evl
section
variable {K : PySem.W.Frag} {σ : L2.St} {H : Hp} {te ta tb : TE} {X : Cx}
/-- xs[i] of a list or a tuple -/
def rIxA (K : PySem.W.Frag) : R2 := fun x y H Q => rIxL K x y H Q ∨ rIxT K x y H Q
theorem ixA (K : PySem.W.Frag) (h : X.K = K := by rfl) : IxR X (rIxA K) := by
  intro e1 e2 pins s σ H x y v u Q I rx ry q hs
  rcases q with q | q
  · exact ixL K h e1 e2 pins s σ H x y v u Q I rx ry q hs
  · exact ixT K h e1 e2 pins s σ H x y v u Q I rx ry q hs
theorem rv_ixA {p : Addr} {xs : List V} {i : Int} {v : V} (h : SqA K H p xs) (ha : atI xs i = some v) : RV (rIxA K) (.ref p) (.int i) H v := fun H1 e Q q =>
  (h.ex e).elim (fun z => .inl (rv_ixL z ha H1 (Ex.refl H1) Q q)) fun z => .inr (rv_ixT z ha H1 (Ex.refl H1) Q q)
end
end My

namespace My
open PySem PySem.Spec PyProof.Rows L2
/-! ### o == v, v of the class, a list or a text -/
section
variable {X : Cx} {CX : CXT} {n : Nat} {f C : Addr} {fd : FuncData} {ps : List Str} {sp : Sp} {E : XK}
def rEqV (C : Addr) (sp : Sp) (E : XK) : R2 := fun x y H Q => ∃ (a dx : Addr) (fs : List (Str × V)), x = .ref a ∧ H a = some (.ins C dx fs) ∧
  ((∃ (b dy : Addr) (gs : List (Str × V)), y = .ref b ∧ H b = some (.ins C dy gs)) ∨ (∃ (b : Addr) (xs : List V), y = .ref b ∧ H b = some (.lst xs)) ∨ ∃ z : Str, y = .str z) ∧ sp [.ref a, y] H (fun v H' => ∃ k : Bool, v = .bl k ∧ Q (.bl k) H') E
theorem op_eqV (o : Own X.K C "__eq__" f) (tl : PySem.W.subIn X.K (.type "list") (.ref C) = some false) (ts : PySem.W.subIn X.K (.type "str") (.ref C) = some false)
    (F : FnOk X.prog X.w X.K X.mg X.base CX n f fd ps sp) (hr : Room n X.A) (hb : Binds X.K fd ps []) (hx : Passes CX X E) : OpR X (compareOp .Eq) (rEqV C sp E) := by
  intro pins s σ H x y v u Q I rx ry h
  obtain ⟨a, dx, fs, rfl, ha, hy, q⟩ := h
  cases (show v = Value.ref a from rx)
  obtain ⟨ox, od, J⟩ := own_at I ha
  obtain ⟨m, hF⟩ := I.fr
  have tb : ∃ tb, PySem.W.Looks (model X.prog X.w) s.heap (typeOf u) tb ∧ PySem.W.notFirst X.K C tb = true := by
    rcases hy with ⟨b, dy, gs, rfl, hb⟩ | ⟨b, xs, rfl, hb⟩ | ⟨z, rfl⟩
    · cases (show u = Value.ref b from ry)
      obtain ⟨oy, oe, J'⟩ := own_at I hb
      exact ⟨.ref C, J'.type, by simp [PySem.W.notFirst]⟩
    · cases (show u = Value.ref b from ry)
      obtain ⟨_, _, _, _, h1⟩ := (show ObjOk X.prog X.w H s.heap b (.lst xs) from I.hok b _ hb)
      exact ⟨.type "list", (PySem.W.Looks.ld h1).andThen .now, by unfold PySem.W.notFirst; rw [tl]; simp⟩
    · obtain ⟨t, rfl⟩ := (show ∃ t, u = Value.str z t from ry)
      exact ⟨.type "str", .now, by unfold PySem.W.notFirst; rw [ts]; simp⟩
  obtain ⟨tb, t1, t2⟩ := tb
  show wpAny (model X.prog X.w) X.A (richCompare .Eq (.ref a) u) (EP X pins σ Q) X.xe s
  refine PySem.W.cmp_K (op := .Eq) hr.units0 hF I.ok.mod.kin J t1 t2 o.at_ o.fn (wpAny_mono (run_in F hr rfl hb hx I (.cons (show RelV (.ref a) (Value.ref a) from rfl) (.cons ry .nil)) q) (fun r s' hv => ?_) fun _ _ z => z)
  obtain ⟨z, H', I', rz, k, rfl, hq⟩ := hv
  cases (show r = Value.bool k from rz)
  exact ⟨.bl k, H', I', rfl, hq⟩
end
end My
namespace My
open PySem PySem.Spec PyProof.Rows L2 Evl
section
variable {K : PySem.W.Frag} {σ : L2.St} {H : Hp} {te ta tb : TE} {C : Addr} {sp : Sp} {E : XK}
/-- the readings of own operators, both sides made by expressions -/
theorem ev_leO {x y : Addr} {b : Bool} (hx : Ev ta σ H (.ref x)) (hy : Ev tb σ H (.ref y)) (ix : ∃ dx fs, H x = some (.ins C dx fs)) (iy : ∃ dx fs, H y = some (.ins C dx fs))
    (h : ∀ H1, Ex H H1 → ∀ (Q : VK) (E : XK), (∀ H2, Ex H1 H2 → Q (.bl b) H2) → sp [.ref x, .ref y] H1 Q E) : Ev (tOp (rCmpO C sp E) ta tb) σ H (.bl b) := fun H1 e Q q =>
  hx H1 e _ fun H2 e2 => hy H2 (e.trans e2) _ fun H3 e3 => by
    obtain ⟨dx, fs, h1⟩ := ix
    obtain ⟨dy, gs, h2⟩ := iy
    have e13 := (e.trans e2).trans e3
    exact ⟨x, dx, y, dy, fs, gs, rfl, rfl, e13 _ _ h1, e13 _ _ h2, h H3 e13 _ _ fun H4 e4 => ⟨b, rfl, q H4 ((e2.trans e3).trans e4)⟩⟩
theorem ev_eqO {x y : Addr} {b : Bool} (hx : Ev ta σ H (.ref x)) (hy : Ev tb σ H (.ref y)) (ix : ∃ dx fs, H x = some (.ins C dx fs)) (iy : ∃ dx fs, H y = some (.ins C dx fs))
    (h : ∀ H1, Ex H H1 → ∀ (Q : VK) (E : XK), (∀ H2, Ex H1 H2 → Q (.bl b) H2) → sp [.ref x, .ref y] H1 Q E) : Ev (tOp (rEqV C sp E) ta tb) σ H (.bl b) := fun H1 e Q q =>
  hx H1 e _ fun H2 e2 => hy H2 (e.trans e2) _ fun H3 e3 => by
    obtain ⟨dx, fs, h1⟩ := ix
    obtain ⟨dy, gs, h2⟩ := iy
    have e13 := (e.trans e2).trans e3
    exact ⟨x, dx, fs, rfl, e13 _ _ h1, .inl ⟨y, dy, gs, rfl, e13 _ _ h2⟩, h H3 e13 _ _ fun H4 e4 => ⟨b, rfl, q H4 ((e2.trans e3).trans e4)⟩⟩
theorem ev_eqL {x y : Addr} {xs : List V} {b : Bool} (hx : Ev ta σ H (.ref x)) (hy : Ev tb σ H (.ref y)) (ix : ∃ dx fs, H x = some (.ins C dx fs)) (iy : H y = some (.lst xs))
    (h : ∀ H1, Ex H H1 → ∀ (Q : VK) (E : XK), (∀ H2, Ex H1 H2 → Q (.bl b) H2) → sp [.ref x, .ref y] H1 Q E) : Ev (tOp (rEqV C sp E) ta tb) σ H (.bl b) := fun H1 e Q q =>
  hx H1 e _ fun H2 e2 => hy H2 (e.trans e2) _ fun H3 e3 => by
    obtain ⟨dx, fs, h1⟩ := ix
    have e13 := (e.trans e2).trans e3
    exact ⟨x, dx, fs, rfl, e13 _ _ h1, .inr (.inl ⟨y, xs, rfl, e13 _ _ iy⟩), h H3 e13 _ _ fun H4 e4 => ⟨b, rfl, q H4 ((e2.trans e3).trans e4)⟩⟩
theorem ev_eqS {x : Addr} {z : Str} {b : Bool} (hx : Ev ta σ H (.ref x)) (hy : Ev tb σ H (.str z)) (ix : ∃ dx fs, H x = some (.ins C dx fs))
    (h : ∀ H1, Ex H H1 → ∀ (Q : VK) (E : XK), (∀ H2, Ex H1 H2 → Q (.bl b) H2) → sp [.ref x, .str z] H1 Q E) : Ev (tOp (rEqV C sp E) ta tb) σ H (.bl b) := fun H1 e Q q =>
  hx H1 e _ fun H2 e2 => hy H2 (e.trans e2) _ fun H3 e3 => by
    obtain ⟨dx, fs, h1⟩ := ix
    have e13 := (e.trans e2).trans e3
    exact ⟨x, dx, fs, rfl, e13 _ _ h1, .inr (.inr ⟨z, rfl⟩), h H3 e13 _ _ fun H4 e4 => ⟨b, rfl, q H4 ((e2.trans e3).trans e4)⟩⟩
/-- str(o) -/
theorem ev_strO {x : Addr} {z : Str} (hx : Ev ta σ H (.ref x)) (ix : ∃ dx fs, H x = some (.ins C dx fs)) (h : ∀ H1, Ex H H1 → ∀ (Q : VK) (E : XK), (∀ H2, Ex H1 H2 → Q (.str z) H2) → sp [.ref x] H1 Q E) : Ev (tCB (rStrO C sp E) (tCons ta tNil)) σ H (.str z) := fun H1 e Q q =>
  hx H1 e _ fun H2 e2 => by
    obtain ⟨dx, fs, h1⟩ := ix
    exact ⟨x, dx, fs, rfl, (e.trans e2) _ _ h1, h H2 (e.trans e2) _ _ fun H4 e4 => ⟨z, rfl, q H4 (e2.trans e4)⟩⟩
theorem ev_notB {a b : Bool} (ha : Ev ta σ H (.bl a)) (hb : Ev tb σ H (.bl b)) : Ev (tOp rNotB ta tb) σ H (.bl (!decide (a = b))) := ev_op ha hb fun _ _ _ q => ⟨a, b, rfl, rfl, q _ (Ex.refl _)⟩
/-- the items of a list that an expression makes -/
theorem wi_listN {xs : List V} (h : EvL te σ H xs) : ∀ H1, Ex H H1 → ∀ R : It → Hp → Prop, (∀ J H2, Ex H1 H2 → (∃ G, Walk J xs.length G (fun i H3 x H4 => H4 = H3 ∧ xs[i]? = some x) ∧ ∀ H3, Ex H2 H3 → G H3) → R J H2) → iList K te σ H1 R :=
  fun H1 e R k => h H1 e _ fun p H2 _ e2 h2 => ⟨p, rfl, ⟨xs, SqL.of h2⟩, k _ H2 e2 ⟨_, walk_list, fun H3 e3 => ex_l e3 (SqL.of h2)⟩⟩
/-- xs[i] = ys, the list made -/
theorem s_setLL {D : Ends} {l : Addr} {xs ys : List V} {j : Nat} (hl : H l = some (.lst xs)) (h : EvL te σ H ys) (ho : Ev ta σ H (.ref l)) (hi : Ev tb σ H (.int (j : Int))) (hj : j < xs.length)
    (k : ∀ p H1, H p = none → Ex H H1 → H1 p = some (.lst ys) → D.nx σ (upd H1 l (.lst (xs.set j (.ref p))))) : tAsg te (gSub ta tb rSetL) D σ H := h H (Ex.refl H) _ fun p H1 hp e1 h1 => ho H1 e1 _ fun H2 e2 => hi H2 (e1.trans e2) _ fun H3 e3 =>
    ⟨l, xs, j, j, rfl, rfl, ((e1.trans e2).trans e3) _ _ hl, ixN_nat hj, k p H3 hp ((e1.trans e2).trans e3) ((e2.trans e3) _ _ h1)⟩
theorem q_setLL {D : Ends} {tz : TS} {l : Addr} {xs ys : List V} {j : Nat} (hl : H l = some (.lst xs)) (h : EvL te σ H ys) (ho : Ev ta σ H (.ref l)) (hi : Ev tb σ H (.int (j : Int))) (hj : j < xs.length)
    (k : ∀ p H1, H p = none → Ex H H1 → H1 p = some (.lst ys) → tz D σ (upd H1 l (.lst (xs.set j (.ref p))))) : tSeq (tAsg te (gSub ta tb rSetL)) tz D σ H := s_setLL (D := { D with nx := tz D }) hl h ho hi hj k
theorem el_listA {a : Addr} {xs : List V} (h : Ev te σ H (.ref a)) (hx : SqA K H a xs) : EvL (tCB (rListS K) (tCons te tNil)) σ H xs := fun H1 e Q q =>
  h H1 e _ fun H2 e2 => ⟨a, xs, rfl, hx.ex (e.trans e2), fun l hl => q l _ (fresh_back e2 hl) (e2.trans (Ex.new hl)) upd_same⟩
end
theorem paired_of_map {α β γ : Type} {F : α → γ → Prop} {g : β → γ} : ∀ {cs : List α} {bs : List β}, Paired F cs (bs.map g) → Paired (fun a b => F a (g b)) cs bs
  | _, [], h => by cases h; exact .nil
  | _, b :: t, h => by
    rw [List.map_cons] at h
    cases h with
    | cons a r => exact .cons a (paired_of_map r)
theorem paired_set {α β : Type} {F : α → β → Prop} {x : α} {y : β} (h : F x y) : ∀ {as : List α} {bs : List β} (i : Nat), Paired F as bs → Paired F (as.set i x) (bs.set i y)
  | [], _, _, .nil => .nil
  | _ :: _, _ :: _, 0, .cons _ t => .cons h t
  | _ :: _, _ :: _, i + 1, .cons a t => .cons a (paired_set h i t)
theorem paired_erase {α β : Type} {F : α → β → Prop} : ∀ {as : List α} {bs : List β} (i : Nat), Paired F as bs → Paired F (as.eraseIdx i) (bs.eraseIdx i)
  | [], _, _, .nil => .nil
  | _ :: _, _ :: _, 0, .cons _ t => t
  | _ :: _, _ :: _, i + 1, .cons a t => .cons a (paired_erase i t)
end My

namespace My
open PySem PySem.Spec PyProof.Rows L2 Evl
section
variable {K : PySem.W.Frag} {σ : L2.St} {H : Hp} {te ta tb : TE} {C : Addr} {sp : Sp} {E : XK}
/-- sources that stand as long as what stood stands -/
theorem wi_tupH {a : Addr} {xs : List V} (h : Ev te σ H (.ref a)) (hx : SqT K H a xs) : ∀ H1, Ex H H1 → ∀ R : It → Hp → Prop, (∀ J H2, Ex H1 H2 → (∃ G, Walk J xs.length G (fun i H3 x H4 => H4 = H3 ∧ xs[i]? = some x) ∧ ∀ H3, Ex H H3 → G H3) → R J H2) → iTup K te σ H1 R :=
  fun H1 e R k => h H1 e _ fun H2 e2 => ⟨a, rfl, ⟨xs, ex_t (e.trans e2) hx⟩, k _ H2 e2 ⟨_, walk_tup, fun H3 e3 => ex_t e3 hx⟩⟩
theorem prod_len {α β γ : Type} (v : α → β → γ) : ∀ (rows : List α) (ss : List β), (rows.flatMap fun r => ss.map (v r)).length = rows.length * ss.length
  | [], ss => by simp
  | r :: t, ss => by rw [List.flatMap_cons, List.length_append, prod_len v t ss, List.length_map, List.length_cons, Nat.succ_mul, Nat.add_comm]
/-- a comprehension of two fors over rows and rows, for each two a new list -/
theorem w_lc2New {wi wi1 : TI} {i j : Nat} {as bs : List Addr} {rows ss : List (List Str)} (v : List Str → List Str → List V) {Q : VK} (hr : Paired (fun a xs => SqA K H a (xs.map V.str)) as rows) (hs : Paired (fun a xs => SqA K H a (xs.map V.str)) bs ss) (few : rows.length * ss.length ≤ 10000) (li : i < σ.length)
    (hi : ∀ H1, Ex H H1 → ∀ R : It → Hp → Prop, (∀ J H2, Ex H1 H2 → (∃ G, Walk J (as.map V.ref).length G (fun i H3 x H4 => H4 = H3 ∧ (as.map V.ref)[i]? = some x) ∧ ∀ H3, Ex H H3 → G H3) → R J H2) → wi σ H1 R)
    (hi1 : ∀ (a : Addr) H1, Ex H H1 → ∀ R : It → Hp → Prop, (∀ J H2, Ex H1 H2 → (∃ G, Walk J (bs.map V.ref).length G (fun i H3 x H4 => H4 = H3 ∧ (bs.map V.ref)[i]? = some x) ∧ ∀ H3, Ex H H3 → G H3) → R J H2) → wi1 ((wipe σ [i, j]).set i (some (.ref a))) H1 R)
    (he : ∀ (a b : Addr) (r s : List Str) H1, Ex H H1 → r ∈ rows → s ∈ ss → SqA K H1 a (r.map V.str) → SqA K H1 b (s.map V.str) → EvL te ((wipe ((wipe σ [i, j]).set i (some (.ref a))) [j]).set j (some (.ref b))) H1 (v r s))
    (k : ∀ p cs H2, H p = none → Ex H H2 → H2 p = some (.lst (cs.map V.ref)) → Paired (fun a xs => H a = none ∧ H2 a = some (.lst xs)) cs (rows.flatMap fun r => ss.map (v r)) → Q (.ref p) H2) :
    tLc2 wi (gName i) tYes wi1 (gName j) tYes te [i, j] [j] σ H Q := by
  have hlen : as.length = rows.length := Paired.length hr
  have hlen2 : bs.length = ss.length := Paired.length hs
  have hn : (as.map V.ref).length = as.length := by simp
  have hn2 : (bs.map V.ref).length = bs.length := by simp
  refine hi H (Ex.refl H) _ fun J H2 e2 ⟨G, wk, hG⟩ D hD => ?_
  have hD0 := fresh_back e2 hD
  refine ⟨fun k m H3 => m = as.length - k ∧ k ≤ as.length ∧ Ex H H3 ∧ ∃ cs, H3 D = some (.lst (cs.map V.ref)) ∧ Paired (fun a xs => (H a = none ∧ a ≠ D) ∧ H3 a = some (.lst xs)) cs ((rows.take k).flatMap fun r => ss.map (v r)), ⟨as.length, by simp, Nat.zero_le _, Ex.mut e2 hD0, [], upd_same, .nil⟩, ?_⟩
  rintro k' m H3 ⟨rfl, hk, e3, cs, h3, hp⟩
  by_cases hlt : k' < as.length
  · refine .inr ⟨wk.goes k' H3 (by rw [hn]; exact hlt) (hG H3 e3), fun H4 => Ex H H4 ∧ ∃ cs, H4 D = some (.lst (cs.map V.ref)) ∧ Paired (fun a xs => (H a = none ∧ a ≠ D) ∧ H4 a = some (.lst xs)) cs ((rows.take (k' + 1)).flatMap fun r => ss.map (v r)), fun H4 p => ⟨as.length - (k' + 1), by omega, rfl, hlt, p⟩, fun x H4 y => ?_⟩
    obtain ⟨e4, hx⟩ := wk.yields k' H3 x H4 (by rw [hn]; exact hlt) (hG H3 e3) y
    clear y
    subst e4
    rw [List.getElem?_map, List.getElem?_eq_getElem hlt] at hx
    obtain rfl : x = V.ref as[k'] := (Option.some.inj hx).symm
    have hlt2 : k' < rows.length := by omega
    have hrow : SqA K H as[k'] ((rows[k']).map V.str) := paired_get hr hlt hlt2
    have hmem : rows[k'] ∈ rows := List.getElem_mem hlt2
    have htk : rows.take (k' + 1) = rows.take k' ++ [rows[k']] := List.take_succ_eq_append_getElem hlt2
    refine ⟨wipe_two, ?_⟩
    dsimp only [tYes]
    rw [if_pos rfl]
    refine hi1 as[k'] H4 e3 _ fun J1 H5 e5 ⟨G1, wk1, hG1⟩ => ?_
    refine ⟨fun a m H6 => m = bs.length - a ∧ a ≤ bs.length ∧ Ex H H6 ∧ ∃ cs, H6 D = some (.lst (cs.map V.ref)) ∧ Paired (fun a xs => (H a = none ∧ a ≠ D) ∧ H6 a = some (.lst xs)) cs (((rows.take k').flatMap fun r => ss.map (v r)) ++ (ss.take a).map (v rows[k'])), ⟨bs.length, by simp, Nat.zero_le _, e3.trans e5, cs, e5 _ _ h3, by simpa using Paired.mapP hp fun a b z => ⟨z.1, e5 _ _ z.2⟩⟩, ?_⟩
    rintro a m H6 ⟨rfl, ha, e6, cs, h6, hp6⟩
    by_cases hla : a < bs.length
    · refine .inr ⟨wk1.goes a H6 (by rw [hn2]; exact hla) (hG1 H6 e6), _, fun H7 p => ⟨bs.length - (a + 1), by omega, rfl, hla, p⟩, fun x H7 y => ?_⟩
      obtain ⟨e7, hx7⟩ := wk1.yields a H6 x H7 (by rw [hn2]; exact hla) (hG1 H6 e6) y
      clear y
      subst e7
      have hla2 : a < ss.length := by omega
      rw [List.getElem?_map, List.getElem?_eq_getElem hla] at hx7
      obtain rfl : x = V.ref bs[a] := (Option.some.inj hx7).symm
      refine ⟨wipe1 _ _ _, ?_⟩
      rw [if_pos rfl]
      refine he as[k'] bs[a] rows[k'] ss[a] H7 e6 hmem (List.getElem_mem hla2) (hrow.ex e6) ((paired_get hs hla hla2).ex e6) H7 (Ex.refl H7) _ fun q H8 hq e8 h8 => ?_
      have qD : q ≠ D := fun z => by rw [z, h6] at hq; cases hq
      have lc := Paired.length hp6
      rw [List.length_append, prod_len, List.length_map, List.length_take, List.length_take] at lc
      have q1 : min k' rows.length * ss.length ≤ rows.length * ss.length := Nat.mul_le_mul_right _ (Nat.min_le_right _ _)
      have q2 : ss.length ≤ rows.length * ss.length := Nat.le_mul_of_pos_left _ (by omega)
      refine ⟨cs.map V.ref, e8 _ _ h6, sz_lt (by rw [List.length_map]; omega), Ex.mut (e6.trans e8) hD0, cs ++ [q], by rw [upd_same, List.map_append]; rfl, ?_⟩
      rw [List.take_succ_eq_append_getElem hla2, List.map_append, ← List.append_assoc]
      exact Paired.snoc (Paired.mapP hp6 fun b c z => ⟨z.1, by rw [upd_ne z.1.2]; exact e8 _ _ z.2⟩) ⟨⟨fresh_back e6 hq, qD⟩, by rw [upd_ne qD]; exact h8⟩
    · have ea : a = bs.length := by omega
      subst ea
      refine .inl ⟨by rw [← hn2]; exact wk1.stops H6 (hG1 H6 e6), e6, cs, h6, ?_⟩
      rw [htk, List.flatMap_append]
      rw [hlen2, List.take_length] at hp6
      simpa using hp6
  · have ek : k' = as.length := by omega
    subst ek
    refine .inl ⟨by rw [← hn]; exact wk.stops H3 (hG H3 e3), ?_⟩
    rw [hlen, List.take_length] at hp
    exact k D cs H3 hD0 e3 h3 (Paired.mapP hp fun a b z => ⟨z.1.1, z.2⟩)
/-- a for over a list that is made there -/
theorem q_forW {tl : TE} {g : TG} {tu tz : TS} {D : Ends} (h : tl σ H fun x H1 => ∃ a, x = .ref a ∧ (∃ xs, SqL K H1 a xs) ∧ ∃ W : Nat → Nat → L2.St → Hp → Prop, (∃ m, W 0 m σ H1) ∧ ∀ i m σ H, W i m σ H →
    ((Itl K a).stop i H ∧ tz D σ H) ∨ ((Itl K a).go i H ∧ ∃ N : L2.St → Hp → Prop, (∀ σ' H', N σ' H' → ∃ m', m' < m ∧ W (i + 1) m' σ' H') ∧ ∀ x H', (Itl K a).yld i H x H' → g x σ H' fun σ2 H2 => tu { D with nx := N, ct := N, bk := tz D } σ2 H2)) :
    tSeq (tFor (iList K tl) g tu) tz D σ H := h
theorem for_listW {a : Addr} {xs : List V} {g : TG} {tu tz : TS} {D : Ends} (Pv : Nat → L2.St → Hp → Prop) (h0 : Pv 0 σ H) (hl : ∀ i σ H, i ≤ xs.length → Pv i σ H → SqL K H a xs)
    (hs : ∀ i x σ H, xs[i]? = some x → Pv i σ H → g x σ H fun σ2 H2 => tu { D with nx := Pv (i + 1), ct := Pv (i + 1), bk := tz D } σ2 H2) (hd : ∀ σ H, Pv xs.length σ H → tz D σ H) :
    ∃ W : Nat → Nat → L2.St → Hp → Prop, (∃ m, W 0 m σ H) ∧ ∀ i m σ H, W i m σ H →
    ((Itl K a).stop i H ∧ tz D σ H) ∨ ((Itl K a).go i H ∧ ∃ N : L2.St → Hp → Prop, (∀ σ' H', N σ' H' → ∃ m', m' < m ∧ W (i + 1) m' σ' H') ∧ ∀ x H', (Itl K a).yld i H x H' → g x σ H' fun σ2 H2 => tu { D with nx := N, ct := N, bk := tz D } σ2 H2) :=
  for_list (D := { D with nx := tz D }) Pv h0 hl hs hd
theorem w_evu' {xs : List V} {te : TE} {Q : VK} (h : EvU te σ H xs) (k : ∀ p H1, H p = none → Ex H H1 → H1 p = some (.tup xs) → Q (.ref p) H1) : te σ H Q := h H (Ex.refl H) Q k
/-- o & p, o | p -/
theorem w_binO {x y : Addr} {Q : VK} (hx : Ev ta σ H (.ref x)) (hy : Ev tb σ H (.ref y)) (ix : ∃ dx fs, H x = some (.ins C dx fs)) (iy : ∃ dx fs, H y = some (.ins C dx fs))
    (h : ∀ H1, Ex H H1 → sp [.ref x, .ref y] H1 (fun v H' => ∃ c : Addr, v = .ref c ∧ Q (.ref c) H') E) : tOp (rBinO C sp E) ta tb σ H Q := hx H (Ex.refl H) _ fun H2 e2 => hy H2 e2 _ fun H3 e3 => by
    obtain ⟨dx, fs, h1⟩ := ix
    obtain ⟨dy, gs, h2⟩ := iy
    have e13 := e2.trans e3
    exact ⟨x, dx, y, dy, fs, gs, rfl, rfl, e13 _ _ h1, e13 _ _ h2, h H3 e13⟩
/-- len(o) -/
theorem ev_lenO {x : Addr} {n : Int} (hx : Ev ta σ H (.ref x)) (ix : ∃ dx fs, H x = some (.ins C dx fs)) (hn : 0 ≤ n ∧ n < 2 ^ 63) (h : ∀ H1, Ex H H1 → ∀ (Q : VK) (E : XK), (∀ H2, Ex H1 H2 → Q (.int n) H2) → sp [.ref x] H1 Q E) : Ev (tCB (rLenO C sp E) (tCons ta tNil)) σ H (.int n) := fun H1 e Q q =>
  hx H1 e _ fun H2 e2 => by
    obtain ⟨dx, fs, h1⟩ := ix
    exact ⟨x, dx, fs, rfl, (e.trans e2) _ _ h1, h H2 (e.trans e2) _ _ fun H4 e4 => ⟨n, rfl, hn, q H4 (e2.trans e4)⟩⟩
end
end My

namespace My
open PySem PySem.Spec PyProof.Rows L2
/-! ### own operators that may raise, within a try -/
section
variable {X : Cx} {CX : CXT} {n : Nat} {f C : Addr} {fd : FuncData} {ps : List Str} {sp : Sp} {E : L2.St → XK} {A : Around} {a b : Expr} {ta tb : TE} {pos : Pos}
theorem run_inS {pins : List (Addr × Obj)} {σ : L2.St} {H : Hp} {s : Shared} {Q : VK} {us : List Value} {vs : List V} (F : FnOk X.prog X.w X.K X.mg X.base CX n f fd ps sp) (room : Room n A) (fr : A.frames = X.A.frames) (hb : Binds X.K fd ps []) (hx : PassesAt CX X σ (E σ))
    (I : Inv X pins σ H s) (r : Vals vs us) (h : sp vs H Q (E σ)) : wpAny (model X.prog X.w) A (call (.ref f) us) (EP X pins σ Q) X.xe s := by
  have e0 : Env0 X.prog X.w X.K X.mg X.base A X.stack s H := by
    have e := I.env0
    exact ⟨by rw [fr]; exact e.frames, e.mod, e.bs, e.bsz, e.funs, e.frf, e.hok, e.bare⟩
  have hl := F.len _ _ _ _ h
  refine wpAny_call (codeAny_mono (F.run A X.stack s H ⟨us, []⟩ us vs Q (E σ) room e0 (by
    have z := hb s us I.kIn (by rw [List.append_nil, ← r.length]; exact hl)
    rw [List.append_nil] at z
    exact z) r h) fun r s' hq => ?_)
  cases r with
  | error e => exact hx pins H s e s' I hq
  | ok fl =>
    cases fl with
    | ret u => exact I.after hq
    | next => exact False.elim hq
    | brk => exact False.elim hq
    | cont => exact False.elim hq
/-- x in o -/
def tInS (C : Addr) (sp : Sp) (E : L2.St → XK) (ta tb : TE) : TE := fun σ H Q => ta σ H fun x H1 => tb σ H1 fun y H2 => ∃ (a dx : Addr) (fs : List (Str × V)), y = .ref a ∧ H2 a = some (.ins C dx fs) ∧ sp [.ref a, x] H2 (fun v H' => ∃ k : Bool, v = .bl k ∧ Q (.bl k) H') (E σ)
theorem pe_inS (o : Own X.K C "__contains__" f) (F : FnOk X.prog X.w X.K X.mg X.base CX n f fd ps sp) (hr : Room n X.A) (hb : Binds X.K fd ps []) (hx : ∀ σ, PassesAt CX X σ (E σ)) (ha : PE X a ta) (hc : PE X b tb) (hm : behindInMarks .In b = false) : PE X (.Compare a [.In] [b] pos) (tInS C sp E ta tb) := by
  refine ⟨fun pins s σ H Q I h => ?_⟩
  refine wpAny_Compare1 (binT ha hc (R := fun x y H2 => ∃ (a dx : Addr) (fs : List (Str × V)), y = .ref a ∧ H2 a = some (.ins C dx fs) ∧ sp [.ref a, x] H2 (fun v H' => ∃ k : Bool, v = .bl k ∧ Q (.bl k) H') (E σ)) I h fun v u s2 x y H2 I2 rx ry q => ?_) hm
  obtain ⟨a, dx, fs, rfl, ha, q⟩ := q
  cases (show u = Value.ref a from ry)
  obtain ⟨ox, od, J⟩ := own_at I2 ha
  obtain ⟨m, hF⟩ := I2.fr
  refine PySem.W.in_K hF I2.ok.mod.kin J o.at_ o.fn (wpAny_mono (run_inS F hr rfl hb (hx σ) I2 (.cons (show RelV (.ref a) (Value.ref a) from rfl) (.cons rx .nil)) q) (fun r s' hv => ?_) fun _ _ z => z)
  obtain ⟨z, H', I', rz, k, rfl, hq⟩ := hv
  cases (show r = Value.bool k from rz)
  exact wpAny_pure ⟨.bl k, H', I', rfl, hq⟩
/-- o <= p -/
def tCmpS (C : Addr) (sp : Sp) (E : L2.St → XK) (ta tb : TE) : TE := fun σ H Q => ta σ H fun x H1 => tb σ H1 fun y H2 => ∃ (a dx b dy : Addr) (fs gs : List (Str × V)), x = .ref a ∧ y = .ref b ∧ H2 a = some (.ins C dx fs) ∧ H2 b = some (.ins C dy gs) ∧ sp [.ref a, .ref b] H2 (fun v H' => ∃ k : Bool, v = .bl k ∧ Q (.bl k) H') (E σ)
theorem pe_leS (o : Own X.K C "__le__" f) (F : FnOk X.prog X.w X.K X.mg X.base CX n f fd ps sp) (hr : Room n X.A) (hb : Binds X.K fd ps []) (hx : ∀ σ, PassesAt CX X σ (E σ)) (ha : PE X a ta) (hc : PE X b tb) (hm : behindInMarks .LtE b = false) : PE X (.Compare a [.LtE] [b] pos) (tCmpS C sp E ta tb) := by
  refine ⟨fun pins s σ H Q I h => ?_⟩
  refine wpAny_Compare1 (binT ha hc (R := fun x y H2 => ∃ (a dx b dy : Addr) (fs gs : List (Str × V)), x = .ref a ∧ y = .ref b ∧ H2 a = some (.ins C dx fs) ∧ H2 b = some (.ins C dy gs) ∧ sp [.ref a, .ref b] H2 (fun v H' => ∃ k : Bool, v = .bl k ∧ Q (.bl k) H') (E σ)) I h fun v u s2 x y H2 I2 rx ry q => ?_) hm
  obtain ⟨a, dx, b, dy, fs, gs, rfl, rfl, ha, hy, q⟩ := q
  cases (show v = Value.ref a from rx)
  cases (show u = Value.ref b from ry)
  obtain ⟨ox, od, J⟩ := own_at I2 ha
  obtain ⟨oy, oe, J'⟩ := own_at I2 hy
  obtain ⟨m, hF⟩ := I2.fr
  show wpAny (model X.prog X.w) X.A (richCompare .LtE (.ref a) (.ref b)) (EP X pins σ Q) X.xe s2
  refine PySem.W.cmp_K (op := .LtE) (tb := .ref C) hr.units0 hF I2.ok.mod.kin J J'.type (by simp [PySem.W.notFirst]) o.at_ o.fn (wpAny_mono (run_inS F hr rfl hb (hx σ) I2 (.cons (show RelV (.ref a) (Value.ref a) from rfl) (.cons (show RelV (.ref b) (Value.ref b) from rfl) .nil)) q) (fun r s' hv => ?_) fun _ _ z => z)
  obtain ⟨z, H', I', rz, k, rfl, hq⟩ := hv
  cases (show r = Value.bool k from rz)
  exact ⟨.bl k, H', I', rfl, hq⟩
/-- o & p, o | p -/
def tBinS (C : Addr) (sp : Sp) (E : L2.St → XK) (ta tb : TE) : TE := fun σ H Q => ta σ H fun x H1 => tb σ H1 fun y H2 => ∃ (a dx b dy : Addr) (fs gs : List (Str × V)), x = .ref a ∧ y = .ref b ∧ H2 a = some (.ins C dx fs) ∧ H2 b = some (.ins C dy gs) ∧ sp [.ref a, .ref b] H2 (fun v H' => ∃ c : Addr, v = .ref c ∧ Q (.ref c) H') (E σ)
theorem pe_binS {op : Operator} (o : Own X.K C (PySem.dunder op.info.2) f) (first : PySem.W.selfFirst X.K C = true) (F : FnOk X.prog X.w X.K X.mg X.base CX n f fd ps sp) (hr : Room n X.A) (hb : Binds X.K fd ps []) (hx : ∀ σ, PassesAt CX X σ (E σ)) (ha : PE X a ta) (hc : PE X b tb) : PE X (.BinOp a op b pos) (tBinS C sp E ta tb) := by
  refine ⟨fun pins s σ H Q I h => ?_⟩
  refine wpAny_BinOp (binT ha hc (R := fun x y H2 => ∃ (a dx b dy : Addr) (fs gs : List (Str × V)), x = .ref a ∧ y = .ref b ∧ H2 a = some (.ins C dx fs) ∧ H2 b = some (.ins C dy gs) ∧ sp [.ref a, .ref b] H2 (fun v H' => ∃ c : Addr, v = .ref c ∧ Q (.ref c) H') (E σ)) I h fun v u s2 x y H2 I2 rx ry q => ?_)
  obtain ⟨a, dx, b, dy, fs, gs, rfl, rfl, ha, hy, q⟩ := q
  cases (show v = Value.ref a from rx)
  cases (show u = Value.ref b from ry)
  obtain ⟨ox, od, J⟩ := own_at I2 ha
  obtain ⟨oy, oe, J'⟩ := own_at I2 hy
  obtain ⟨m, hF⟩ := I2.fr
  refine PySem.W.binop_K (op := op) hF I2.ok.mod.kin J J'.type first o.at_ o.fn (wpAny_mono (run_inS F hr rfl hb (hx σ) I2 (.cons (show RelV (.ref a) (Value.ref a) from rfl) (.cons (show RelV (.ref b) (Value.ref b) from rfl) .nil)) q) (fun r s' hv => ?_) fun _ _ z => z)
  obtain ⟨z, H', I', rz, c, rfl, hq⟩ := hv
  cases (show r = Value.ref c from rz)
  exact ⟨.ref c, H', I', rfl, hq⟩
end
end My
namespace My
open PySem PySem.Spec PyProof.Rows L2
theorem exc_cl {K : PySem.W.Frag} {D : Addr} (C : ExcC K D) : (PySem.W.clsIn K D).isSome = true := by
  obtain ⟨cd, e, _⟩ := PySem.W.any_some C.hd
  rw [e]; rfl
/-- isinstance(e, c), e the exception that the suite holds, with its attributes -/
def rIsE2 (K : PySem.W.Frag) (a : Addr) (cls : Value) (d : Option Addr) : List V → Hp → VK → Prop := fun xs H Q => ∃ (D dd : Addr) (c : V) (cv : Value) (b : Bool) (fs : List (Str × V)), cls = .ref D ∧ d = some dd ∧ ExcC K D ∧ xs = [.ref a, c] ∧ ClsV c cv ∧ H dd = some (.xd fs) ∧ PySem.W.kitOne K (.ref D) cv = some b ∧ Q (.bl b) H
theorem call_isE2 {X : Cx} {a : Addr} {cls : Value} {d : Option Addr} {oe : Obj} {pn : List (Addr × Obj)} (hz : Zc cls d oe) (hf : ∃ vs, oe.data = .fields vs) : CallR (X.suite a ((a, oe) :: pn)) (.builtin "isinstance") (rIsE2 X.K a cls d) := by
  intro pins s σ H xs us Q I r h
  obtain ⟨D, dd, c, cv, b, fs, rfl, rfl, C, rfl, k, hx, e, q⟩ := h
  obtain ⟨u1, u2, rfl, r1, r2⟩ := vals2 r
  have e2 := k.eq r2
  subst e2
  cases (show u1 = Value.ref a from r1)
  obtain ⟨hget, _⟩ := I.pin (a, oe) (List.mem_append.mpr (.inl List.mem_cons_self))
  obtain ⟨vs, hv⟩ := hf
  have hxo : ObjOk X.prog X.w H s.heap dd (.xd fs) := I.hok dd _ hx
  obtain ⟨mA, ⟨o, es, ep, e2, _⟩, hr⟩ := hxo
  have J : PySem.W.InstAt s.heap a oe D (some o) := ⟨hget, hz.1, by unfold PySem.W.notCls; rw [hv], by rw [hz.2]; exact e2⟩
  exact PySem.W.kia_one (PySem.W.kitx_exc (exc_cl C) C.hg C.hk C.hs C.ha C.hn C.ht C.hm) I.kIn J e (fun z => nomatch z) fun tk => ⟨.bl b, H, I.tok tk, rfl, q⟩
end My
namespace My
open PySem PySem.Spec PyProof.Rows L2 Evl
section
variable {K : PySem.W.Frag} {σ : L2.St} {H : Hp} {te ta tb td ty tx : TE} {C : Addr} {sp : Sp} {E : XK}
theorem w_tup {t : TA} {σ : L2.St} {H : Hp} {Q : VK} (h : t σ H fun xs H1 => xs.length ≤ sizeLine ∧ ∀ p, H1 p = none → Q (.ref p) (upd H1 p (.tup xs))) : tTup t σ H Q := h
/-- d.get(k, (..)) -/
theorem w_dget2U {a : Addr} {kvs : List (Key × V)} {k : Key} {xs : List V} {Q : VK} (hd : Ev td σ H (.ref a)) (h : H a = some (.dK kvs)) (hy : Ev ty σ H (kV k)) (hx : EvU tx σ H xs)
    (q1 : ∀ v, valV kvs k = some v → ∀ H', Ex H H' → Q v H') (q2 : valV kvs k = none → ∀ p H', H p = none → Ex H H' → H' p = some (.tup xs) → Q (.ref p) H') : tDGet2 td ty tx σ H Q :=
  hd H (Ex.refl H) _ fun H1 e1 => ⟨a, rfl, isD_of (e1 _ _ h), hy H1 e1 _ fun H2 e2 => hx H2 (e1.trans e2) _ fun p H3 hp e3 h3 => by
    have e := (e1.trans e2).trans e3
    refine ⟨valV kvs k, DGet.k (e _ _ h), ?_⟩
    cases hv : valV kvs k with
    | some v => exact q1 v hv H3 e
    | none => exact q2 hv p H3 (fresh_back (e1.trans e2) hp) e h3⟩
theorem et_dnotin {d : Addr} {kvs : List (Key × V)} {k : Key} (hy : Ev ty σ H (kV k)) (hd : Ev td σ H (.ref d)) (h : H d = some (.dK kvs)) : EvT (tB (tDNotIn ty td)) σ H (!(valV kvs k).isSome) := fun H1 e Q q =>
  hy H1 e _ fun H2 e2 => hd H2 (e.trans e2) _ fun H3 e3 => ⟨d, _, rfl, DGet.k (((e.trans e2).trans e3) _ _ h), _, rfl, q H3 (e2.trans e3)⟩
/-- a for over a new tuple -/
theorem w_forU {xs : List V} {tl : TE} {g : TG} {tu : TS} {D : Ends} (h : EvU tl σ H xs) (Pv : Addr → Nat → L2.St → Hp → Prop) (h0 : ∀ p H1, H p = none → Ex H H1 → H1 p = some (.tup xs) → Pv p 0 σ H1) (hl : ∀ p i σ' H', i ≤ xs.length → Pv p i σ' H' → SqT K H' p xs)
    (hs : ∀ p i x σ' H', xs[i]? = some x → Pv p i σ' H' → g x σ' H' fun σ2 H2 => tu { D with nx := Pv p (i + 1), ct := Pv p (i + 1), bk := D.nx } σ2 H2) (hd : ∀ p σ' H', Pv p xs.length σ' H' → D.nx σ' H') : tFor (iTup K tl) g tu D σ H :=
  h H (Ex.refl H) _ fun p H1 hp e h1 => ⟨p, rfl, ⟨xs, st_of h1⟩, for_tup (Pv p) (h0 p H1 hp e h1) (hl p) (hs p) (hd p)⟩
theorem w_forUn {xs : List V} {tl : TE} {j : Nat} {tu : TS} {D : Ends} (h : EvU tl σ H xs) (Pv : Addr → Nat → L2.St → Hp → Prop) (h0 : ∀ p H1, H p = none → Ex H H1 → H1 p = some (.tup xs) → Pv p 0 σ H1) (hl : ∀ p i σ' H', i ≤ xs.length → Pv p i σ' H' → SqT K H' p xs)
    (hs : ∀ p i x σ' H', xs[i]? = some x → Pv p i σ' H' → tu { D with nx := Pv p (i + 1), ct := Pv p (i + 1), bk := D.nx } (σ'.set j (some x)) H') (hd : ∀ p σ' H', Pv p xs.length σ' H' → D.nx σ' H') : tFor (iTup K tl) (gName j) tu D σ H :=
  w_forU h Pv h0 hl hs hd
end
end My

namespace My
open PySem PySem.Spec PyProof.Rows L2 Evl
section
variable {X : Cx}
theorem inD (K : PySem.W.Frag) (hu : X.A.units + 65 < cLine) (h : X.K = K := by rfl) : OpR X (compareOp .In) (rInD K) := by subst h; exact op_inD hu
theorem notInD (K : PySem.W.Frag) (hu : X.A.units + 65 < cLine) (h : X.K = K := by rfl) : OpR X (compareOp .NotIn) (rNotInD K) := by subst h; exact op_notInD hu
end
section
variable {K : PySem.W.Frag} {σ : L2.St} {H : Hp} {te ta tb : TE} {t : TT}
/-- a value for each name of a sequence -/
theorem el_mapW {wi : TI} {j : Nat} {vs : List Nat} {ps : List Str} (g : Str → V) (hn : ps.length ≤ 40000) (lj : j < σ.length)
    (hi : ∀ H1, Ex H H1 → ∀ R : It → Hp → Prop, (∀ J H2, Ex H1 H2 → (∃ G, Walk J (ps.map V.str).length G (fun i H3 x H4 => H4 = H3 ∧ (ps.map V.str)[i]? = some x) ∧ ∀ H3, Ex H2 H3 → G H3) → R J H2) → wi σ H1 R)
    (hw : ∀ x, wipe ((wipe σ vs).set j (some x)) vs = wipe σ vs)
    (he : ∀ m ∈ ps, ∀ H1, Ex H H1 → Ev te ((wipe σ vs).set j (some (.str m))) H1 (g m)) :
    EvL (tLc wi (gName j) tYes te vs) σ H (ps.map g) := by
  have e : given ps.length (fun _ => true) (fun i => g (ps.getD i "")) = ps.map g := by
    rw [given_map]
    apply List.ext_getElem
    · simp
    · intro i h1 h2
      simp at h2
      simp [List.getD_eq_getElem?_getD, List.getElem?_eq_getElem h2]
  rw [← e]
  refine el_lcW (n := ps.length) (fun _ => true) (fun i => g (ps.getD i "")) hn (fun i x => (ps.map V.str)[i]? = some x) (by rw [← List.length_map (f := V.str)]; exact hi) hw (fun _ _ _ _ _ _ => et_yes) (fun i x H1 e1 hlt hx _ => ?_)
  rw [List.getElem?_map, List.getElem?_eq_getElem hlt] at hx
  obtain rfl : x = V.str ps[i] := (Option.some.inj hx).symm
  rw [List.getD_eq_getElem?_getD, List.getElem?_eq_getElem hlt]
  exact he _ (List.getElem_mem hlt) H1 e1
theorem s_forTn {a : Addr} {xs : List V} {tl : TE} {tu : TS} {D : Ends} {j : Nat} (h : Ev tl σ H (.ref a)) (hx : SqT K H a xs) (Pv : Nat → L2.St → Hp → Prop) (h0 : ∀ H1, Ex H H1 → Pv 0 σ H1) (hl : ∀ i σ' H', i ≤ xs.length → Pv i σ' H' → SqT K H' a xs)
    (hs : ∀ i x σ' H', xs[i]? = some x → Pv i σ' H' → tu { D with nx := Pv (i + 1), ct := Pv (i + 1), bk := D.nx } (σ'.set j (some x)) H') (hd : ∀ σ' H', Pv xs.length σ' H' → D.nx σ' H') : tFor (iTup K tl) (gName j) tu D σ H :=
  s_forT h hx Pv h0 hl hs hd
/-- the names that pass a test, each handed on -/
theorem el_filtG {wi : TI} {j : Nat} {vs : List Nat} {ps : List Str} (p : Str → Bool) (hn : ps.length ≤ 40000)
    (hi : ∀ H1, Ex H H1 → ∀ R : It → Hp → Prop, (∀ J H2, Ex H1 H2 → (∃ G, Walk J (ps.map V.str).length G (fun i H3 x H4 => H4 = H3 ∧ (ps.map V.str)[i]? = some x) ∧ ∀ H3, Ex H2 H3 → G H3) → R J H2) → wi σ H1 R)
    (hw : ∀ x, wipe ((wipe σ vs).set j (some x)) vs = wipe σ vs)
    (ht : ∀ m ∈ ps, ∀ H1, Ex H H1 → EvT t ((wipe σ vs).set j (some (.str m))) H1 (p m)) (he : ∀ m ∈ ps, ∀ H1, Ex H H1 → Ev te ((wipe σ vs).set j (some (.str m))) H1 (.str m)) :
    EvL (tLc wi (gName j) t te vs) σ H ((ps.filter p).map V.str) := by
  rw [← given_filter]
  refine el_lcW (n := ps.length) (fun i => p (ps.getD i "")) (fun i => V.str (ps.getD i "")) hn (fun i x => (ps.map V.str)[i]? = some x) (by rw [← List.length_map (f := V.str)]; exact hi) hw (fun i x H1 e1 hlt hx => ?_) (fun i x H1 e1 hlt hx _ => ?_)
  all_goals
    rw [List.getElem?_map, List.getElem?_eq_getElem hlt] at hx
    obtain rfl : x = V.str ps[i] := (Option.some.inj hx).symm
    rw [List.getD_eq_getElem?_getD, List.getElem?_eq_getElem hlt]
  · exact ht _ (List.getElem_mem hlt) H1 e1
  · exact he _ (List.getElem_mem hlt) H1 e1
theorem el_lc2F {wi : TI} {i j : Nat} {as : List Addr} {rows : List (List Str)} (p : List Str → Bool) (hr : Paired (fun a xs => SqA K H a (xs.map V.str)) as rows) (few : rows.flatten.length ≤ 10000) (li : i < σ.length) (lj : j < σ.length) (hij : i ≠ j)
    (hi : ∀ H1, Ex H H1 → ∀ R : It → Hp → Prop, (∀ J H2, Ex H1 H2 → (∃ G, Walk J (as.map V.ref).length G (fun i H3 x H4 => H4 = H3 ∧ (as.map V.ref)[i]? = some x) ∧ ∀ H3, Ex H2 H3 → G H3) → R J H2) → wi σ H1 R)
    (ht : ∀ (a : Addr) (r : List Str) H1, Ex H H1 → r ∈ rows → SqA K H1 a (r.map V.str) → EvT t ((wipe σ [i, j]).set i (some (.ref a))) H1 (p r)) :
    EvL (tLc2 wi (gName i) t (iAny K i) (gName j) tYes (tVar j) [i, j] [j]) σ H ((rows.filter p).flatten.map V.str) := by
  intro H1 e1 Q want
  refine hi H1 e1 _ fun J H2 e2 ⟨G, wk, hG⟩ D hD => ?_
  have hlen : as.length = rows.length := Paired.length hr
  have hn : (as.map V.ref).length = as.length := by simp
  have sub : ∀ k, ((rows.take k).filter p).flatten.length ≤ ((rows.take k)).flatten.length := fun k => by
    generalize rows.take k = l
    induction l with
    | nil => exact Nat.le_refl _
    | cons r u ih =>
      rw [List.filter_cons]
      split
      · rw [List.flatten_cons, List.flatten_cons, List.length_append, List.length_append]; omega
      · rw [List.flatten_cons, List.length_append]; omega
  refine ⟨fun k m H3 => m = as.length - k ∧ k ≤ as.length ∧ Ex H2 H3 ∧ H3 D = some (.lst (((rows.take k).filter p).flatten.map V.str)), ⟨as.length, by simp, Nat.zero_le _, Ex.new hD, upd_same⟩, ?_⟩
  rintro k m H3 ⟨rfl, hk, e3, h3⟩
  by_cases hlt : k < as.length
  · refine .inr ⟨wk.goes k H3 (by rw [hn]; exact hlt) (hG H3 e3), fun H4 => Ex H2 H4 ∧ H4 D = some (.lst (((rows.take (k + 1)).filter p).flatten.map V.str)), fun H4 p => ⟨as.length - (k + 1), by omega, rfl, hlt, p.1, p.2⟩, fun x H4 y => ?_⟩
    obtain ⟨e4, hx⟩ := wk.yields k H3 x H4 (by rw [hn]; exact hlt) (hG H3 e3) y
    clear y
    subst e4
    rw [List.getElem?_map, List.getElem?_eq_getElem hlt] at hx
    obtain rfl : x = V.ref as[k] := (Option.some.inj hx).symm
    have hlt2 : k < rows.length := by omega
    have hrow : SqA K H as[k] ((rows[k]).map V.str) := paired_get hr hlt hlt2
    have hmem : rows[k] ∈ rows := List.getElem_mem hlt2
    have htk : rows.take (k + 1) = rows.take k ++ [rows[k]] := List.take_succ_eq_append_getElem hlt2
    have small : (rows.take k).flatten.length + (rows[k]).length ≤ 10000 := by
      have q : rows.flatten.length = (rows.take (k + 1)).flatten.length + (rows.drop (k + 1)).flatten.length := by rw [← List.length_append, ← List.flatten_append, List.take_append_drop]
      rw [htk, List.flatten_append, List.length_append, List.flatten_singleton] at q
      omega
    have sk := sub k
    refine ⟨wipe_two, ?_⟩
    have gi : ((wipe σ [i, j]).set i (some (V.ref as[k])))[i]? = some (some (V.ref as[k])) := List.getElem?_set_self (by rw [wipe_length]; exact li)
    have eH4 : Ex H H4 := (e1.trans e2).trans e3
    refine ht as[k] rows[k] H4 eH4 hmem (hrow.ex eH4) H4 (Ex.refl H4) _ fun H5 e5 => ?_
    have e25 := e3.trans e5
    have h5 := e5 _ _ h3
    cases hp : p rows[k] with
    | false =>
      rw [if_neg Bool.false_ne_true]
      refine ⟨e25, ?_⟩
      rw [h5, htk, List.filter_append, List.filter_cons, hp]
      simp
    | true =>
      rw [if_pos rfl]
      have eH5 : Ex H H5 := eH4.trans e5
      have core : ∀ (J1 : It) (G1 : Hp → Prop), Walk J1 (rows[k]).length G1 (fun a H5 x H6 => H6 = H5 ∧ ((rows[k]).map V.str)[a]? = some x) → (∀ H5, Ex H2 H5 → G1 H5) →
          ∃ W1 : Nat → Nat → Hp → Prop, (∃ m, W1 0 m H5) ∧ ∀ a m H5, W1 a m H5 → (J1.stop a H5 ∧ (Ex H2 H5 ∧ H5 D = some (.lst (((rows.take (k + 1)).filter p).flatten.map V.str)))) ∨
            (J1.go a H5 ∧ ∃ Nx1 : Hp → Prop, (∀ H', Nx1 H' → ∃ m', m' < m ∧ W1 (a + 1) m' H') ∧ ∀ x H', J1.yld a H5 x H' → gName j x (wipe ((wipe σ [i, j]).set i (some (V.ref as[k]))) [j]) H' fun σ3 H5 => wipe σ3 [j] = wipe ((wipe σ [i, j]).set i (some (V.ref as[k]))) [j] ∧
              (if true = true then tVar j σ3 H5 fun y H7 => ∃ acc, H7 D = some (.lst acc) ∧ acc.length < sizeLine ∧ Nx1 (upd H7 D (.lst (acc ++ [y]))) else Nx1 H5)) := by
        intro J1 G1 wk1 hG1
        refine ⟨fun a m H6 => m = (rows[k]).length - a ∧ a ≤ (rows[k]).length ∧ Ex H2 H6 ∧ H6 D = some (.lst (((rows.take k).filter p).flatten.map V.str ++ ((rows[k]).take a).map V.str)), ⟨(rows[k]).length, by simp, Nat.zero_le _, e25, by rw [h5]; simp⟩, ?_⟩
        rintro a m H6 ⟨rfl, ha, e6, h6⟩
        by_cases hla : a < (rows[k]).length
        · refine .inr ⟨wk1.goes a H6 hla (hG1 H6 e6), _, fun H7 p => ⟨(rows[k]).length - (a + 1), by omega, rfl, hla, p⟩, fun x H7 y => ?_⟩
          obtain ⟨e7, hx7⟩ := wk1.yields a H6 x H7 hla (hG1 H6 e6) y
          clear y
          subst e7
          rw [List.getElem?_map, List.getElem?_eq_getElem hla] at hx7
          obtain rfl : x = V.str ((rows[k])[a]) := (Option.some.inj hx7).symm
          refine ⟨wipe1 _ _ _, ?_⟩
          rw [if_pos rfl]
          refine ⟨V.str ((rows[k])[a]), List.getElem?_set_self (by rw [wipe_length, List.length_set, wipe_length]; exact lj), _, h6, sz_lt ?_, Ex.mut e6 hD, ?_⟩
          · rw [List.length_append, List.length_map, List.length_map, List.length_take]
            omega
          · rw [upd_same, List.append_assoc, List.take_succ_eq_append_getElem hla, List.map_append]
            rfl
        · have ea : a = (rows[k]).length := by omega
          subst ea
          refine .inl ⟨wk1.stops H6 (hG1 H6 e6), e6, ?_⟩
          rw [h6, List.take_length, htk, List.filter_append, List.filter_cons, hp, ← List.map_append]
          simp
      rcases hrow with z | z
      · exact ⟨as[k], gi, .inl ⟨⟨_, ex_l eH5 z⟩, core _ _ (by have q := walk_list (K := K) (a := as[k]) (xs := (rows[k]).map V.str); rw [List.length_map] at q; exact q) fun H5 e5 => ex_l ((e1.trans e2).trans e5) z⟩⟩
      · exact ⟨as[k], gi, .inr ⟨⟨_, ex_t eH5 z⟩, core _ _ (by have q := walk_tup (K := K) (a := as[k]) (xs := (rows[k]).map V.str); rw [List.length_map] at q; exact q) fun H5 e5 => ex_t ((e1.trans e2).trans e5) z⟩⟩
  · have ek : k = as.length := by omega
    subst ek
    refine .inl ⟨by rw [← hn]; exact wk.stops H3 (hG H3 e3), ?_⟩
    refine want D H3 (fresh_back e2 hD) (e2.trans e3) ?_
    rw [h3, hlen, List.take_length]
end
theorem room65 {k : Nat} {A : Around} (r : Room k A) : A.units + 65 < cLine := by
  have := r.un
  omega
end My

namespace My
open PySem PySem.Spec PyProof.Rows L2
section
variable {X : Cx} {C : Addr} {bmB : List Value} {B newId initId : String}
/-- X(), X without an own __init__, to be raised -/
theorem pmk_own0 {x : Str} {p pos : Pos} (F : ExcBaseFacts B newId initId bmB) (q : PySem.W.excIn X.K C bmB newId = true) (gC : X.mg x = some (.ref C)) (kC : PySem.W.keepIn X.K (.ref C) = true) (r : Raises X (.ref C)) (hg : Gl X x)
    (hdb : (x == ("__debug__" : Str)) = false := by decide) : PMk X (.Call (.Name x p) [] [] pos) (fun _ H Q => Q (.ref C) none H) := by
  intro pins s σ H Q I h
  refine wpAny_Call_Name_kw (ld_glob I hg gC ?_ hdb)
  refine PySem.W.callWith_K0 I.kIn kC ?_
  obtain ⟨bm, N, nm, qn, bs, hdct, sn, sub, ab, col, dd, k0, k1, k2, k3, k5, mN, hC, hN, hni, T⟩ := exc_obj I.kIn q
  refine wpAny_call_exc_subT F T hC hN hni (fun h' e hm => ?_) (by show 0 ≤ sizeLine; omega)
  exact mk_of I hm r h (I.hok.gone hm.new)
end
/-- isinstance(e, c), e the exception that the suite holds, without attributes -/
def rIsE3 (K : PySem.W.Frag) (a : Addr) (cls : Value) (d : Option Addr) : List V → Hp → VK → Prop := fun xs H Q => ∃ (D : Addr) (c : V) (cv : Value) (b : Bool), cls = .ref D ∧ d = none ∧ ExcC K D ∧ xs = [.ref a, c] ∧ ClsV c cv ∧ PySem.W.kitOne K (.ref D) cv = some b ∧ Q (.bl b) H
theorem call_isE3 {X : Cx} {a : Addr} {cls : Value} {d : Option Addr} {oe : Obj} {pn : List (Addr × Obj)} (hz : Zc cls d oe) (hf : ∃ vs, oe.data = .fields vs) : CallR (X.suite a ((a, oe) :: pn)) (.builtin "isinstance") (rIsE3 X.K a cls d) := by
  intro pins s σ H xs us Q I r h
  obtain ⟨D, c, cv, b, rfl, rfl, C, rfl, k, e, q⟩ := h
  exact call_isE C hz hf pins s σ H _ us Q I r ⟨c, cv, b, rfl, fun u ru => k.eq ru, e, q⟩
/-- a def that raises nothing here -/
theorem FnOk.calm {P : Program} {w : World} {K : PySem.W.Frag} {mg : Str → Option Value} {base : Heap} {k : Nat} {f : Addr} {fd : FuncData} {ps : List Str} {sp : Sp} (F : FnOk P w K mg base (L2.CX P w) k f fd ps sp) :
    FnOk P w K mg base CX0 k f fd ps (fun vs H Q _ => sp vs H Q fun _ _ _ => False) :=
  ⟨fun vs H Q _ h => F.len vs H Q _ h, fun A outer s H args us vs Q E hr he hb hv hs => codeAny_mono (F.run A outer s H args us vs Q _ hr he hb hv hs) fun r s' h => by
    cases r with
    | error e =>
      obtain ⟨a, B, H', cls, d, _, _, _, _, _, _, _, q⟩ := h
      exact q
    | ok fl =>
      cases fl with
      | ret u => exact h
      | next => exact h
      | brk => exact h
      | cont => exact h⟩
end My
namespace My
open PySem PySem.Spec PyProof.Rows L2 Evl
section
variable {K : PySem.W.Frag} {σ : L2.St} {H : Hp} {te : TE} {a CU : Addr}
theorem ev_isE3 {c : V} {cv : Value} {b : Bool} (h : Ev te σ H (.ref a)) (C : ExcC K CU) (hc : ClsV c cv) (k : PySem.W.kitOne K (.ref CU) cv = some b) : Ev (tCB (rIsE3 K a (.ref CU) none) (tCons te (tCons (tC c) tNil))) σ H (.bl b) := fun H1 e Q q =>
  h H1 e _ fun H2 e2 => ⟨CU, c, cv, b, rfl, rfl, C, rfl, hc, k, q H2 e2⟩
/-- the way on, kept apart -/
theorem w_abs {tu : TS} {D : Ends} (I : L2.St → Hp → Prop) (h : ∀ D' : Ends, (∀ σ' H', I σ' H' → D'.nx σ' H') → tu D' σ H) (k : ∀ σ' H', I σ' H' → D.nx σ' H') : tu D σ H := h D k
end
end My


namespace My
open PySem PySem.Spec PyProof.Rows L2
/-! ### C.m(..), m a staticmethod -/
structure SMet (K : PySem.W.Frag) (C : Addr) (mc : Value) (m : Str) (p g : Addr) : Prop where
  at_ : PySem.W.findCls K (.ref C) mc m = some (.get (.builtin "staticmethod.__get__") (.ref p) .none (.ref C))
  rc : ∃ rest, PySem.W.recIn K p "staticmethod" = some (.ref g :: rest)
  kp : PySem.W.keepIn K (.ref g) = true
section
variable {X : Cx} {CX : CXT} {k : Nat} {C p g : Addr} {mc : Value} {sp : Sp} {E : XK} {o e : Expr} {es : List Expr} {m : Str} {pos apos : Pos} {ta : TE} {t : TA} {pl : Sem Bool} {fd : FuncData} {ps : List Str}
theorem getsm_ok {pins : List (Addr × Obj)} {σ : L2.St} {H : Hp} {s : Shared} {A : Around} {E : Value → Shared → Prop} {Q : Value × List Value → Shared → Prop} (I : Inv X pins σ H s) (r : ClX.CRead X.K C mc) (c : SMet X.K C mc m p g)
    (h : ∀ s', Inv X pins σ H s' → Q (.ref g, []) s') : wpAny (model X.prog X.w) A (getMethod (.ref C) m pl) Q E s := by
  obtain ⟨rest, hp⟩ := c.rc
  refine PySem.W.method_cls I.kIn r.ga (PySem.W.cls_bind I.kIn r.rd c.at_ (wpAny_call (PySem.W.sm_get (s := { s with toks := s.toks + 1 }) I.kIn hp ?_)))
  exact PySem.W.handed_on rfl (h _ (I.tok _))
def tSMeth (C : Addr) (sp : Sp) (E : XK) (ta : TE) (t : TA) : TE := fun σ H Q => ta σ H fun x H1 => x = .ref C ∧ t σ H1 fun vs H2 => sp vs H2 Q E
theorem pe_smeth (he : PE X o ta) (r : ClX.CRead X.K C mc) (c : SMet X.K C mc m p g) (F : FnOk X.prog X.w X.K X.mg X.base CX k g fd ps sp) (hr : Room k X.A) (hb : Binds X.K fd ps []) (hx : Passes CX X E) (ha : PA X (e :: es) t)
    (hst : starEach (e :: es) X.env = (false, eval e X.env) :: starEach es X.env := by rfl) (hpl : (backTo pos (starEach es X.env)).any (·.1) = false := by rfl)
    (ht : eval (.Call (.Attribute o m apos) (e :: es) [] pos) X.env = (do
      let ov ← eval o X.env
      standAt apos.atName
      let (f, first) ← holding [ov] (getMethod ov m pl)
      callWith pos f first (backTo pos (starEach (e :: es) X.env)) (backToKw pos (keywordEach [] X.env))) := by rfl) :
    PE X (.Call (.Attribute o m apos) (e :: es) [] pos) (tSMeth C sp E ta t) := by
  refine ⟨fun pins s σ H Q I h => ?_⟩
  refine PySem.W.methodCall_KW (pl := pl) (thn (he.run pins s σ H _ I h) fun u s1 ⟨x, H1, I1, rx, ex, q⟩ => ?_) ht
  subst ex
  obtain rfl : u = Value.ref C := rx
  refine getsm_ok I1 r c fun s2 I2 => ?_
  refine PySem.W.callWith_K (first := []) (h₀ := X.base) I.ok.mod.kin c.kp (thn (ha.run pos pins s2 σ H1 _ I2 q) fun us s3 ⟨vs, H2, I3, rv, q2⟩ => ⟨I3.kIn, ?_⟩) hst hpl
  exact run_fn (us := us) (vs := vs) (dvs := []) F hr hb .nil hx I3 rv (by rw [List.append_nil]; exact q2)
/-- the same within a try -/
def tSMethS (C : Addr) (sp : Sp) (E : L2.St → XK) (ta : TE) (t : TA) : TE := fun σ H Q => ta σ H fun x H1 => x = .ref C ∧ t σ H1 fun vs H2 => sp vs H2 Q (E σ)
theorem pe_smethS {E : L2.St → XK} (he : PE X o ta) (r : ClX.CRead X.K C mc) (c : SMet X.K C mc m p g) (F : FnOk X.prog X.w X.K X.mg X.base CX k g fd ps sp) (hr : Room k X.A) (hb : Binds X.K fd ps []) (hx : ∀ σ, PassesAt CX X σ (E σ)) (ha : PA X (e :: es) t)
    (hst : starEach (e :: es) X.env = (false, eval e X.env) :: starEach es X.env := by rfl) (hpl : (backTo pos (starEach es X.env)).any (·.1) = false := by rfl)
    (ht : eval (.Call (.Attribute o m apos) (e :: es) [] pos) X.env = (do
      let ov ← eval o X.env
      standAt apos.atName
      let (f, first) ← holding [ov] (getMethod ov m pl)
      callWith pos f first (backTo pos (starEach (e :: es) X.env)) (backToKw pos (keywordEach [] X.env))) := by rfl) :
    PE X (.Call (.Attribute o m apos) (e :: es) [] pos) (tSMethS C sp E ta t) := by
  refine ⟨fun pins s σ H Q I h => ?_⟩
  refine PySem.W.methodCall_KW (pl := pl) (thn (he.run pins s σ H _ I h) fun u s1 ⟨x, H1, I1, rx, ex, q⟩ => ?_) ht
  subst ex
  obtain rfl : u = Value.ref C := rx
  refine getsm_ok I1 r c fun s2 I2 => ?_
  refine PySem.W.callWith_K (first := []) (h₀ := X.base) I.ok.mod.kin c.kp (thn (ha.run pos pins s2 σ H1 _ I2 q) fun us s3 ⟨vs, H2, I3, rv, q2⟩ => ⟨I3.kIn, ?_⟩) hst hpl
  exact run_fnSD (us := us) (vs := vs) (dvs := []) F hr hb .nil (hx σ) I3 rv (by rw [List.append_nil]; exact q2)
end
end My

namespace My
open PySem PySem.Spec PyProof.Rows L2
/-! ### for i, x in enumerate(list, start=c) -/
/-- as Ite, counted from c -/
def ItC (K : PySem.W.Frag) (a : Addr) (c : Int) : It :=
  { go := fun i H => ∃ (xs : List V) (x : V), SqL K H a xs ∧ xs[i]? = some x
    yld := fun i H v H' => ∃ T x, v = .ref T ∧ H T = none ∧ H' = upd H T (.tup [.int (c + (i : Nat)), x]) ∧ ∀ xs, SqL K H a xs → xs[i]? = some x
    stop := fun i H => ∃ xs : List V, SqL K H a xs ∧ xs.length = i }
theorem turn_enumC {P : Program} {w : World} {K : PySem.W.Frag} {elts : List Expr} {kk : Nat} {tpos : Pos} (a e it : Addr) (c : Int) :
    Turn P w K (.Tuple elts kk tpos) (ItC K a c) [e, it] e (fun i h => (∃ old, IsEnum h e it (c + (i : Nat)) old) ∧ h.IsListIter it a i ∧ e ≠ it ∧ a ≠ it ∧ a ≠ e) where
  mem := List.mem_cons_self ..
  obj := fun i h st b hb => by
    obtain ⟨⟨old, he⟩, ⟨o, ho, hc, hd⟩, _⟩ := st
    rcases List.mem_cons.mp hb with z | hb
    · subst z; exact ⟨_, he, fun v q => nomatch q⟩
    · cases List.mem_singleton.mp hb
      exact ⟨o, ho, fun v q => by rw [hd] at q; cases q⟩
  keep := fun i h h' st k => by
    obtain ⟨⟨old, he⟩, hi, hne⟩ := st
    exact ⟨⟨old, k e (List.mem_cons_self ..) _ he⟩, hi.at fun o q => k it (by simp) o q, hne⟩
  item := by
    intro X hP hw hK hc i pins s σ H E I hf st hg
    subst hP; subst hw; subst hK
    obtain ⟨⟨old, he⟩, hit, hne, hai, hae⟩ := st
    obtain ⟨xs, x, hq, hx⟩ := hg
    obtain ⟨its, rv, p, hz⟩ := I.list hq
    obtain ⟨u, hu, ru⟩ := rv.get hx
    have hel : e < s.heap.objs.size := Heap.lt_size he
    have hil : it < s.heap.objs.size := by
      obtain ⟨_, q, _⟩ := hit
      exact Heap.lt_size q
    have lt : i < its.toArray.size := by
      obtain ⟨lt, _⟩ := List.getElem?_eq_some_iff.mp hu
      simpa using lt
    have hh : X.A.in1.handled = none := I.ok.hd hc
    refine wpAny_pyNext_enum_itemC (Draws.list hh it a hai its.toArray) he ⟨hit, p.isList⟩ lt hne (by simp [hne, Ne.symm hae]) fun y h' tk hy ho st' hT hsz hk => ?_
    obtain rfl : y = u := by
      rw [show its.toArray[i]? = its[i]? by simp, hu] at hy
      exact (Option.some.inj hy).symm
    obtain ⟨hit', hl'⟩ := st'
    refine ⟨_, rfl, wpAny_letOwnedTupleGo_enum (s := { s with heap := h', toks := tk + 1 }) ho fun h'' he' sb => ?_⟩
    have hT2 := (sb.2 _ (Nat.ne_of_gt hel)).trans hT
    have new : ObjOk X.prog X.w (upd H s.heap.objs.size (.tup [.int (c + (i : Nat)), x])) h'' s.heap.objs.size (.tup [.int (c + (i : Nat)), x]) := by
      refine ⟨?_, [.int (c + (i : Nat)) tk, y], .cons ⟨_, rfl⟩ (.cons ru .nil), _, hT2, rfl, _, rfl⟩
      show 2 ≤ sizeLine
      decide
    have I1 : Inv X pins σ (upd H s.heap.objs.size (.tup [.int (c + (i : Nat)), x])) { s with heap := h'', toks := tk + 1 } := by
      refine I.turnedNew (ch := [e, it]) (fun b ob hb q => ?_) hf (Nat.le_refl _) new
      have n1 : b ≠ e := fun z => hb (by simp [z])
      have n2 : b ≠ it := fun z => hb (by simp [z])
      exact (sb.2 b n1).trans (hk b ob n1 n2 q)
    refine ⟨.ref s.heap.objs.size, _, I1, rfl, ⟨_, x, rfl, I.hok.fresh (Nat.le_refl _), rfl, fun ys hy => by rw [I.list_inj hy hq]; exact hx⟩, ⟨⟨y, ?_⟩, hit'.at fun o q => (sb.2 it (Ne.symm hne)).trans q, hne, hai, hae⟩, fun b hb => ?_⟩
    · have e1 : c + ((i + 1 : Nat) : Int) = c + (i : Int) + 1 := by omega
      rw [e1]
      exact he'
    · have lb : b < s.heap.objs.size := by
        rcases List.mem_cons.mp hb with z | hb
        · rw [z]; exact hel
        · rw [List.mem_singleton.mp hb]; exact hil
      rw [upd_ne (Nat.ne_of_lt lb)]
      exact (hf b hb).1
  done := by
    intro X hP hw hK hc i pins s σ H E I hf st hg
    subst hP; subst hw; subst hK
    obtain ⟨⟨old, he⟩, hit, hne, hai, hae⟩ := st
    obtain ⟨xs, hq, hx⟩ := hg
    obtain ⟨its, rv, p, hz⟩ := I.list hq
    obtain ⟨f0, f1, f2, f3, f4, f5⟩ := hf it (by simp)
    have hl := rv.length
    have hh : X.A.in1.handled = none := I.ok.hd hc
    have en : i = its.toArray.size := by simp; omega
    subst en
    exact wpAny_pyNext_enum_endD (Draws.list hh it a hai its.toArray) he ⟨hit, p.isList⟩ fun h' eb => ⟨rfl, I.turned (t' := s.toks) (fun b o hb q => eb b o hb q) f0 f1 f3 f4 f5⟩
  self := fun A i s Q E st h => by
    obtain ⟨⟨_, he⟩, _⟩ := st
    exact wpAny_pyIter_enum he h
def iEnumC (K : PySem.W.Frag) (c : Int) (te : TE) : TI := fun σ H R => te σ H fun v H1 => ∃ a xs, v = .ref a ∧ SqL K H1 a xs ∧ R (ItC K a c) H1
theorem walk_enumC {K : PySem.W.Frag} {a : Addr} {xs : List V} {c : Int} : Walk (ItC K a c) xs.length (fun H => SqL K H a xs) (YPair (fun i => some (.int (c + (i : Nat)))) (fun i => xs[i]?)) := by
  refine ⟨fun i _ hi q => ⟨xs, xs[i], q, by simp [hi]⟩, fun _ q => ⟨xs, q, rfl⟩, fun i H v H' _ q y => ?_⟩
  obtain ⟨T, x, h1, h2, h3, h4⟩ := y
  exact ⟨T, .int (c + (i : Nat)), x, h1, h2, h3, rfl, h4 xs q⟩
section
variable {M : Model} {A : Around} {E : Value → Shared → Prop} {s : Shared} {env : Env}
/-- the call of a built-in class with keywords -/
theorem callWith_typeK {pos : Pos} {T : String} {args : List (Bool × Sem Value)} {kws : List (Option Str × Sem Value)} {Q : Value → Shared → Prop} (ha : args.any (·.1) = false) (hk : kws.any (·.1.isNone) = false)
    (h : wpAny M A (evalArgs (.type T) true args kws) (fun a s₁ => wpAny M A (call (.type T) ([] ++ a.pos) a.kw) Q E s₁) E s) : wpAny M A (callWith pos (.type T) [] args kws) Q E s := by
  unfold callWith
  refine wpAny_bind (wpAny_holding (wpAny_mono h (fun a s₁ q => wpAny_bind (wpAny_standAt ?_)) fun _ _ z => z))
  simp only [ha, hk, Bool.or_false]
  refine wpAny_bind (wpAny_pure ?_)
  exact wpAny_bind (wpAny_mono q (fun r s₂ z => wpAny_bind (wpAny_holding (wpAny_point (wpAny_pure z)))) fun _ _ z => z)
theorem callWith_typeKw {pos : Pos} {T : String} {e : Expr} {kws : List Keyword} {Q : Value → Shared → Prop}
    (h : wpAny M A (spliced (backTo pos (starEach [e] env))) (fun vs s₁ => wpAny M A (evalAll ((backToKw pos (keywordEach kws env)).map (·.2))) (fun kvs s₂ => wpAny M A (call (.type T) vs (((backToKw pos (keywordEach kws env)).filterMap (·.1)).zip kvs)) Q E s₂) E s₁) E s)
    (he : backTo pos (starEach [e] env) = (false, eval e env) :: backTo pos (starEach [] env) := by rfl) (hall : (backToKw pos (keywordEach kws env)).all (·.1.isSome) = true := by rfl) (hkw : (backToKw pos (keywordEach kws env)).any (·.1.isNone) = false := by rfl) :
    wpAny M A (callWith pos (.type T) [] (backTo pos (starEach [e] env)) (backToKw pos (keywordEach kws env))) Q E s := by
  refine callWith_typeK (by rw [he]; rfl) hkw ?_
  rw [he] at h ⊢
  exact evalArgs_kwB hall h
end
theorem pi_enumC (K : PySem.W.Frag) {X : Cx} {e : Expr} {te : TE} {p pos tpos kp cp : Pos} {elts : List Expr} {kk ck : Nat} {c : Int} (hK : X.K = K) (hg : Gl X "enumerate") (hm : X.mg "enumerate" = none) (h : PE X e te) (c0 : 0 ≤ c) (c1 : c < 1000)
    (hs : backTo pos (starEach [e] X.env) = (false, eval e X.env) :: backTo pos (starEach [] X.env) := by rfl) :
    PI X (.Tuple elts kk tpos) (.Call (.Name "enumerate" p) [e] [⟨some "start", .Constant (.int c) ck cp, kp⟩] pos) (iEnumC K c te) := by
  subst hK
  refine ⟨fun pins s σ H R I w => ?_⟩
  refine wpAny_Call_Name_kw (ld_blt I hg hm boot_enumerate (callWith_typeKw ?_ hs))
  rw [hs]
  refine Calls.spliced_cons (thn (h.run pins s σ H _ I w) fun u s1 ⟨x, H1, I1, rx, a, xs, ex, hq, q⟩ => Calls.spliced_nil ?_)
  subst ex
  cases (show u = Value.ref a from rx)
  refine kws_cons (pe_int.run pins s1 σ H1 (fun v H2 => v = .int c ∧ H2 = H1) I1 ⟨rfl, rfl⟩ |> fun z => thn z fun v s2 ⟨y, H2, I2, ry, ey, eh⟩ => kws_nil ?_)
  subst ey
  subst eh
  obtain ⟨t, rfl⟩ := ry
  obtain ⟨its, rv, p', hz⟩ := I2.list hq
  have hal : a < s2.heap.objs.size := by
    obtain ⟨o, ho, _⟩ := p'.isList
    exact Heap.lt_size ho
  show wpAny _ _ (call (.type "enumerate") [.ref a] [(Str.ofString "start", .int c t)]) _ _ s2
  refine enum_begins_start (begins_list a its.toArray) p'.isList (by omega) (by omega) fun h' he hit hsz hk => wpAny_pyIter_enum he ?_
  have I3 : Inv X pins σ H2 { s2 with heap := h' } := I2.kept (t' := s2.toks) hk
  refine ⟨s2.heap.objs.size + 1, [s2.heap.objs.size + 1, s2.heap.objs.size], _, _, H2, rfl, I3, turn_enumC a (s2.heap.objs.size + 1) s2.heap.objs.size c, ⟨⟨.none, ?_⟩, ?_, Nat.succ_ne_self _, Nat.ne_of_lt hal, Nat.ne_of_lt (Nat.lt_succ_of_lt hal)⟩, fun b hb => ?_, q⟩
  · rw [show c + ((0 : Nat) : Int) = c by omega]
    exact he
  · exact ⟨_, hit, rfl, rfl⟩
  · have hle : s2.heap.objs.size ≤ b := by
      rcases List.mem_cons.mp hb with z | hb
      · rw [z]; exact Nat.le_add_right _ _
      · rw [List.mem_singleton.mp hb]; exact Nat.le_refl _
    exact I2.fpOk hle (I2.hok.fresh hle)
end My

namespace My
open PySem PySem.Spec PyProof.Rows L2 Evl
/-! ### what reading a schema does, line by line -/
inductive Er where
  | bad
  | dup (n : Str)
  | unk (n : Str)
  | many
structure Tb where
  nm : Str
  par : Option Str
  cols : List Str
  fol : List (Str × Str)
structure Sm where
  tb : List Tb
  ow : List (Str × Str)
def findT (tb : List Tb) (n : Str) : Option Tb := tb.find? fun t => decide (t.nm = n)
def known (tb : List Tb) (n : Str) : Bool := decide (n ∈ tb.map (·.nm))
def parOf (tb : List Tb) (n : Str) : Option Str := (findT tb n).bind (·.par)
def chainF (tb : List Tb) : Nat → Str → List Str
  | 0, n => [n]
  | k + 1, n => match parOf tb n with
    | none => [n]
    | some p => n :: chainF tb k p
def chainT (tb : List Tb) (n : Str) : List Str := chainF tb tb.length n
def dupIn : List Str → List Str → Option Str
  | _, [] => none
  | pre, c :: r => if c ∈ pre then some c else dupIn (pre ++ [c]) r
def rlTable (s : Sm) (n : Str) (par : Option Str) (cols : List Str) : Er ⊕ Sm :=
  if known s.tb n then .inl (.dup n) else
  if (par.map (known s.tb)) = some false then .inl (.unk (par.getD "")) else
  match dupIn [] cols with
  | some c => .inl (.dup c)
  | none => if 4 < cols.length ∨ 6 < s.tb.length + 1 ∨ 4 < (chainT (s.tb ++ [⟨n, par, cols, []⟩]) n).length then .inl .many else .inr ⟨s.tb ++ [⟨n, par, cols, []⟩], s.ow⟩
def posErr (tb : List Tb) : Str → List Str → Option Str
  | _, [] => none
  | h, [c] => if c ∈ ((findT tb h).map (·.cols)).getD [] then none else some c
  | h, n :: m :: r => if parOf tb h = some n then posErr tb n (m :: r) else some n
def dotS (p : Str) : List Str := Txt.split p "."
def rlOwner (s : Sm) (n pos : Str) : Er ⊕ Sm :=
  if known s.tb n = false then .inl (.unk n) else
  if n ∈ s.ow.map (·.1) then .inl (.dup n) else
  match posErr s.tb n (dotS pos) with
  | some c => .inl (.unk c)
  | none => .inr ⟨s.tb, s.ow ++ [(n, pos)]⟩
def addF (n c u : Str) (t : Tb) : Tb := if t.nm = n then { t with fol := t.fol ++ [(c, u)] } else t
def rlFollow (s : Sm) (n c u : Str) : Er ⊕ Sm :=
  match findT s.tb n with
  | none => .inl (.unk n)
  | some t => if c ∉ t.cols then .inl (.unk c) else
    if c ∈ t.fol.map (·.1) then .inl (.dup c) else
    match t.par with
    | none => .inl (.unk u)
    | some p => if u ∈ ((findT s.tb p).map (·.cols)).getD [] then .inr ⟨s.tb.map (addF n c u), s.ow⟩ else .inl (.unk u)
/-- what a word may be: isNm comes with the texts -/
def formOk (isNm : Str → Bool) (ws : List Str) : Bool :=
  if ws.headD "" = "root" then decide (3 ≤ ws.length) && (ws.drop 1).all isNm
  else if ws.headD "" = "table" then decide (4 ≤ ws.length) && (ws.drop 1).all isNm
  else if ws.headD "" = "owner" then decide (ws.length = 3) && (isNm (ws.getD 1 "") && (dotS (ws.getD 2 "")).all isNm)
  else if ws.headD "" = "follow" then decide (ws.length = 4) && (ws.drop 1).all isNm
  else false
def rlOf (s : Sm) (ws : List Str) : Er ⊕ Sm :=
  if ws.headD "" = "root" then rlTable s (ws.getD 1 "") none (ws.drop 2)
  else if ws.headD "" = "table" then rlTable s (ws.getD 1 "") (some (ws.getD 2 "")) (ws.drop 3)
  else if ws.headD "" = "owner" then rlOwner s (ws.getD 1 "") (ws.getD 2 "")
  else rlFollow s (ws.getD 1 "") (ws.getD 2 "") (ws.getD 3 "")
def rl (isNm : Str → Bool) (s : Sm) (ws : List Str) : Er ⊕ Sm := if formOk isNm ws then rlOf s ws else .inl .bad
/-- all lines: the first error with its number, or the schema -/
def rd (isNm : Str → Bool) : Nat → Sm → List (List Str) → (Er × Nat) ⊕ Sm
  | _, s, [] => .inr s
  | k, s, ws :: r => match rl isNm s ws with
    | .inl e => .inl (e, k)
    | .inr s' => rd isNm (k + 1) s' r
/-! ### what stands -/
structure WF (tb : List Tb) : Prop where
  nd : (tb.map (·.nm)).Nodup
  par : ∀ i (h : i < tb.length) p, tb[i].par = some p → ∃ j, ∃ h' : j < tb.length, j < i ∧ tb[j].nm = p
theorem find_at {tb : List Tb} (nd : (tb.map (·.nm)).Nodup) {i : Nat} (h : i < tb.length) : findT tb tb[i].nm = some tb[i] := by
  unfold findT
  induction tb generalizing i with
  | nil => simp at h
  | cons t r ih =>
    rw [List.map_cons, List.nodup_cons] at nd
    cases i with
    | zero => simp
    | succ i =>
      have hi : i < r.length := by simpa using h
      have ne : ¬ t.nm = r[i].nm := fun e => nd.1 (by rw [e]; exact List.mem_map_of_mem (List.getElem_mem hi))
      rw [List.find?_cons]
      simp only [List.getElem_cons_succ]
      rw [decide_eq_false ne]
      exact ih nd.2 hi
theorem known_at {tb : List Tb} {n : Str} (h : known tb n = true) : ∃ i, ∃ hi : i < tb.length, tb[i].nm = n := by
  obtain ⟨t, ht, e⟩ := List.mem_map.mp (of_decide_eq_true h)
  obtain ⟨i, hi, rfl⟩ := List.mem_iff_getElem.mp ht
  exact ⟨i, hi, e⟩
theorem known_of {tb : List Tb} {i : Nat} (h : i < tb.length) : known tb tb[i].nm = true := decide_eq_true (List.mem_map_of_mem (List.getElem_mem h))
theorem find_none {tb : List Tb} {n : Str} (h : known tb n = false) : findT tb n = none := by
  unfold findT
  rw [List.find?_eq_none]
  intro t ht
  have := of_decide_eq_false h
  simp only [decide_eq_true_eq]
  exact fun e => this (e ▸ List.mem_map_of_mem ht)
theorem par_at {tb : List Tb} (w : WF tb) {i : Nat} (h : i < tb.length) : parOf tb tb[i].nm = tb[i].par := by
  unfold parOf
  rw [find_at w.nd h]
  rfl
theorem chain_stable {tb : List Tb} (w : WF tb) : ∀ i (h : i < tb.length) k, i ≤ k → chainF tb k tb[i].nm = chainF tb i tb[i].nm := by
  intro i
  induction i using Nat.strongRecOn with
  | _ i ih =>
    intro h k hk
    cases hp : tb[i].par with
    | none =>
      have e : parOf tb tb[i].nm = none := (par_at w h).trans hp
      have one : ∀ k, chainF tb k tb[i].nm = [tb[i].nm] := fun k => by
        cases k with
        | zero => rfl
        | succ k => unfold chainF; rw [e]
      rw [one, one]
    | some p =>
      have e : parOf tb tb[i].nm = some p := (par_at w h).trans hp
      obtain ⟨j, hj, lt, rfl⟩ := w.par i h p hp
      obtain ⟨k, rfl⟩ : ∃ k', k = k' + 1 := ⟨k - 1, by omega⟩
      obtain ⟨m, rfl⟩ : ∃ m, i = m + 1 := ⟨i - 1, by omega⟩
      unfold chainF
      rw [e]
      show _ :: _ = _ :: _
      rw [ih j lt hj k (by omega), ih j lt hj m (by omega)]
theorem chain_next {tb : List Tb} (w : WF tb) {i j : Nat} (h : i < tb.length) (hj : j < tb.length) (lt : j < i) (hp : tb[i].par = some tb[j].nm) : chainF tb i tb[i].nm = tb[i].nm :: chainF tb j tb[j].nm := by
  obtain ⟨m, rfl⟩ : ∃ m, i = m + 1 := ⟨i - 1, by omega⟩
  conv => lhs; unfold chainF
  rw [(par_at w h).trans hp]
  show _ :: _ = _ :: _
  rw [chain_stable w j hj m (by omega)]
theorem chain_end {tb : List Tb} (w : WF tb) {i : Nat} (h : i < tb.length) (hp : tb[i].par = none) : chainF tb i tb[i].nm = [tb[i].nm] := by
  cases i with
  | zero => rfl
  | succ i =>
    unfold chainF
    rw [(par_at w h).trans hp]
theorem chain_len {tb : List Tb} : ∀ k n, (chainF tb k n).length ≤ k + 1
  | 0, _ => Nat.le_refl _
  | k + 1, n => by
    unfold chainF
    cases parOf tb n with
    | none => show 1 ≤ _; omega
    | some p => have := chain_len (tb := tb) k p; show _ + 1 ≤ _; omega
theorem wf_nil : WF [] := ⟨List.nodup_nil, fun i h => absurd h (Nat.not_lt_zero i)⟩
theorem wf_snoc {tb : List Tb} (w : WF tb) {t : Tb} (h : known tb t.nm = false) (hp : ∀ p, t.par = some p → known tb p = true) : WF (tb ++ [t]) := by
  refine ⟨?_, fun i hi p e => ?_⟩
  · rw [List.map_append, List.nodup_append]
    refine ⟨w.nd, by simp, fun a ha b hb e => ?_⟩
    have hb : b = t.nm := by simpa using hb
    rw [e, hb] at ha
    exact of_decide_eq_false h ha
  · rw [List.length_append] at hi
    simp only [List.length_cons, List.length_nil] at hi
    by_cases lt : i < tb.length
    · rw [List.getElem_append_left lt] at e
      obtain ⟨j, hj, jl, ej⟩ := w.par i lt p e
      exact ⟨j, by rw [List.length_append]; omega, jl, by rw [List.getElem_append_left hj]; exact ej⟩
    · have ei : i = tb.length := by omega
      subst ei
      rw [List.getElem_append_right (Nat.le_refl _)] at e
      simp only [Nat.sub_self, List.getElem_cons_zero] at e
      obtain ⟨j, hj, ej⟩ := known_at (hp p e)
      exact ⟨j, by rw [List.length_append]; omega, hj, by rw [List.getElem_append_left hj]; exact ej⟩
theorem addF_nm (n c u : Str) (t : Tb) : (addF n c u t).nm = t.nm ∧ (addF n c u t).par = t.par ∧ (addF n c u t).cols = t.cols := by
  unfold addF
  split <;> exact ⟨rfl, rfl, rfl⟩
theorem wf_addF {tb : List Tb} (w : WF tb) (n c u : Str) : WF (tb.map (addF n c u)) := by
  have e : (tb.map (addF n c u)).map (·.nm) = tb.map (·.nm) := by
    rw [List.map_map]
    exact List.map_congr_left fun t _ => (addF_nm n c u t).1
  refine ⟨by rw [e]; exact w.nd, fun i hi p h => ?_⟩
  have hi' : i < tb.length := by simpa using hi
  rw [List.getElem_map, (addF_nm n c u _).2.1] at h
  obtain ⟨j, hj, jl, ej⟩ := w.par i hi' p h
  exact ⟨j, by simpa using hj, jl, by rw [List.getElem_map, (addF_nm n c u _).1]; exact ej⟩
/-- few: at most m lines of each kind -/
structure Few (m : Nat) (s : Sm) : Prop where
  tb : s.tb.length ≤ m
  ow : s.ow.length ≤ m
  fo : ∀ t ∈ s.tb, t.fol.length ≤ m
theorem Few.mono {m m' : Nat} {s : Sm} (h : Few m s) (l : m ≤ m') : Few m' s := ⟨Nat.le_trans h.tb l, Nat.le_trans h.ow l, fun t ht => Nat.le_trans (h.fo t ht) l⟩
theorem rlTable_ok {s s' : Sm} {n : Str} {par : Option Str} {cols : List Str} (h : rlTable s n par cols = .inr s') :
    known s.tb n = false ∧ (∀ p, par = some p → known s.tb p = true) ∧ dupIn [] cols = none ∧ cols.length ≤ 4 ∧ s.tb.length + 1 ≤ 6 ∧ (chainT (s.tb ++ [⟨n, par, cols, []⟩]) n).length ≤ 4 ∧ s' = ⟨s.tb ++ [⟨n, par, cols, []⟩], s.ow⟩ := by
  unfold rlTable at h
  by_cases h1 : known s.tb n = true
  · rw [if_pos h1] at h; cases h
  rw [if_neg h1] at h
  by_cases h2 : par.map (known s.tb) = some false
  · rw [if_pos h2] at h; cases h
  rw [if_neg h2] at h
  cases hd : dupIn [] cols with
  | some c => rw [hd] at h; cases h
  | none =>
    rw [hd] at h
    dsimp only at h
    split at h
    · cases h
    · rename_i h3
      cases h
      refine ⟨by simpa using h1, fun p e => ?_, rfl, by omega, by omega, by omega, rfl⟩
      subst e
      cases hk : known s.tb p with
      | true => rfl
      | false => exact absurd (by rw [Option.map_some, hk]) h2
theorem rl_wf {isNm : Str → Bool} {s s' : Sm} {ws : List Str} (w : WF s.tb) (h : rl isNm s ws = .inr s') : WF s'.tb := by
  unfold rl at h
  split at h
  · unfold rlOf at h
    have tabl : ∀ {n : Str} {par : Option Str} {cols : List Str}, rlTable s n par cols = .inr s' → WF s'.tb := fun {n par cols} h => by
      obtain ⟨h1, h2, _, _, _, _, rfl⟩ := rlTable_ok h
      exact wf_snoc w h1 h2
    split at h
    · exact tabl h
    · split at h
      · exact tabl h
      · split at h
        · unfold rlOwner at h
          split at h
          · cases h
          · split at h
            · cases h
            · split at h
              · cases h
              · cases h; exact w
        · unfold rlFollow at h
          split at h
          · cases h
          · split at h
            · cases h
            · split at h
              · cases h
              · split at h
                · cases h
                · split at h
                  · cases h
                    exact wf_addF w _ _ _
                  · cases h
  · cases h
theorem rl_few {isNm : Str → Bool} {s s' : Sm} {ws : List Str} {m : Nat} (w : Few m s) (h : rl isNm s ws = .inr s') : Few (m + 1) s' := by
  have w1 := w.mono (Nat.le_succ m)
  unfold rl at h
  split at h
  · unfold rlOf at h
    have tabl : ∀ {n : Str} {par : Option Str} {cols : List Str}, rlTable s n par cols = .inr s' → Few (m + 1) s' := fun {n par cols} h => by
      obtain ⟨_, _, _, _, _, _, rfl⟩ := rlTable_ok h
      refine ⟨by rw [List.length_append]; exact Nat.succ_le_succ w.tb, w1.ow, fun t ht => ?_⟩
      rcases List.mem_append.mp ht with z | z
      · exact w1.fo t z
      · obtain rfl : t = _ := by simpa using z
        exact Nat.zero_le _
    split at h
    · exact tabl h
    · split at h
      · exact tabl h
      · split at h
        · unfold rlOwner at h
          split at h
          · cases h
          · split at h
            · cases h
            · split at h
              · cases h
              · cases h
                exact ⟨w1.tb, by rw [List.length_append]; exact Nat.succ_le_succ w.ow, w1.fo⟩
        · unfold rlFollow at h
          split at h
          · cases h
          · split at h
            · cases h
            · split at h
              · cases h
              · split at h
                · cases h
                · split at h
                  · cases h
                    refine ⟨by rw [List.length_map]; exact w1.tb, w1.ow, fun t ht => ?_⟩
                    obtain ⟨t0, h0, rfl⟩ := List.mem_map.mp ht
                    have := w.fo t0 h0
                    unfold addF
                    split
                    · rw [List.length_append]; exact Nat.succ_le_succ this
                    · omega
                  · cases h
  · cases h
end My

namespace My
open PySem PySem.Spec PyProof.Rows L2
/-! ### try .. except X as n .. except Y as n .. -/
abbrev Cl := Value × Nat × (Addr → Value → Option Addr → TS)
/-- the clauses' wishes, one behind the other -/
def wAsM (K : PySem.W.Frag) (Wout : WX) (D : Ends) : List Cl → WX
  | [] => Wout
  | (c, i, ts) :: r => wAs K c i ts (wAsM K Wout D r) D
inductive HdsAs (X : Cx) : List ExceptHandler → List Cl → Prop
  | nil : HdsAs X [] []
  | cons {x n : Str} {c : Value} {i : Nat} {ts : Addr → Value → Option Addr → TS} {b₀ : Stmt} {su : List Stmt} {np hp : Pos} {hds : List ExceptHandler} {l : List Cl} (hi : X.N[i]? = some n) (hln : X.env.kindOf n = some .local) (hc : Names X x c)
      (hsu : ∀ (a : Addr) (oe : Obj) (cls : Value) (d : Option Addr) (pn : List (Addr × Obj)), Zc cls d oe → (∃ vs, oe.data = .fields vs) → PSs (X.suite a ((a, oe) :: pn)) (b₀ :: su) (ts a cls d))
      (r : HdsAs X hds l) : HdsAs X (.ExceptHandler (some (.Name x np)) (some n) (b₀ :: su) hp :: hds) ((c, i, ts) :: l)
section
variable {X : Cx} {body : List Stmt} {hd : ExceptHandler} {hds : List ExceptHandler} {l : List Cl} {pos : Pos} {tb : WX → TS} {Wout : WX}
theorem ps_try_asM (hs : X.stack = X.env :: X.outer) (hf : X.env.frame = some X.env.locals) (hN : X.N.Nodup) (tk : Takes X Wout)
    (hb : ∀ (W : WX) (pn : List (Addr × Obj)) (xe : Value → Shared → Prop), Takes (X.tr pn xe) W → PassesOwn (model X.prog X.w) X.A X.env xe → PSs (X.tr pn xe) body (tb W))
    (hh : HdsAs X (hd :: hds) l) : PS X (.Try body (hd :: hds) [] [] pos) (fun D σ H => tb (wAsM X.K Wout D l) D σ H) := by
  constructor
  intro pins s σ H D I want
  have okI := I.ok
  have frX : X.A.frames = some (X.env :: X.outer) := by rw [okI.frames, hs]
  refine wpAny_Try_except ?_
  have body_run := (hb (wAsM X.K Wout D l) (X.pn ++ pins) (fun e z => wpAny (model X.prog X.w) X.A (noteFrame e X.env) (fun _ z => wpAny (model X.prog X.w) X.A (setFlight e none) (fun _ z => wpAny (model X.prog X.w) X.A (handleBy e X.env (hd :: hds)) (SP X pins D) X.xe z) X.xe z) X.xe z) ?cat PassesOwn.looking).run [] s σ H D (I.toTry _) want
  case cat =>
    intro u z xx
    obtain ⟨a, B, sI, pins', σ1, H1, cls, d, rfl, J', nb, up, sky, na, os, ag, w⟩ := xx
    have J : Inv X pins σ1 H1 sI := J'.ofTry okI
    have skyX : Sky B (X.env :: X.outer) a (Zc cls d) X.env.locals z.heap := by rw [← hs]; exact sky
    show wpAny (model X.prog X.w) X.A (noteFrame (.ref a) X.env) _ _ _
    refine Sky.land Zc.steady frX hf skyX fun g3 fl up3 => ?_
    have J3 : Inv X pins σ1 H1 { z with heap := g3 } := J.landed nb fl.1 (up.trans up3) os ag
    obtain ⟨oe, vs, he, hz, hdat⟩ := fl.there
    have nfr : a ∉ frs (X.env :: X.outer) := fun hm => by
      obtain ⟨_, o', e', hnf⟩ := fl.2.2.1.mem hm
      rw [he] at e'
      cases e'
      exact hnf _ hdat
    have nL : a ≠ X.env.locals := fun e => nfr (List.mem_filterMap.mpr ⟨X.env, List.mem_cons_self, by rw [hf, e]⟩)
    have nF : a ∉ X.fs := fun hm => by
      obtain ⟨e, h1, q⟩ := List.mem_filterMap.mp hm
      exact nfr (List.mem_filterMap.mpr ⟨e, List.mem_cons_of_mem _ h1, q⟩)
    have go : ∀ {hds' : List ExceptHandler} {l' : List Cl}, HdsAs X hds' l' → wAsM X.K Wout D l' cls d σ1 H1 → wpAny (model X.prog X.w) X.A (handleBy (.ref a) X.env hds') (SP X pins D) X.xe { z with heap := g3 } := by
      intro hds' l' hk
      induction hk with
      | nil =>
        intro w
        refine wpAny_handleBy_nil ?_
        obtain ⟨_, _, _, oe', vs', T, oT, ts', he', hz', hd', h1, hr⟩ := id fl
        unfold PySem.passOn
        refine wpAny_bind (wpAny_field he' hd' h1 ?_)
        rw [if_neg (show ¬ ((Value.ref T == Value.none) = true) from by simp)]
        have fin : wpAny (model X.prog X.w) X.A (setFlight (.ref a) X.env.frame) (fun _ y => wpAny (model X.prog X.w) X.A (throw (.ref a) : Sem Flow) (SP X pins D) X.xe y) X.xe { z with heap := g3 } := by
          rw [hf]
          refine HandSPX.setFlight_upZ fl fun g4 hh4 up4 => wpAny_throw (tk _ _ ?_)
          exact ⟨a, B, sI, pins, σ1, H1, cls, d, rfl, J, nb, (up.trans up3).trans up4, Or.inr (Or.inr (by rw [hs]; exact hh4)), na, os, ag, w⟩
        first
          | exact wpAny_bind (wpAny_pure (wpAny_bind fin))
          | exact wpAny_bind fin
      | @cons x n c i ts b₀ su np hp hds2 l2 hi hln hc hsu r ih =>
        intro w
        obtain ⟨b, hb1, yes, no⟩ := w
        have S3 := J3.suite he hdat na nL nF
        refine wpAny_handleBy_cons (codeAny_handlers_test ?_) (by intro q; cases q)
        have LT : PySem.W.Looks (model X.prog X.w) g3 (typeOf (.ref a)) cls := fun A Q E y k q => wpAny_typeOf_ref (k _ _ he) (by rw [hz.1]; exact q)
        have LM := PySem.W.exm_one (M := model X.prog X.w) J3.kIn LT hb1
        have test : ∀ {Q : Value → Shared → Prop} {E : Value → Shared → Prop}, Q c { z with heap := g3 } → wpAny (model X.prog X.w) (X.A.mark (some (.ref a))) (eval (.Name x np) X.env) Q E { z with heap := g3 } := fun {Q E} q => by
          obtain ⟨hg, hdb, hm | ⟨hm, hv, hn⟩⟩ := hc
          · exact ld_glob (X := X.suite a ((a, oe) :: (X.pn ++ pins))) S3 hg hm q hdb
          · exact ld_blt (X := X.suite a ((a, oe) :: (X.pn ++ pins))) S3 hg hm hv q hn hdb
        refine test (LM.here ?_)
        cases b with
        | false =>
          show wpAny _ X.A (handleBy (.ref a) X.env hds2) _ _ _
          exact ih (no rfl)
        | true =>
          refine codeAny_handlers_suite_as (HandSPX.lands_againZ fl fun g4 fl4 up4 => ?_)
          have J4 : Inv X pins σ1 H1 { z with heap := g4 } := J.landed nb fl4.1 ((up.trans up3).trans up4) os ag
          obtain ⟨oe4, vs4, he4, hz4, hd4⟩ := fl4.there
          have S4 := J4.suite he4 hd4 na nL nF
          refine store_ok (X := X.suite a ((a, oe4) :: (X.pn ++ pins))) (v := .ref a) S4 hN hi (Or.inl hln) rfl (fun s5 S5 => ?_) (.inr hln)
          have run5 := (hsu a oe4 cls d (X.pn ++ pins) hz4 ⟨_, hd4⟩).run [] s5 _ H1 _ S5 (yes rfl a na)
          refine wpAny_mono run5 (fun f s6 hsp => ?_) (fun _ _ y => False.elim y)
          have gone : ∀ {σ6 : L2.St} {H6 : Hp} {Q : Shared → Prop}, Inv (X.suite a ((a, oe4) :: (X.pn ++ pins))) [] σ6 H6 s6 → (∀ s7, Inv X pins (σ6.set i none) H6 s7 → Q s7) →
              wpAny (model X.prog X.w) X.A (do bindName X.env n .none; unbindBehindTheSuite X.env n hp) (fun _ s7 => Q s7) X.xe s6 := fun {σ6 H6 Q} S6 hq => gone_ok (S6.unsuite okI) hN hi hln hq
          cases f with
          | ret u =>
            obtain ⟨v6, σ6, H6, S6, r6, q6⟩ := hsp
            exact gone S6 fun s7 J7 => ⟨_, _, _, J7, r6, q6⟩
          | next => obtain ⟨σ6, H6, S6, q6⟩ := hsp; exact gone S6 fun s7 J7 => ⟨_, _, J7, q6⟩
          | brk => obtain ⟨σ6, H6, S6, q6⟩ := hsp; exact gone S6 fun s7 J7 => ⟨_, _, J7, q6⟩
          | cont => obtain ⟨σ6, H6, S6, q6⟩ := hsp; exact gone S6 fun s7 J7 => ⟨_, _, J7, q6⟩
    exact go hh w
  refine wpAny_mono body_run (fun f s1 hsp => ?_) (fun e s1 he => he)
  cases f with
  | ret u => obtain ⟨v, σ1, H1, J, r, q⟩ := hsp; exact ⟨v, σ1, H1, J.ofTry okI, r, q⟩
  | next => obtain ⟨σ1, H1, J, q⟩ := hsp; exact wpAny_execs_nil ⟨σ1, H1, J.ofTry okI, q⟩
  | brk => obtain ⟨σ1, H1, J, q⟩ := hsp; exact ⟨σ1, H1, J.ofTry okI, q⟩
  | cont => obtain ⟨σ1, H1, J, q⟩ := hsp; exact ⟨σ1, H1, J.ofTry okI, q⟩
end
end My

namespace My
open PySem PySem.Spec PyProof.Rows L2 Evl
/-! ### a schema in the heap -/
structure Row where
  t : Tb
  ca : Addr
  fa : Addr
abbrev tbs (rs : List Row) : List Tb := rs.map (·.t)
structure Ad where
  (a dx p c o f : Addr)
  tx : Str
def parV : Option Str → V
  | none => .non
  | some p => .str p
def kvS (xs : List (Str × Str)) : List (Key × V) := xs.map fun x => (Sum.inr x.1, V.str x.2)
def kvR (rs : List Row) (g : Row → V) : List (Key × V) := rs.map fun r => (Sum.inr r.t.nm, g r)
structure SA (C : Addr) (H : Hp) (A : Ad) (rs : List Row) (ow : List (Str × Str)) : Prop where
  ins : H A.a = some (.ins C A.dx [("text", .str A.tx), ("_parents", .ref A.p), ("_columns", .ref A.c), ("_owners", .ref A.o), ("_follows", .ref A.f)])
  hp : H A.p = some (.dK (kvR rs fun r => parV r.t.par))
  hc : H A.c = some (.dK (kvR rs fun r => .ref r.ca))
  ho : H A.o = some (.dK (kvS ow))
  hf : H A.f = some (.dK (kvR rs fun r => .ref r.fa))
  cs : ∀ r ∈ rs, H r.ca = some (.lst (r.t.cols.map V.str))
  fs : ∀ r ∈ rs, H r.fa = some (.dK (kvS r.t.fol))
  ne : (A.p :: A.c :: A.o :: A.f :: rs.map (·.fa)).Nodup
/-- what may change -/
def mutS (A : Ad) (rs : List Row) : List Addr := A.p :: A.c :: A.o :: A.f :: rs.map (·.fa)
theorem SA.ex {C : Addr} {H H' : Hp} {A : Ad} {rs : List Row} {ow : List (Str × Str)} (e : Ex H H') (h : SA C H A rs ow) : SA C H' A rs ow :=
  ⟨e _ _ h.ins, e _ _ h.hp, e _ _ h.hc, e _ _ h.ho, e _ _ h.hf, fun r hr => e _ _ (h.cs r hr), fun r hr => e _ _ (h.fs r hr), h.ne⟩
/-- all but M stands -/
def Fr (M : List Addr) (H H' : Hp) : Prop := ∀ b u, H b = some u → b ∉ M → H' b = some u
theorem Fr.of {M : List Addr} {H H' : Hp} (e : Ex H H') : Fr M H H' := fun b u h _ => e b u h
theorem Fr.trans {M : List Addr} {H H1 H2 : Hp} (a : Fr M H H1) (b : Fr M H1 H2) : Fr M H H2 := fun c u h n => b c u (a c u h n) n
theorem Fr.mono {M N : List Addr} {H H' : Hp} (a : Fr M H H') (h : ∀ b ∈ M, b ∈ N ∨ H b = none) : Fr N H H' := fun c u hc n => a c u hc fun z => (h c z).elim n fun q => by rw [hc] at q; cases q
theorem Fr.upd {M : List Addr} {H : Hp} {p : Addr} {o : HO} (h : p ∈ M) : Fr M H (upd H p o) := fun b u hb n => by rw [upd_ne (fun e => n (by rw [e]; exact h))]; exact hb
theorem val_kvR {rs : List Row} {g : Row → V} {n : Str} : valV (kvR rs g) (.inr n) = (rs.find? fun r => decide (r.t.nm = n)).map g := by
  unfold valV kvR
  rw [List.find?_map]
  have e : ((fun kv : Key × V => decide (kv.1 = Sum.inr n)) ∘ fun r : Row => (Sum.inr r.t.nm, g r)) = fun r => decide (r.t.nm = n) := by
    funext r
    simp only [Function.comp]
    exact decide_eq_decide.mpr ⟨fun z => Sum.inr.inj z, fun z => congrArg Sum.inr z⟩
  rw [e, Option.map_map]
  rfl
theorem val_kvS {xs : List (Str × Str)} {n : Str} : valV (kvS xs) (.inr n) = (xs.find? fun x => decide (x.1 = n)).map fun x => V.str x.2 := by
  unfold valV kvS
  rw [List.find?_map]
  have e : ((fun kv : Key × V => decide (kv.1 = Sum.inr n)) ∘ fun x : Str × Str => (Sum.inr x.1, V.str x.2)) = fun x => decide (x.1 = n) := by
    funext x
    simp only [Function.comp]
    exact decide_eq_decide.mpr ⟨fun z => Sum.inr.inj z, fun z => congrArg Sum.inr z⟩
  rw [e, Option.map_map]
  rfl
def findR (rs : List Row) (n : Str) : Option Row := rs.find? fun r => decide (r.t.nm = n)
theorem find_tbs {rs : List Row} {n : Str} : findT (tbs rs) n = (findR rs n).map (·.t) := by
  unfold findT findR tbs
  rw [List.find?_map]
  rfl
theorem has_kvR {rs : List Row} {g : Row → V} {n : Str} : (valV (kvR rs g) (.inr n)).isSome = known (tbs rs) n := by
  rw [val_kvR, Option.isSome_map, Bool.eq_iff_iff, List.find?_isSome]
  unfold known tbs
  simp only [decide_eq_true_eq, List.mem_map]
  constructor
  · rintro ⟨r, hr, e⟩
    exact ⟨r.t, ⟨r, hr, rfl⟩, e⟩
  · rintro ⟨t, ⟨r, hr, rfl⟩, e⟩
    exact ⟨r, hr, e⟩
theorem has_kvS {xs : List (Str × Str)} {n : Str} : (valV (kvS xs) (.inr n)).isSome = decide (n ∈ xs.map (·.1)) := by
  rw [val_kvS, Option.isSome_map, Bool.eq_iff_iff, List.find?_isSome]
  simp only [decide_eq_true_eq, List.mem_map]
theorem findR_of {rs : List Row} {n : Str} (h : known (tbs rs) n = true) : ∃ r, findR rs n = some r ∧ r ∈ rs ∧ r.t.nm = n := by
  cases e : findR rs n with
  | none =>
    have q := e
    unfold findR at q
    rw [List.find?_eq_none] at q
    obtain ⟨t, ht, et⟩ := List.mem_map.mp (of_decide_eq_true h)
    obtain ⟨r, hr, rfl⟩ := List.mem_map.mp ht
    exact absurd (q r hr) (by simp [et])
  | some r =>
    have q := e
    unfold findR at q
    exact ⟨r, rfl, List.mem_of_find?_eq_some q, by simpa using List.find?_some q⟩
/-! ### errors -/
structure ErA where
  (CB CD CU CM : Addr)
def ErA.cls (e : ErA) : Er → Addr
  | .bad => e.CB
  | .dup _ => e.CD
  | .unk _ => e.CU
  | .many => e.CM
def erFs (line : Int) : Er → List (Str × V)
  | .bad => [("line", .int line)]
  | .dup n => [("line", .int line), ("name", .str n)]
  | .unk n => [("line", .int line), ("name", .str n)]
  | .many => [("line", .int line)]
/-- it raises, and all but M stands -/
def Rz (M : List Addr) (E : XK) (C : Addr) (fs : List (Str × V)) (H : Hp) : Prop := ∀ d l H', H d = none → Fr M H H' → H' d = some (.xd l) → (∀ q ∈ fs, l.lookup q.1 = some q.2) → E (.ref C) (some d) H'
theorem Rz.ex {M : List Addr} {E : XK} {C : Addr} {fs : List (Str × V)} {H H1 : Hp} (e : Ex H H1) (h : Rz M E C fs H) : Rz M E C fs H1 := fun d l H' hd f hl q => h d l H' (fresh_back e hd) ((Fr.of e).trans f) hl q
theorem fr_back {M : List Addr} {H H1 : Hp} {d : Addr} (f : Fr M H H1) (hM : ∀ b ∈ M, ∃ u, H1 b = some u) (h : H1 d = none) : H d = none := by
  cases e : H d with
  | none => rfl
  | some u =>
    by_cases m : d ∈ M
    · obtain ⟨v, hv⟩ := hM d m
      rw [h] at hv
      cases hv
    · rw [f d u e m] at h
      cases h
/-! ### rules -/
theorem cvalK (K : PySem.W.Frag) {X : Cx} {e : Expr} {f : Str} {pos : Pos} {ta : TE} (he : PE X e ta) (h : X.K = K := by rfl) (hb : attributeBase e f X.env (eval e X.env) = eval e X.env := by rfl) : PE X (.Attribute e f pos) (ClX.tCVal K ta f) := by subst h; exact ClX.pe_cval he hb
section
variable {K : PySem.W.Frag} {σ : L2.St} {H : Hp} {te ta tb td ty tv : TE} {t u : TT} {D : Ends} {tz : TS} {g : TG}
theorem ev_fldX {f : Str} {x C dx : Addr} {fs : List (Str × V)} {y : V} (cl : Cls K C) (no : NoAttr K C f) (h : Ev te σ H (.ref x)) (hx : H x = some (.ins C dx fs)) (l : fs.lookup f = some y) : Ev (tFld K te f) σ H y := fun H1 e1 Q q =>
  h H1 e1 _ fun H2 e2 => ⟨x, C, dx, fs, y, rfl, (e1.trans e2) _ _ hx, cl, no, l, q H2 e2⟩
/-- o.f = e -/
theorem s_fldX {f : Str} {x C dx : Addr} {fs : List (Str × V)} {y : V} (cl : Cls K C) (no : NoAttr K C f) (few : fs.length < 1000) (hv : Ev tv σ H y) (ho : Ev ta σ H (.ref x)) (hx : H x = some (.ins C dx fs)) (k : ∀ H1, Ex H H1 → D.nx σ (upd H1 x (.ins C dx (putF f y fs)))) : sFld K ta tv f D σ H :=
  hv H (Ex.refl H) _ fun H1 e1 => ho H1 e1 _ fun H2 e2 => ⟨x, C, dx, fs, rfl, (e1.trans e2) _ _ hx, cl, no, few, k H2 (e1.trans e2)⟩
theorem s_fldN {f : Str} {x C dx : Addr} {fs : List (Str × V)} (cl : Cls K C) (no : NoAttr K C f) (few : fs.length < 1000) (ho : Ev ta σ H (.ref x)) (hx : H x = some (.ins C dx fs)) (k : ∀ n H1, H n = none → Ex H H1 → H1 n = some (.dK []) → D.nx σ (upd H1 x (.ins C dx (putF f (.ref n) fs)))) : sFld K ta tDNewK f D σ H := fun n hn => by
  have e0 : Ex H (upd H n (.dK [])) := Ex.new hn
  exact ho _ e0 _ fun H2 e2 => ⟨x, C, dx, fs, rfl, (e0.trans e2) _ _ hx, cl, no, few, k n H2 hn (e0.trans e2) (e2 _ _ upd_same)⟩
theorem ev_cval {C : Addr} {mc : Value} {f : Str} {v : V} {u : Value} (h : Ev te σ H (.ref C)) (r : ClX.CRead K C mc) (c : ClX.CVal K C mc f v u) : Ev (ClX.tCVal K te f) σ H v := fun H1 e Q q =>
  h H1 e _ fun H2 e2 => ⟨C, mc, v, u, rfl, r, c, q H2 e2⟩
/-- s.split(sep) -/
theorem el_split {K' : PySem.W.Frag} {a b : Str} (h : Ev te σ H (.str a)) (hb : Ev tb σ H (.str b)) (h0 : (b.length == 0) = false) (hl : a.length ≤ 100000 - 2) :
    EvL (tBM K' "str" (fun x xs H Q => ∃ a b, x = .str a ∧ xs = [.str b] ∧ (b.length == 0) = false ∧ a.length + 2 ≤ sizeLine ∧ rNewStrs (Txt.split a b) H Q) te (tCons tb tNil)) σ H ((Txt.split a b).map V.str) := fun H1 e Q q =>
  h H1 e _ fun H2 e2 => ⟨rfl, hb H2 (e.trans e2) _ fun H3 e3 => ⟨a, b, rfl, rfl, h0, sz_of (by omega), fun p hp => q p _ (fresh_back (e2.trans e3) hp) ((e2.trans e3).trans (Ex.new hp)) upd_same⟩⟩
theorem cutV_drop (xs : List V) (k : Nat) (h : k ≤ xs.length) : cutV xs (some (k : Int)) none = xs.drop k := by
  unfold cutV
  have e1 : HT.sIx xs.length 0 (some (k : Int)) = k := by unfold HT.sIx; dsimp only; split <;> omega
  have e2 : HT.sIx xs.length xs.length none = xs.length := rfl
  rw [e1, e2, List.take_of_length_le (by simp)]
theorem cutV_take (xs : List V) (k : Nat) (h : k ≤ xs.length) : cutV xs none (some (k : Int)) = xs.take k := by
  unfold cutV
  have e1 : HT.sIx xs.length 0 none = 0 := rfl
  have e2 : HT.sIx xs.length xs.length (some (k : Int)) = k := by unfold HT.sIx; dsimp only; split <;> omega
  rw [e1, e2]
  simp
theorem cutV_init (xs : List V) : cutV xs none (some (-1)) = xs.dropLast := by
  unfold cutV
  have e1 : HT.sIx xs.length 0 none = 0 := rfl
  rw [e1]
  cases xs with
  | nil => rfl
  | cons x t =>
    have e2 : HT.sIx (x :: t).length (x :: t).length (some (-1)) = t.length := by unfold HT.sIx; simp; omega
    rw [e2, List.dropLast_eq_take]
    simp
/-- for i, x in enumerate(xs) -/
theorem s_forEn {xs : List V} {a : Addr} {ta : TA} {tu : TS} {i j : Nat} (h : EvA ta σ H [.ref a]) (hx : SqL K H a xs) (Pv : Nat → L2.St → Hp → Prop) (h0 : ∀ H1, Ex H H1 → Pv 0 σ H1) (hl : ∀ k σ' H', k ≤ xs.length → Pv k σ' H' → SqL K H' a xs)
    (hs : ∀ k x σ' H' H1, xs[k]? = some x → Pv k σ' H' → Ex H' H1 → tu { D with nx := Pv (k + 1), ct := Pv (k + 1), bk := D.nx } ((σ'.set i (some (.int (k : Nat)))).set j (some x)) H1) (hd : ∀ σ' H', Pv xs.length σ' H' → D.nx σ' H') :
    tFor (iEnum K ta) (gTup K 2 (gCons (gName i) (gCons (gName j) gNil))) tu D σ H :=
  h H (Ex.refl H) _ fun H1 e => ⟨a, xs, rfl, ex_l e hx, for_it (walk_enum (K := K) (a := a) (xs := xs)) Pv (h0 H1 e) hl (fun k x σ' H' H2 hk p y => by
    obtain ⟨T, y1, y2, rfl, hT, rfl, e1, e2⟩ := y
    obtain rfl := Option.some.inj e1
    exact ⟨T, _, rfl, st_of upd_same, rfl, _, _, rfl, _, _, rfl, rfl, hs k y2 σ' H' _ e2 p (Ex.new hT)⟩) hd⟩
theorem q_forEn {xs : List V} {a : Addr} {ta : TA} {tu : TS} {i j : Nat} (h : EvA ta σ H [.ref a]) (hx : SqL K H a xs) (Pv : Nat → L2.St → Hp → Prop) (h0 : ∀ H1, Ex H H1 → Pv 0 σ H1) (hl : ∀ k σ' H', k ≤ xs.length → Pv k σ' H' → SqL K H' a xs)
    (hs : ∀ k x σ' H' H1, xs[k]? = some x → Pv k σ' H' → Ex H' H1 → tu { D with nx := Pv (k + 1), ct := Pv (k + 1), bk := tz D } ((σ'.set i (some (.int (k : Nat)))).set j (some x)) H1) (hd : ∀ σ' H', Pv xs.length σ' H' → tz D σ' H') :
    tSeq (tFor (iEnum K ta) (gTup K 2 (gCons (gName i) (gCons (gName j) gNil))) tu) tz D σ H := s_forEn (D := { D with nx := tz D }) h hx Pv h0 hl hs hd
/-- for i, x in enumerate(a new list, start=c) -/
theorem s_forEnC {xs : List V} {c : Int} {tu : TS} {i j : Nat} (h : EvL te σ H xs) (Pv : Addr → Nat → L2.St → Hp → Prop) (h0 : ∀ p H1, H p = none → Ex H H1 → H1 p = some (.lst xs) → Pv p 0 σ H1) (hl : ∀ p k σ' H', k ≤ xs.length → Pv p k σ' H' → SqL K H' p xs)
    (hs : ∀ p k x σ' H' H1, xs[k]? = some x → Pv p k σ' H' → Ex H' H1 → tu { D with nx := Pv p (k + 1), ct := Pv p (k + 1), bk := D.nx } ((σ'.set i (some (.int (c + (k : Nat))))).set j (some x)) H1) (hd : ∀ p σ' H', Pv p xs.length σ' H' → D.nx σ' H') :
    tFor (iEnumC K c te) (gTup K 2 (gCons (gName i) (gCons (gName j) gNil))) tu D σ H :=
  h H (Ex.refl H) _ fun p H1 hp e h1 => ⟨p, xs, rfl, sq_of h1, for_it (walk_enumC (K := K) (a := p) (xs := xs) (c := c)) (Pv p) (h0 p H1 hp e h1) (hl p) (fun k x σ' H' H2 hk pv y => by
    obtain ⟨T, y1, y2, rfl, hT, rfl, e1, e2⟩ := y
    obtain rfl := Option.some.inj e1
    exact ⟨T, _, rfl, st_of upd_same, rfl, _, _, rfl, _, _, rfl, rfl, hs p k y2 σ' H' _ e2 pv (Ex.new hT)⟩) (hd p)⟩
/-- d[k] = v, the key there or not -/
theorem s_dput {d : Addr} {kvs : List (Key × V)} {k : Key} {v : V} (h : Ev tv σ H v) (hd : Ev td σ H (.ref d)) (hy : Ev ty σ H (kV k)) (hH : H d = some (.dK kvs)) (few : kvs.length < 10000) (q : ∀ H1, Ex H H1 → D.nx σ (upd H1 d (.dK (putK kvs k v)))) : sDPut td ty tv D σ H :=
  h H (Ex.refl H) _ fun H1 e1 => hd H1 e1 _ fun H2 e2 => hy H2 (e1.trans e2) _ fun H3 e3 => ⟨d, _, rfl, DPut.k (((e1.trans e2).trans e3) _ _ hH) (sz_lt (by omega)), q H3 ((e1.trans e2).trans e3)⟩
/-- d[k] = {} -/
theorem s_dputN {d : Addr} {kvs : List (Key × V)} {k : Key} (hd : Ev td σ H (.ref d)) (hy : Ev ty σ H (kV k)) (hH : H d = some (.dK kvs)) (few : kvs.length < 10000)
    (q : ∀ n H1, H n = none → Ex H H1 → H1 n = some (.dK []) → D.nx σ (upd H1 d (.dK (putK kvs k (.ref n))))) : sDPut td ty tDNewK D σ H := fun n hn => by
  have e0 : Ex H (upd H n (.dK [])) := Ex.new hn
  exact hd _ e0 _ fun H2 e2 => hy H2 (e0.trans e2) _ fun H3 e3 => ⟨d, _, rfl, DPut.k (((e0.trans e2).trans e3) _ _ hH) (sz_lt (by omega)), q n H3 hn ((e0.trans e2).trans e3) ((e2.trans e3) _ _ upd_same)⟩
theorem et_din {d : Addr} {kvs : List (Key × V)} {k : Key} {b : Bool} (hy : Ev ty σ H (kV k)) (hd : Ev td σ H (.ref d)) (h : H d = some (.dK kvs)) (hb : (valV kvs k).isSome = b) : EvT (tB (tDIn ty td)) σ H b := et_B (ev_is (ev_din hy hd h) (by rw [hb]))
theorem et_dni {d : Addr} {kvs : List (Key × V)} {k : Key} {b : Bool} (hy : Ev ty σ H (kV k)) (hd : Ev td σ H (.ref d)) (h : H d = some (.dK kvs)) (hb : (valV kvs k).isSome = b) : EvT (tB (tDNotIn ty td)) σ H (!b) := by rw [← hb]; exact et_dnotin hy hd h
end
end My

namespace My
open PySem PySem.Spec PyProof.Rows L2
/-! ### a def that is handed the caught error -/
/-- its promise is told the error's place, class and dict -/
abbrev SpE := Addr → Addr → Addr → Sp
structure FnE (P : Program) (w : World) (K : PySem.W.Frag) (mg : Str → Option Value) (base : Heap) (k : Nat) (f : Addr) (fd : FuncData) (ps : List Str) (sp : SpE) : Prop where
  len : ∀ a C d vs H Q E, sp a C d vs H Q E → vs.length = ps.length
  run : ∀ (A : Around) (outer : List Env) (s : Shared) (H : Hp) (args : Args) (us : List Value) (vs : List V) (Q : VK) (E : XK) (p : Addr × Obj) (C d : Addr), L2H.RoomH k A → L2H.PinOk outer H s p → Zc (.ref C) (some d) p.2 → (∃ fs, p.2.data = .fields fs) →
    Env0 P w K mg base A outer s H → BindsTo s fd args (ps.zip us) → Vals vs us → sp p.1 C d vs H Q E → codeAny (model P w) A (.call (.ref f) args) (CR CX0 outer P w H s Q E) s
/-- the context of its body -/
abbrev cxE (P : Program) (w : World) (K : PySem.W.Frag) (mg : Str → Option Value) (base : Heap) (N : List Str) (qual : Str) (scope : Scope) (f : Addr) (cd : Value) (A : Around) (outer : List Env) (s : Shared) (H : Hp) (E : XK) (p : Addr × Obj) : Cx := L2H.cxH CX0 P w K mg base N qual scope f cd A outer s H E p
section
variable {P : Program} {w : World} {K : PySem.W.Frag} {mg : Str → Option Value} {base : Heap}
theorem Fun.okE {x qual : Str} {st : Stmt} {f : Addr} {fd : FuncData} {N ps : List Str} {k : Nat} {sp : SpE} (F : Fun K x qual st f fd) (S : FnScope N ps (defScope st)) (len : ∀ a C d vs H Q E, sp a C d vs H Q E → vs.length = ps.length)
    (hbody : ∀ (cdv : Value) (A : Around) (outer : List Env) (s : Shared) (H : Hp) (vs : List V) (Q : VK) (E : XK) (a : Addr) (oe : Obj) (C d : Addr), L2H.RoomH k (A.deeper (envOfC qual (defScope st) s.heap.objs.size f cdv)) → Zc (.ref C) (some d) oe → (∃ fs, oe.data = .fields fs) → sp a C d vs H Q E →
      ∃ t, PSs (cxE P w K mg base N qual (defScope st) f cdv A outer s H E (a, oe)) (defBody st) t ∧ t { nx := fun _ H' => Q .non H', rt := Q } (start N vs) H) : FnE P w K mg base (k + 1) f fd ps sp := by
  obtain ⟨oc, od, kV, doc, pm, an, cdv, ct, osl, rfl, lk, hcd⟩ := F.ex
  refine ⟨len, fun A outer s H args us vs Q E p C d hr hpin hz hf e0 hb r hsp => ?_⟩
  have hl := len _ _ _ _ _ _ _ hsp
  have KX : K.In s.heap := e0.mod.kin.keeps fun b o e => (e0.bs b o e).1
  have lim : s.heap.NoLimit := e0.mod.nolimit.keeps fun b o e => (e0.bs b o e).1
  have kinds : ∀ y ∈ ps.zip us, (defScope st).names.lookup y.1 = some .local ∨ ((defScope st).names.lookup y.1 = some .cell ∧ ((cellsFrom (s.heap.objs.size + 1) (defScope st).names []).lookup y.1).isSome = true) := by
    rintro ⟨n, v⟩ hy
    exact (S.par n (List.of_mem_zip hy).1).imp id fun q => ⟨q, PySem.W.cellsFrom_some _ _ _ (.inl q)⟩
  refine codeAny_call_function hr.depth (KX _ _ lk) rfl S.co S.gen rfl (PySem.W.codeRec_of KX hcd) (hb _ _ _ _ (wpAny_newFunctionEnv_cells S.kind kinds fun env he s1 x => ?_))
  subst he
  refine ⟨lim.keeps x.toInCall.keep, codeAny_func ?_⟩
  obtain ⟨t, ht, hq⟩ := hbody cdv A outer s H vs Q E p.1 p.2 C d (hr.deeper _) hz hf hsp
  have I := L2H.inv_startH (CX := CX0) (E := E) (cd := cdv) (f := f) (qual := qual) S hpin e0 hl r x
  refine wpAny_mono (ht.run [] s1 (start N vs) H _ I hq) (fun fl s' hs => ?_) fun e s' hs => hs
  cases fl with
  | ret u => obtain ⟨v, σ1, H1, J, rv, q⟩ := hs; exact ⟨v, H1, J.os, J.bare, J.base, J.hok, rv, q⟩
  | next => obtain ⟨σ1, H1, J, q⟩ := hs; exact ⟨.non, H1, J.os, J.bare, J.base, J.hok, rfl, q⟩
  | brk => obtain ⟨_, _, _, q⟩ := hs; exact q.elim
  | cont => obtain ⟨_, _, _, q⟩ := hs; exact q.elim
end
/-- f(e, ..) in the suite -/
def tCallE (sp : SpE) (a : Addr) (cls : Value) (d : Option Addr) (t : TA) : TE := fun σ H Q => t σ H fun vs H1 => ∃ C dd, cls = .ref C ∧ d = some dd ∧ sp a C dd vs H1 Q (fun _ _ _ => False)
section
variable {X : Cx} {k : Nat} {f a : Addr} {fd : FuncData} {ps : List Str} {sp : SpE} {x : Str} {q pos : Pos} {e : Expr} {es : List Expr} {t : TA} {oe : Obj} {cls : Value} {d : Option Addr} {pn : List (Addr × Obj)}
theorem pe_callE (F : FnE X.prog X.w X.K X.mg X.base k f fd ps sp) (hr : Room k X.A) (hg : Gl X x) (hm : X.mg x = some (.ref f)) (hk : PySem.W.keepIn X.K (.ref f) = true) (hb : Binds X.K fd ps []) (hz : Zc cls d oe) (hf : ∃ fs, oe.data = .fields fs)
    (ha : PA (X.suite a ((a, oe) :: pn)) (e :: es) t) (hdb : (x == ("__debug__" : Str)) = false := by decide) (he : starEach (e :: es) (X.suite a ((a, oe) :: pn)).env = (false, eval e (X.suite a ((a, oe) :: pn)).env) :: starEach es (X.suite a ((a, oe) :: pn)).env := by rfl)
    (hpl : (backTo pos (starEach es (X.suite a ((a, oe) :: pn)).env)).any (·.1) = false := by rfl) : PE (X.suite a ((a, oe) :: pn)) (.Call (.Name x q) (e :: es) [] pos) (tCallE sp a cls d t) := by
  constructor; intro pins s σ H Q I want
  refine wpAny_Call_Name_kw (ld_glob (X := X.suite a ((a, oe) :: pn)) I hg hm ?_ hdb)
  refine PySem.W.callWith_K (h₀ := X.base) I.ok.mod.kin hk (thn (ha.run pos pins s σ H _ I want) fun us s1 ⟨vs, H1, I1, r, C, dd, ec, ed, h⟩ => ⟨I1.kIn, ?_⟩) he hpl
  subst ec; subst ed
  have hl : us.length = ps.length := by rw [← r.length]; exact F.len _ _ _ _ _ _ _ h
  have b := hb s1 us I1.kIn (by rw [List.append_nil]; exact hl)
  rw [List.append_nil] at b
  have P1 := I1.pin (a, oe) (List.mem_append_left _ List.mem_cons_self)
  have hpin : L2H.PinOk (X.suite a ((a, oe) :: pn)).stack H1 s1 (a, oe) := ⟨P1.1, P1.2.1, fun hm => (List.mem_cons.mp (I1.stkSub a hm)).elim P1.2.2.1 P1.2.2.2.1, P1.2.2.2.2⟩
  refine wpAny_call (codeAny_mono (F.run (X.suite a ((a, oe) :: pn)).A (X.suite a ((a, oe) :: pn)).stack s1 H1 ⟨us, []⟩ us vs Q _ (a, oe) C dd ⟨hr.dp, hr.un⟩ hpin hz hf I1.env0 b r h) fun r s' hq => ?_)
  cases r with
  | error e => exact hq.elim
  | ok fl =>
    cases fl with
    | ret u => exact I1.after hq
    | next => exact hq.elim
    | brk => exact hq.elim
    | cont => exact hq.elim
end
/-! ### e.f, isinstance(e, c) where e's record is pinned -/
section
variable {X : Cx} {a C : Addr} {oe : Obj} {cls : Value} {d : Option Addr}
theorem pe_xfP {e : Expr} {te : TE} {pos : Pos} {n : Str} (T : XfC X.K C) (hno : PySem.W.findIn X.K (.ref C) n = some none) (hp : (a, oe) ∈ X.pn) (hz : Zc cls d oe) (hf : ∃ vs, oe.data = .fields vs) (he : PE X e te)
    (hb : attributeBase e n X.env (eval e X.env) = eval e X.env := by rfl) : PE X (.Attribute e n pos) (L2.tXf a cls d C n te) := by
  constructor; intro pins s σ H Q I want
  refine attr_of hb (thn (he.run pins s σ H _ I want) fun u s1 got => ?_)
  obtain ⟨x, H1, I1, rx, ex, ec, dd, fs, v, ed, ea, l, q⟩ := got
  subst ex; subst ec; subst ed
  obtain rfl : u = Value.ref a := rx
  obtain ⟨ha, _⟩ := I1.pin (a, oe) (List.mem_append_left _ hp)
  obtain ⟨vs, hd⟩ := hf
  obtain ⟨mA, hns, hr⟩ : ObjOk X.prog X.w H1 s1.heap dd (.xd fs) := I1.hok dd _ ea
  obtain ⟨od, ho, hl⟩ := lookIn_ns hns
  obtain ⟨u, hu, ru⟩ := RelO.some_of (v := v) (o := mA n) (by rw [← l]; exact hr n)
  have J : PySem.W.InstAt s1.heap a oe C (some od) := ⟨ha, hz.1, by unfold PySem.W.notCls; rw [hd] <;> rfl, by rw [hz.2]; exact ho⟩
  exact HandSPX.exc_get I1.kIn J T.ga T.gg T.exC (PySem.W.findObj_own T.hdC hno rfl (by rw [hl, hu])) (handed_of ru) ⟨v, H1, I1.tok _, ru, q⟩
theorem call_isEP (hp : (a, oe) ∈ X.pn) (hz : Zc cls d oe) (hf : ∃ vs, oe.data = .fields vs) : CallR X (.builtin "isinstance") (rIsE2 X.K a cls d) := by
  intro pins s σ H xs us Q I r h
  obtain ⟨D, dd, c, cv, b, fs, rfl, rfl, T, rfl, k, hx, e, q⟩ := h
  obtain ⟨u1, u2, rfl, r1, r2⟩ := vals2 r
  cases k.eq r2
  cases (show u1 = Value.ref a from r1)
  obtain ⟨hget, _⟩ := I.pin (a, oe) (List.mem_append_left _ hp)
  obtain ⟨vs, hv⟩ := hf
  obtain ⟨mA, ⟨o, es, ep, e2, _⟩, hr⟩ : ObjOk X.prog X.w H s.heap dd (.xd fs) := I.hok dd _ hx
  have J : PySem.W.InstAt s.heap a oe D (some o) := ⟨hget, hz.1, by unfold PySem.W.notCls; rw [hv], by rw [hz.2]; exact e2⟩
  exact PySem.W.kia_one (PySem.W.kitx_exc (exc_cl T) T.hg T.hk T.hs T.ha T.hn T.ht T.hm) I.kIn J e (fun z => nomatch z) fun tk => ⟨.bl b, H, I.tok tk, rfl, q⟩
end
end My

namespace My
open PySem PySem.Spec PyProof.Rows L2 Evl
/-! ### f-strings of texts -/
theorem emp_app (x : Str) : Str.empty ++ x = x := by
  apply TL.ext_tl
  rw [TL.tl_append]
  rfl
section
variable {σ : L2.St} {H : Hp} {ta tb tc : TE} {x y z : Str}
theorem ev_fmt (h : Ev ta σ H (.str x)) (n : x.length ≤ 1000) : Ev (tFmt ta) σ H (.str x) := fun H1 e Q q => h H1 e _ fun H2 e2 => .inl ⟨x, rfl, sz_of (by omega), q H2 e2⟩
theorem ev_js2 (ha : Ev ta σ H (.str x)) (hb : Ev tb σ H (.str y)) (n : x.length + y.length ≤ 1000) : Ev (fun σ H Q => tJs [ta, tb] Str.empty σ H fun out H1 => Q (.str out) H1) σ H (.str (x ++ y)) := fun H1 e Q q =>
  ha H1 e _ fun H2 e2 => ⟨x, rfl, sz_of (by rw [emp_app]; omega), hb H2 (e.trans e2) _ fun H3 e3 => ⟨y, rfl, sz_of (by rw [emp_app, app_len]; omega), by rw [emp_app]; exact q H3 (e2.trans e3)⟩⟩
theorem ev_js3 (ha : Ev ta σ H (.str x)) (hb : Ev tb σ H (.str y)) (hc : Ev tc σ H (.str z)) (n : x.length + y.length + z.length ≤ 1000) : Ev (fun σ H Q => tJs [ta, tb, tc] Str.empty σ H fun out H1 => Q (.str out) H1) σ H (.str (x ++ y ++ z)) := fun H1 e Q q =>
  ha H1 e _ fun H2 e2 => ⟨x, rfl, sz_of (by rw [emp_app]; omega), hb H2 (e.trans e2) _ fun H3 e3 => ⟨y, rfl, sz_of (by rw [emp_app, app_len]; omega), hc H3 ((e.trans e2).trans e3) _ fun H4 e4 => ⟨z, rfl, sz_of (by rw [emp_app, app_len, app_len]; omega), by rw [emp_app]; exact q H4 ((e2.trans e3).trans e4)⟩⟩⟩
end
end My

namespace My
open PySem PySem.Spec PyProof.Rows L2 Evl
/-! ### a method called within a try -/
section
variable {X : Cx} {CX : CXT} {k : Nat} {C f : Addr} {sp : Sp} {o e : Expr} {es : List Expr} {m : Str} {pos apos : Pos} {ta : TE} {t : TA} {pl : Sem Bool} {fd : FuncData} {ps : List Str}
def tMethS (C : Addr) (m : Str) (sp : Sp) (E : L2.St → XK) (ta : TE) (t : TA) : TE := fun σ H Q => ta σ H fun x H1 => ∃ a dx fs, x = .ref a ∧ H1 a = some (.ins C dx fs) ∧ fs.lookup m = none ∧ t σ H1 fun vs H2 => sp (x :: vs) H2 Q (E σ)
theorem pe_methS {E : L2.St → XK} (he : PE X o ta) (c : Cls X.K C) (hm : Meth X.K C m f) (F : FnOk X.prog X.w X.K X.mg X.base CX k f fd ps sp) (hr : Room k X.A) (hb : Binds X.K fd ps []) (hx : ∀ σ, PassesAt CX X σ (E σ)) (ha : PA X (e :: es) t)
    (hst : starEach (e :: es) X.env = (false, eval e X.env) :: starEach es X.env := by rfl) (hpl : (backTo pos (starEach es X.env)).any (·.1) = false := by rfl)
    (ht : eval (.Call (.Attribute o m apos) (e :: es) [] pos) X.env = (do
      let ov ← eval o X.env
      standAt apos.atName
      let (f, first) ← holding [ov] (getMethod ov m pl)
      callWith pos f first (backTo pos (starEach (e :: es) X.env)) (backToKw pos (keywordEach [] X.env))) := by rfl) :
    PE X (.Call (.Attribute o m apos) (e :: es) [] pos) (tMethS C m sp E ta t) := by
  refine ⟨fun pins s σ H Q I h => ?_⟩
  refine PySem.W.methodCall_KW (pl := pl) (thn (he.run pins s σ H _ I h) fun u s1 ⟨x, H1, I1, rx, a, dx, fs, ex, ea, l, q⟩ => ?_) ht
  subst ex
  obtain rfl : u = Value.ref a := rx
  refine getmeth_ok I1 ea c hm l ?_
  refine PySem.W.callWith_K (first := [.ref a]) (h₀ := X.base) I.ok.mod.kin hm.kp (thn (ha.run pos pins s1 σ H1 _ I1 q) fun us s2 ⟨vs, H2, I2, r, q2⟩ => ⟨I2.kIn, ?_⟩) hst hpl
  exact run_fnSD (us := .ref a :: us) (vs := .ref a :: vs) (dvs := []) F hr hb .nil (hx σ) I2 (.cons rfl r) (by rw [List.append_nil]; exact q2)
end
/-- a comprehension over a list, whose elements may be new -/
theorem w_lcL {K : PySem.W.Frag} {σ : L2.St} {H : Hp} {tl te : TE} {tt : TT} {j : Nat} {vs : List Nat} {a : Addr} {xs : List V} {Q : VK} (hl : Ev tl σ H (.ref a)) (ha : SqL K H a xs) (hw : ∀ x, wipe ((wipe σ vs).set j (some x)) vs = wipe σ vs) (Pv : Addr → Nat → Hp → Prop)
    (h0 : ∀ D H1, Ex H H1 → H1 D = none → Pv D 0 (upd H1 D (.lst []))) (hq : ∀ D i H', Pv D i H' → SqL K H' a xs)
    (hs : ∀ D i x H', i < xs.length → xs[i]? = some x → Pv D i H' → tt ((wipe σ vs).set j (some x)) H' fun b H3 => if b = true then te ((wipe σ vs).set j (some x)) H3 fun y H4 => ∃ acc, H4 D = some (.lst acc) ∧ acc.length < sizeLine ∧ Pv D (i + 1) (upd H4 D (.lst (acc ++ [y]))) else Pv D (i + 1) H3)
    (hd : ∀ D H', Pv D xs.length H' → Q (.ref D) H') : tLc (iList K tl) (gName j) tt te vs σ H Q :=
  hl H (Ex.refl H) _ fun H1 e1 => ⟨a, rfl, ⟨xs, ex_l e1 ha⟩, fun D hD => lc_it (walk_list (K := K) (a := a) (xs := xs)) (Pv D) (h0 D H1 e1 hD) (fun i H' _ p => hq D i H' p) (fun i x H2 H' hi p y => by
    obtain ⟨rfl, hx⟩ := y
    exact ⟨hw _, hs D i x _ hi hx p⟩) (fun H' p => hd D H' p)⟩
end My

namespace My
open PySem PySem.Spec PyProof.Rows L2 Evl
/-! ### o.replace(y, z) of two written texts: where a token is out -/
section
variable {X : Cx}
def PEK (X : Cx) (e : Expr) (t : TE) : Prop :=
  ∀ (pins : List (Addr × Obj)) (s : Shared) (σ : L2.St) (H : Hp) (Q : VK), Inv X pins σ H s → t σ H Q → wpAny (model X.prog X.w) X.A (eval e X.env) (fun v s' => 1 ≤ s'.toks ∧ EP X pins σ Q v s') X.xe s
theorem pet_of {e : Expr} {t : TE} (h : PE X e t) : PET X e t := fun pins s σ H Q _ I q => h.run pins s σ H Q I q
theorem pek_lst {c : Str} {j : Nat} {cpos pos : Pos} {es : List Expr} {ta : TA} (h : PAT X es ta)
    (hs : starEach (.Constant (.str c) j cpos :: es) X.env = (false, eval (.Constant (.str c) j cpos) X.env) :: starEach es X.env := by rfl) : PEK X (.List (.Constant (.str c) j cpos :: es) pos) (tLst (tCons (tC (.str c)) ta)) := by
  intro pins s σ H Q I hq
  refine wpAny_List_spliced ?_
  rw [hs]
  show wpAny _ _ (spliced ((false, eval (.Constant (.str c) j cpos) X.env) :: backTo pos (starEach es X.env))) _ _ s
  refine Calls.spliced_cons (Calls.Constant_str ?_)
  refine wpAny_mono (PySem.wpAny_toks (h pos pins _ σ H _ (show 1 ≤ s.toks + 1 by omega) (I.tok (s.toks + 1)) hq)) (fun us s1 q => ?_) fun _ _ z => z.2
  obtain ⟨hk, xs, H1, I1, r, z, q⟩ := q
  have hk : s.toks + 1 ≤ s1.toks := hk
  have rr : Vals (V.str c :: xs) (Value.str c s.toks :: us) := .cons ⟨_, rfl⟩ r
  refine ⟨by rw [← rr.length]; exact z, ?_⟩
  have hf : H1 s1.heap.objs.size = none := I1.hok.fresh (Nat.le_refl _)
  refine ⟨by show 1 ≤ s1.toks; omega, .ref s1.heap.objs.size, upd H1 s1.heap.objs.size (.lst (V.str c :: xs)), I1.laid (t' := s1.toks) (fun b u e => Heap.get?_push_of_some _ e) (Nat.le_refl _) ?_, rfl, q _ hf⟩
  exact ⟨z, Value.str c s.toks :: us, 0, rr, Heap.get?_push_size _ rfl⟩
/-- x = e, e as above: the rest has a token out -/
theorem pss_setK {i : Nat} {x : Str} {e : Expr} {te : TE} {rest : List Stmt} {u : TS} {pos' pos : Pos} (hN : X.N.Nodup) (hi : X.N[i]? = some x) (hx : Loc X.env.scope x) (he : PEK X e te) (h2 : PSsT X rest u)
    (hs : swapsWith e (some (.Name x pos')) pos.line X.env = pure false := by rfl) (hf : X.fn x = true ∨ X.env.scope.names.lookup x = some .local := by first | exact .inl rfl | exact .inr rfl | assumption) :
    PSs X (.Assign [.Name x pos'] e pos :: rest) (tSeq (tAsg te (gName i)) u) := by
  refine ⟨fun pins s σ H D I h => ?_⟩
  refine wpAny_execs_cons (wpAny_Assign_Name (thn (he pins s σ H _ I h) fun v s1 ⟨hk, y, H1, I1, r1, q1⟩ => ?_) hs)
  refine wpAny_mono (PySem.wpAny_toks (store_ok (v := y) (u := v) (Q := fun _ s2 => Inv X pins (σ.set i (some y)) H1 s2) I1 hN hi hx r1 (fun _ I2 => I2) hf)) (fun _ s2 q => ?_) fun _ _ z => z.2
  have hk2 : s1.toks ≤ s2.toks := q.1
  exact h2 pins s2 _ H1 D (by omega) q.2 q1
theorem pst_setT {i : Nat} {x : Str} {e : Expr} {te : TE} {pos' pos : Pos} (hN : X.N.Nodup) (hi : X.N[i]? = some x) (hx : Loc X.env.scope x) (he : PET X e te)
    (hs : swapsWith e (some (.Name x pos')) pos.line X.env = pure false := by rfl) (hf : X.fn x = true ∨ X.env.scope.names.lookup x = some .local := by first | exact .inl rfl | exact .inr rfl | assumption) :
    PST X (.Assign [.Name x pos'] e pos) (tAsg te (gName i)) := fun pins s σ H D h0 I h =>
  wpAny_Assign_Name (thn (he pins s σ H _ h0 I h) fun v s1 ⟨y, H1, I1, r1, q1⟩ => store_ok I1 hN hi hx r1 (fun s2 I2 => ⟨_, H1, I2, q1⟩) hf) hs
theorem pet_op {a b : Expr} {ta tb : TE} {op : Operator} {r : R2} {pos : Pos} (ho : OpR X (binaryOp op) r) (ha : PET X a ta) (hb : PET X b tb) : PET X (.BinOp a op b pos) (tOp r ta tb) := by
  intro pins s σ H Q h0 I h
  refine wpAny_BinOp (wpAny_mono (PySem.wpAny_toks (ha pins s σ H _ h0 I h)) (fun v s1 q => ?_) fun _ _ z => z.2)
  obtain ⟨hk, x, H1, I1, r1, q1⟩ := q
  exact thn (hb pins s1 σ H1 _ (Nat.le_trans h0 hk) I1 q1) fun u s2 ⟨y, H2, I2, r2, q2⟩ => ho pins s2 σ H2 x y v u Q I2 r1 r2 q2
/-- name.replace(y, z) -/
def tRepC (ik : Nat) (y z : Str) : TE := fun σ H Q => ∃ x, σ[ik]? = some (some (.str x)) ∧ x.length + (x.length + 1) * z.length ≤ 16777216 ∧ Q (.str (Txt.replace x y z)) H
theorem pet_repC {ik : Nat} {kx y z : Str} {j0 j1 : Nat} {p1 c0 c1 apos pos : Pos} (hNk : X.N[ik]? = some kx) (hvk : Vis X.env.scope kx) (hyz : (y == z) = false)
    (hdk : (kx == ("__debug__" : Str)) = false := by decide) (hck : (kx == ("__classdict__" : Str)) = false := by decide)
    (hst : starEach [.Constant (.str y) j0 c0, .Constant (.str z) j1 c1] X.env = [(false, eval (.Constant (.str y) j0 c0) X.env), (false, eval (.Constant (.str z) j1 c1) X.env)] := by rfl)
    (hbase : attributeBase (.Name kx p1) "replace" X.env (eval (.Name kx p1) X.env) = eval (.Name kx p1) X.env := by rfl) (hline : (apos.endLine == pos.line) = true := by rfl) :
    PET X (.Call (.Attribute (.Name kx p1) "replace" apos) [.Constant (.str y) j0 c0, .Constant (.str z) j1 c1] [] pos) (tRepC ik y z) := by
  intro pins s σ H Q h0 I h
  obtain ⟨x, hx, hb, q⟩ := h
  refine PySem.Call_method2 hbase hst hline (wpAny_mono (PySem.wpAny_toks (raw_name (Q := fun v s1 => ∃ tx, v = Value.str x tx ∧ Inv X pins σ H s1) hNk hvk I hx (fun v r => ?_) hdk hck)) (fun v s1 qv => ?_) fun _ _ z => z.2)
  · obtain ⟨tx, e⟩ := r
    exact ⟨tx, e, I⟩
  obtain ⟨hk, tx, rfl, I1⟩ := qv
  have h1 : 1 ≤ s1.toks := Nat.le_trans h0 hk
  refine ⟨"str", _, F.plainAttrs_str, F.slot_str_replace, F.type_str_replace, typeIs_str _ _ _, (fun _ e => nomatch e), Calls.callWith_builtin rfl (Calls.evalArgs_plain (Calls.spliced_cons (Calls.Constant_str (Calls.spliced_cons (Calls.Constant_str (Calls.spliced_nil ?_))))))⟩
  exact PySem.SC.replace (show s1.toks ≠ 0 by omega) (show s1.toks + 1 ≠ 0 by omega) (show s1.toks ≠ s1.toks + 1 by omega) hyz hb fun t' k => ⟨.str (Txt.replace x y z), H, I1.tok k, ⟨t', rfl⟩, q⟩
end
end My

namespace My
open PySem PySem.Spec PyProof.Rows L2 Evl
/-! ### a dict written out, and what it has at a text -/
def EvPs (trs : List (TE × TE)) (σ : L2.St) (H : Hp) (ks : List (Str × List V)) : Prop := ∀ H1, Ex H H1 → ∀ Q : List (V × V) → Hp → Prop,
  (∀ (as : List Addr) (H2 : Hp), Ex H1 H2 → Paired (fun a (k : Str × List V) => H1 a = none ∧ H2 a = some (.lst k.2)) as ks → Q (List.zipWith (fun a (k : Str × List V) => (V.str k.1, V.ref a)) as ks) H2) → tPairs trs σ H1 Q
def EvPv (trs : List (TE × TE)) (σ : L2.St) (H : Hp) (ks : List (Str × V)) : Prop := ∀ H1, Ex H H1 → ∀ Q : List (V × V) → Hp → Prop, (∀ H2 : Hp, Ex H1 H2 → Q (ks.map fun k => (V.str k.1, k.2)) H2) → tPairs trs σ H1 Q
section
variable {σ : L2.St} {H : Hp} {tk tv ty tx : TE} {r : List (TE × TE)} {k : Str} {xs : List V} {v z : V}
theorem ep_nil : EvPs [] σ H [] := fun H1 _ Q q => q [] H1 (Ex.refl H1) .nil
theorem ep_cons {ks : List (Str × List V)} (hk : Ev tk σ H (.str k)) (hv : EvL tv σ H xs) (hr : EvPs r σ H ks) : EvPs ((tk, tv) :: r) σ H ((k, xs) :: ks) := fun H1 e Q q =>
  hk H1 e _ fun H2 e2 => hv H2 (e.trans e2) _ fun p H3 hp e3 h3 => hr H3 (e.trans (e2.trans e3)) _ fun as H4 e4 pr =>
    q (p :: as) H4 (e2.trans (e3.trans e4)) (.cons ⟨fresh_back e2 hp, e4 _ _ h3⟩ (Paired.mapP pr fun a b y => ⟨fresh_back (e2.trans e3) y.1, y.2⟩))
theorem ev_nilP : EvPv [] σ H [] := fun H1 _ Q q => q H1 (Ex.refl H1)
theorem ev_consP {ks : List (Str × V)} (hk : Ev tk σ H (.str k)) (hv : Ev tv σ H v) (hr : EvPv r σ H ks) : EvPv ((tk, tv) :: r) σ H ((k, v) :: ks) := fun H1 e Q q =>
  hk H1 e _ fun H2 e2 => hv H2 (e.trans e2) _ fun H3 e3 => hr H3 (e.trans (e2.trans e3)) _ fun H4 e4 => q H4 (e2.trans (e3.trans e4))
theorem merge_new : ∀ (more acc : List (Key × V)), ((acc ++ more).map (·.1)).Nodup → mergeK acc more = acc ++ more
  | [], acc, _ => by rw [List.append_nil]; rfl
  | p :: more, acc, nd => by
    show mergeK (putK acc p.1 p.2) more = _
    have h : p.1 ∉ acc.map (·.1) := fun m => by
      rw [List.map_append, List.nodup_append] at nd
      exact nd.2.2 p.1 m p.1 (List.mem_cons_self ..) rfl
    rw [putK_new _ (not_valV h), merge_new more (acc ++ [(p.1, p.2)]) (by rw [List.append_assoc]; exact nd), List.append_assoc]
    rfl
theorem zip_val : ∀ {as : List Addr} {ks : List (Str × List V)} {F : Addr → Str × List V → Prop}, Paired F as ks → ∀ k : Str,
    (((ks.find? fun x => decide (x.1 = k)) = none) ∧ valV (List.zipWith (fun a (x : Str × List V) => ((Sum.inr x.1 : Key), V.ref a)) as ks) (.inr k) = none) ∨
    ∃ a x, (ks.find? fun x => decide (x.1 = k)) = some x ∧ F a x ∧ valV (List.zipWith (fun a (x : Str × List V) => ((Sum.inr x.1 : Key), V.ref a)) as ks) (.inr k) = some (.ref a)
  | _, _, _, .nil, k => .inl ⟨rfl, rfl⟩
  | a :: as, x :: ks, F, .cons h t, k => by
    by_cases e : x.1 = k
    · refine .inr ⟨a, x, by rw [List.find?_cons_of_pos (by simpa using e)], h, ?_⟩
      unfold valV
      rw [List.zipWith_cons_cons, List.find?_cons_of_pos (by simp [e])]
      rfl
    · have ne : ¬ (Sum.inr x.1 : Key) = .inr k := fun z => e (Sum.inr.inj z)
      have e1 : valV (List.zipWith (fun a (x : Str × List V) => ((Sum.inr x.1 : Key), V.ref a)) (a :: as) (x :: ks)) (.inr k) = valV (List.zipWith (fun a (x : Str × List V) => ((Sum.inr x.1 : Key), V.ref a)) as ks) (.inr k) := by
        unfold valV
        rw [List.zipWith_cons_cons, List.find?_cons_of_neg (by simpa using ne)]
      rw [e1, List.find?_cons_of_neg (by simpa using e)]
      exact zip_val t k
theorem zip_keys {F : Addr → Str × List V → Prop} : ∀ {as : List Addr} {ks : List (Str × List V)}, Paired F as ks → (List.zipWith (fun a (x : Str × List V) => ((Sum.inr x.1 : Key), V.ref a)) as ks).map (·.1) = ks.map fun x => Sum.inr x.1
  | _, _, .nil => rfl
  | a :: as, x :: ks, .cons h t => by
    rw [List.zipWith_cons_cons, List.map_cons, List.map_cons, zip_keys t]
theorem zip_pairs {F : Addr → Str × List V → Prop} : ∀ {as : List Addr} {ks : List (Str × List V)}, Paired F as ks → List.zipWith (fun a (k : Str × List V) => (V.str k.1, V.ref a)) as ks = (List.zipWith (fun a (x : Str × List V) => ((Sum.inr x.1 : Key), V.ref a)) as ks).map fun kv => (kV kv.1, kv.2)
  | _, _, .nil => rfl
  | a :: as, x :: ks, .cons h t => by
    rw [List.zipWith_cons_cons, List.zipWith_cons_cons, List.map_cons, zip_pairs t]
    rfl
theorem inr_nodup {ks : List Str} (h : ks.Nodup) : (ks.map fun x => (Sum.inr x : Key)).Nodup := by
  rw [List.nodup_iff_pairwise_ne, List.pairwise_map]
  exact (List.nodup_iff_pairwise_ne.mp h).imp fun a b => a (Sum.inr.inj b)
/-- {k: [..], ..}.get(k, [..]) -/
theorem el_dispGet {ks : List (Str × List V)} (hp : EvPs r σ H ks) (nd : (ks.map (·.1)).Nodup) (h15 : ks.length ≤ 15) (hy : Ev ty σ H (.str k)) (hx : EvL tx σ H xs) :
    EvL (tDGet2 (tDisp r) ty tx) σ H (((ks.find? fun x => decide (x.1 = k)).map fun x => x.2).getD xs) := fun H0 e0 Q q => fun p hpn => by
  have eA : Ex H0 (upd H0 p (.dK [])) := Ex.new hpn
  refine hp (upd H0 p (.dK [])) (e0.trans eA) _ fun as H2 e2 pr => ?_
  let kvs : List (Key × V) := List.zipWith (fun a (x : Str × List V) => ((Sum.inr x.1 : Key), V.ref a)) as ks
  have lk : kvs.length = ks.length := by rw [← List.length_map (f := fun kv : Key × V => kv.1)]; show (List.map _ (List.zipWith _ as ks)).length = _; rw [zip_keys pr, List.length_map]
  refine ⟨e2 _ _ upd_same, kvs, zip_pairs pr, by rw [lk]; exact h15, p, rfl, isD_of upd_same, ?_⟩
  have eB : Ex H0 (upd H2 p (.dK (mergeK [] kvs))) := Ex.mut (eA.trans e2) hpn
  have hd : upd H2 p (.dK (mergeK [] kvs)) p = some (.dK (mergeK [] kvs)) := upd_same
  have mk : mergeK [] kvs = kvs := merge_new kvs [] (by
    rw [List.nil_append]
    show (List.map _ (List.zipWith _ as ks)).Nodup
    rw [zip_keys pr]
    have := inr_nodup nd
    rw [List.map_map] at this
    exact this)
  rw [mk] at eB hd ⊢
  refine hy _ (e0.trans eB) _ fun H3 e3 => hx H3 (e0.trans (eB.trans e3)) _ fun b H4 hb e4 h4 => ⟨_, DGet.k (k := .inr k) ((e3.trans e4) _ _ hd), ?_⟩
  have eC := eB.trans (e3.trans e4)
  rcases zip_val pr k with ⟨n1, n2⟩ | ⟨a, x, n1, ⟨fa, ha⟩, n2⟩
  · rw [n1] at q
    show Q ((valV kvs (.inr k)).getD _) H4
    rw [n2]
    exact q b H4 (fresh_back (eB.trans e3) hb) eC h4
  · rw [n1] at q
    show Q ((valV kvs (.inr k)).getD _) H4
    rw [n2]
    have an : H0 a = none := fresh_back eA fa
    have ap : a ≠ p := fun z => by rw [z, upd_same] at fa; cases fa
    exact q a H4 an eC ((e3.trans e4) _ _ (by rw [upd_ne ap]; exact ha))
theorem valV_map : ∀ (ks : List (Str × V)) (k : Str), valV (ks.map fun x => ((Sum.inr x.1 : Key), x.2)) (.inr k) = (ks.find? fun x => decide (x.1 = k)).map fun x => x.2
  | [], k => rfl
  | x :: ks, k => by
    by_cases e : x.1 = k
    · unfold valV
      rw [List.map_cons, List.find?_cons_of_pos (by simp [e]), List.find?_cons_of_pos (by simpa using e)]
      rfl
    · have ne : ¬ (Sum.inr x.1 : Key) = .inr k := fun z => e (Sum.inr.inj z)
      have := valV_map ks k
      unfold valV at this ⊢
      rw [List.map_cons, List.find?_cons_of_neg (by simpa using ne), List.find?_cons_of_neg (by simpa using e)]
      exact this
theorem ev_dispGet {ks : List (Str × V)} (hp : EvPv r σ H ks) (nd : (ks.map (·.1)).Nodup) (h15 : ks.length ≤ 15) (hy : Ev ty σ H (.str k)) (hx : Ev tx σ H z) :
    Ev (tDGet2 (tDisp r) ty tx) σ H (((ks.find? fun x => decide (x.1 = k)).map fun x => x.2).getD z) := fun H0 e0 Q q => fun p hpn => by
  have eA : Ex H0 (upd H0 p (.dK [])) := Ex.new hpn
  refine hp (upd H0 p (.dK [])) (e0.trans eA) _ fun H2 e2 => ?_
  let kvs : List (Key × V) := ks.map fun x => ((Sum.inr x.1 : Key), x.2)
  refine ⟨e2 _ _ upd_same, kvs, by show _ = List.map _ (List.map _ ks); rw [List.map_map]; rfl, by show (List.map _ ks).length ≤ 15; rw [List.length_map]; exact h15, p, rfl, isD_of upd_same, ?_⟩
  have eB : Ex H0 (upd H2 p (.dK (mergeK [] kvs))) := Ex.mut (eA.trans e2) hpn
  have hd : upd H2 p (.dK (mergeK [] kvs)) p = some (.dK (mergeK [] kvs)) := upd_same
  have mk : mergeK [] kvs = kvs := merge_new kvs [] (by
    rw [List.nil_append]
    show (List.map _ (List.map _ ks)).Nodup
    have := inr_nodup nd
    rw [List.map_map] at this ⊢
    exact this)
  rw [mk] at eB hd ⊢
  refine hy _ (e0.trans eB) _ fun H3 e3 => hx H3 (e0.trans (eB.trans e3)) _ fun H4 e4 => ⟨_, DGet.k (k := .inr k) ((e3.trans e4) _ _ hd), ?_⟩
  show Q ((valV kvs (.inr k)).getD z) H4
  rw [show valV kvs (.inr k) = _ from valV_map ks k]
  exact q H4 (eB.trans (e3.trans e4))
end
end My

namespace PySem
open PySem.Spec PySem.Calls PyProof.Rows
/-! ### name, *rest = a list -/
theorem star_shift {prog : Program} {w : World} {A : Around} {I : Addr} {fp wr : List Addr} {G : Array GenState → Array GenState → Prop} {n : Nat} {P : Nat → Value → Prop} {St : Nat → Shared → Prop}
    (W : WalksS prog w A I fp wr G (n + 1) P St) : WalksS prog w A I fp wr G n (fun i => P (i + 1)) (fun i => St (i + 1)) where
  sub := W.sub
  grefl := W.grefl
  gtrans := W.gtrans
  frame := fun i => W.frame (i + 1)
  item := fun i s Q E hi st hQ => W.item (i + 1) s Q E (by omega) st hQ
  done := W.done
  self := fun i => W.self (i + 1)
theorem star_items {prog : Program} {w : World} {A : Around} {E : Value → Shared → Prop} {s : Shared} {l : Addr} {x0 : Value} {rest : List Value} {Q : List Value → Shared → Prop} (hh : A.handled = none) (hl : s.heap.IsList l (x0 :: rest).toArray) (hz : rest.length ≤ sizeLine)
    (hQ : ∀ (h' : Heap) tk, (∀ b o, s.heap.get? b = some o → h'.get? b = some o) → Q [x0, .ref h'.objs.size] { s with heap := h'.push { cls := .type "list", data := .seq rest.toArray }, toks := tk }) :
    wpAny (model prog w) A (unpackItems (.ref l) 2 (some 1)) Q E s := by
  have hlt : l ≠ s.heap.objs.size := by obtain ⟨o, ho, _⟩ := hl; exact Nat.ne_of_lt (Heap.lt_size ho)
  unfold unpackItems
  refine wpAny_bind ?_
  unfold notIterableAtAll
  refine wpAny_bind (wpAny_specialOf hl.typeIs slot_list_iter.lookup ?_)
  refine wpAny_pure ?_
  simp only [Bool.false_eq_true, if_false]
  refine wpAny_bind (wpAny_holding (wpAny_pyIter_list hl ?_))
  refine wpAny_bind (wpAny_holding (PySem.W.kun_draw hlt 1 0 _ _ ⟨_, Heap.get?_push_size _ rfl, rfl, rfl⟩ (hl.push _) (by simp) fun h₁ hit₁ hs₁ => ?_))
  rw [show List.take 1 (List.drop 0 (x0 :: rest).toArray.toList) = [x0] by simp]
  rw [if_neg (by simp)]
  have hl₁ : h₁.IsList l (x0 :: rest).toArray := (hl.push _).extBut hs₁.extBut hlt
  have W0 := (Walks.list (prog := prog) (w := w) (A := A.in1) hh s.heap.objs.size l hlt (x0 :: rest).toArray).toS
  have W1 := star_shift (n := rest.length) (by simpa using W0)
  refine wpAny_bind (wpAny_holding (wpAny_collect_iter (.inr (.inr (.inl rfl))) W1 (fun i s' st => let ⟨⟨o, ho, hc, _⟩, _⟩ := st; ⟨o, ho, hc⟩) ⟨hit₁, hl₁⟩ (fun b hb => ?_) (List.mem_cons_self ..) (fun s' acc mv got => ?_) hz))
  · obtain ⟨⟨o, ho, _⟩, ⟨o2, ho2, _⟩⟩ := (⟨hit₁, hl₁⟩ : _ ∧ _)
    simp only [List.mem_cons, List.not_mem_nil, or_false] at hb
    rcases hb with rfl | rfl
    · exact Heap.lt_size ho
    · exact Heap.lt_size ho2
  · have ea : acc.toList = rest := by
      apply List.ext_getElem?
      intro j
      rw [Array.getElem?_toList]
      cases hj : acc[j]? with
      | some v =>
        have := got.2 j v hj
        simpa using this.symm
      | none =>
        have h1 := got.1
        rw [Array.getElem?_eq_none_iff] at hj
        rw [List.getElem?_eq_none (by omega)]
    rw [ea, if_neg (by simp)]
    refine wpAny_bind ?_
    have e1 : rest.length - (2 - 1 - 1) = rest.length := by omega
    rw [e1, List.take_length, List.drop_length]
    obtain ⟨sh, sg, sd, st, so⟩ := s'
    obtain ⟨m1, m2, m3, m4, m5⟩ := mv
    dsimp only at m1 m2 m3 m4 m5
    subst m2 m3 m4
    refine wpAny_newObj_type ?_ ?_
    · refine wpAny_pure ?_
      refine hQ sh st (fun b o e => m1 b o ?_ (hs₁.extBut b o (Nat.ne_of_lt (Heap.lt_size e)) (Heap.get?_push_of_some _ e)))
      simp only [List.mem_cons, List.not_mem_nil, or_false]
      exact Nat.ne_of_lt (Heap.lt_size e)
    · simp only [sizeOk]
      simpa using hz
end PySem
namespace My
open PySem PySem.Spec PyProof.Rows L2 Evl
def gStar (K : PySem.W.Frag) (i j : Nat) : TG := fun v σ H Q => ∃ a x xs, v = .ref a ∧ SqL K H a (x :: xs) ∧ ∀ p, H p = none → Q ((σ.set i (some x)).set j (some (.ref p))) (upd H p (.lst xs))
theorem pg_star {X : Cx} (K : PySem.W.Frag) {t1 t2 : Expr} {i j k : Nat} {p1 pos : Pos} (hc : X.calm = true) (h1 : PG X t1 (gName i)) (h2 : PG X t2 (gName j))
    (ha : assignEach [t1, .Starred t2 p1] X.env = [(false, assign t1 X.env), (true, assign t2 X.env)] := by rfl) (hK : X.K = K := by rfl) : PG X (.Tuple [t1, .Starred t2 p1] k pos) (gStar K i j) := by
  subst hK
  refine ⟨fun pins s σ H v u Q I r hw => ?_⟩
  obtain ⟨a, x, xs, e1, hq, hw⟩ := hw
  subst e1
  cases r
  obtain ⟨its, rv, pl, hz⟩ := I.list hq
  rw [PyProof.Rows.assign_Tuple]
  refine wpAny_bind (wpAny_standAt ?_)
  unfold unpack
  rw [ha]
  cases rv with
  | cons rx rxs =>
    refine wpAny_bind (wpAny_holding (star_items (I.ok.hd hc) pl.isList (by have := rxs.length; simp at hz; omega) fun h' tk kp => ?_))
    have I1 : Inv X pins σ H { s with heap := h', toks := tk } := I.kept (t' := tk) kp
    have I2 : Inv X pins σ (upd H h'.objs.size (.lst xs)) { s with heap := h'.push { cls := .type "list", data := .seq _ }, toks := tk } :=
      I1.laid (t' := tk) (fun b o e => Heap.get?_push_of_some _ e) (Nat.le_refl _) (show ObjOk X.prog X.w _ _ _ (.lst xs) from ⟨by simp at hz; omega, _, _, rxs, Heap.get?_push_size _ rfl⟩)
    refine assignInOrder_cons (thn (h1.run pins _ σ _ x _ (fun σ' H' => gName j (.ref h'.objs.size) σ' H' Q) I2 rx (hw _ (I1.hok.fresh (Nat.le_refl _)))) fun _ s1 ⟨σ1, H1, J1, q1⟩ => ?_)
    exact assignInOrder_cons (thn (h2.run pins s1 σ1 H1 _ _ Q J1 (show RelV (.ref h'.objs.size) (Value.ref h'.objs.size) from rfl) q1) fun _ s2 ⟨σ2, H2, J2, q2⟩ => assignInOrder_nil ⟨σ2, H2, J2, q2⟩)
end My

namespace My
open PySem PySem.Spec PyProof.Rows L2 Evl
def top (i : Nat) : Stmt := PySem.Challenge.pw_ownersagree_k21_handler_tables_refused.main.body.getD i (.Pass ⟨0, 0, 0, 0⟩)
/-! ### the drawing state: at st, its rest at l -/
def Ext (st l : Addr) (H H' : Hp) : Prop := ∀ b o, b ≠ st → b ≠ l → H b = some o → H' b = some o
theorem Ext.refl {st l : Addr} {H : Hp} : Ext st l H H := fun _ _ _ _ e => e
theorem Ext.trans {st l : Addr} {H H1 H2 : Hp} (a : Ext st l H H1) (b : Ext st l H1 H2) : Ext st l H H2 := fun c o n m e => b c o n m (a c o n m e)
theorem Ext.same {st l : Addr} {H H1 : Hp} (a : Same H H1) : Ext st l H H1 := fun c o _ _ e => a c o e
theorem Ext.upd1 {st l : Addr} {H H1 : Hp} {o : HO} (a : Ext st l H H1) : Ext st l H (upd H1 st o) := fun c u n m e => by rw [upd_ne n]; exact a c u n m e
theorem Ext.upd2 {st l : Addr} {H H1 : Hp} {o : HO} (a : Ext st l H H1) : Ext st l H (upd H1 l o) := fun c u n m e => by rw [upd_ne m]; exact a c u n m e
theorem Same.new {H : Hp} {p : Addr} {o : HO} (h : H p = none) : Same H (upd H p o) := fun b u e => by rw [upd_ne (ne_of_none e h)]; exact e
structure StAt (H : Hp) (st l : Addr) : Prop where
  ne : st ≠ l
  ex : ∃ (cs : List Int) (b c d : Int), H st = some (.lst [.ref l, .int b, .int c, .int d]) ∧ H l = some (.lst (cs.map V.int)) ∧ cs.length ≤ 63
theorem StAt.same {H H' : Hp} {st l : Addr} (S : StAt H st l) (e : Same H H') : StAt H' st l := by
  obtain ⟨n, cs, b, c, d, h1, h2, h3⟩ := S
  exact ⟨n, cs, b, c, d, e _ _ h1, e _ _ h2, h3⟩
theorem StAt.off {H : Hp} {st l p : Addr} (S : StAt H st l) (h : H p = none) : p ≠ st ∧ p ≠ l := by
  obtain ⟨n, cs, b, c, d, h1, h2, h3⟩ := S
  exact ⟨(ne_of_none h1 h).symm, (ne_of_none h2 h).symm⟩
theorem dp_ints {K : PySem.W.Frag} {H : Hp} : ∀ cs : List Int, DpAll K H (cs.map V.int) (cs.map PyData.int)
  | [] => .nil
  | c :: cs => .cons (.int c) (dp_ints cs)
abbrev sState : Stmt := top 49
abbrev sDraw : Stmt := top 50
/-- what the top leaves of the names that a draw needs -/
structure TD (mg : Str → Option Value) : Prop where
  n_int : mg "int" = none
  n_abs : mg "abs" = none
  n_range : mg "range" = none
  n_len : mg "len" = none
  n_list : mg "list" = none
def spState (K : PySem.W.Frag) : Sp := fun vs H Q _ => ∃ (a : Addr) (ns : List Int), vs = [.ref a] ∧ SqL K H a (ns.map V.int) ∧ ∀ (H' : Hp) (st l : Addr), Same H H' → StAt H' st l → H st = none → H l = none → Q (.ref st) H'
def spDraw : Sp := fun vs H Q _ => ∃ (st l : Addr) (n : Int), vs = [.ref st, .int n] ∧ StAt H st l ∧ 0 < n ∧ n < 1000000000 ∧
  ∀ (r : Int) (H' : Hp), 0 ≤ r → r < n → Ext st l H H' → StAt H' st l → Q (.int r) H'
section
variable {P : Program} {w : World} {K : PySem.W.Frag} {mg : Str → Option Value} {base : Heap}
theorem scD : FnScope ["st", "limit", "cell", "digit"] ["st", "limit"] (defScope sDraw) := ⟨rfl, rfl, rfl, by decide +kernel, rfl, by decide +kernel, by decide +kernel⟩
theorem ok_draw {f : Addr} {fd : FuncData} (F : Fun K "_law_draw" "_law_draw" sDraw f fd) (T : TD mg) : FnOk P w K mg base CX0 1 f fd ["st", "limit"] spDraw := by
  refine F.ok scD (fun vs H Q E h => ?_) (fun cdv A outer s H vs Q E hr h => ?_)
  · obtain ⟨st, l, n, rfl, _⟩ := h
    rfl
  · obtain ⟨st, l, n, rfl, ⟨hne, cs, b, c, d, h1, h2, h3⟩, hn, hn2, k⟩ := h
    have hu64 := hr.units
    refine ⟨_, (pss_cut (ps_if (PW.pt (pw_and (pt_cmpR op_eq (pe_ix (ixL K) (pv 0) pe_int (fun _ _ => rfl)) pe_int (nomark _)) (pw_and1 (pt_cmpR (neDK K hu64) (pe_ix (ixL K) (pv 0) pe_int (fun _ _ => rfl)) (pe_lst pa_nil) (nomark _)))))
      (pss_cons (ps_set (i := 2) scD.nd rfl (Or.inl rfl) (pe_op op_modN (pe_callTy call_int1 (by rfl) T.n_int (by decide +kernel) (pa_cons (bmK K PySem.F.plainAttrs_list PySem.F.slot_list_pop PySem.F.type_list_pop mt_popAt (pe_ix (ixL K) (pv 0) pe_int (fun _ _ => rfl)) (pa_cons pe_int pa_nil)) pa_nil)) (pe_op op_powB (pe_op op_pow pe_int pe_int) pe_int)))
      (pss_one (ps_if (pt_cmpR op_ge (pv 2) (pe_op op_pow pe_int pe_int) (nomark _))
        (pss_one (ps_asg (pv 2) (pg_sub (pv 0) pe_int set_list)))
        (pss_one (ps_asg (pe_op op_modN (pe_callTy call_int1 (by rfl) T.n_int (by decide +kernel) (pa_cons (pe_op op_add (pe_op op_add (pe_op op_mul (pe_ix (ixL K) (pv 0) pe_int (fun _ _ => rfl)) pe_int) (pe_op op_mul (pv 2) pe_int)) pe_int) pa_nil)) pe_int) (pg_sub (pv 0) pe_int set_list))))))
      pss_nil)
    (pss_cons (ps_if (pt_cmpR op_gt (pe_ix (ixL K) (pv 0) pe_int (fun _ _ => rfl)) pe_int (nomark _))
      (pss_cons (ps_set (i := 3) scD.nd rfl (Or.inl rfl) (pe_op op_modN (pe_callTy call_int1 (by rfl) T.n_int (by decide +kernel) (pa_cons (pe_ix (ixL K) (pv 0) pe_int (fun _ _ => rfl)) pa_nil)) (pv 1)))
      (pss_cons (ps_asg (pe_op op_fdivN (pe_ix (ixL K) (pv 0) pe_int (fun _ _ => rfl)) (pv 1)) (pg_sub (pv 0) pe_int set_list))
      (pss_one (ps_ret (pv 3)))))
      pss_nil)
    (pss_cons (ps_asg (pe_op op_add (pe_ix (ixL K) (pv 0) pe_int (fun _ _ => rfl)) pe_int) (pg_sub (pv 0) pe_int set_list))
    (pss_cons (ps_asg (pe_op op_modN (pe_callTy call_int1 (by rfl) T.n_int (by decide +kernel) (pa_cons (pe_op op_add (pe_op op_mul (pe_ix (ixL K) (pv 0) pe_int (fun _ _ => rfl)) pe_int) (pe_op op_mul (pe_ix (ixL K) (pv 0) pe_int (fun _ _ => rfl)) pe_int)) pa_nil)) pe_int) (pg_sub (pv 0) pe_int set_list))
    (pss_one (ps_ret (pe_op op_modN (pe_op op_modN (pe_callTy call_int1 (by rfl) T.n_int (by decide +kernel) (pa_cons (pe_op op_add (pe_op op_mul (pe_ix (ixL K) (pv 0) pe_int (fun _ _ => rfl)) pe_int) (pe_ix (ixL K) (pv 0) pe_int (fun _ _ => rfl))) pa_nil)) pe_int) (pv 1)))))))), ?_⟩
    refine q_cut (M := fun σ H' => ∃ (cs : List Int) (b c d : Int) (v : Option V), σ = [some (.ref st), some (.int n), v, none] ∧ H' st = some (.lst [.ref l, .int b, .int c, .int d]) ∧ H' l = some (.lst (cs.map V.int)) ∧ cs.length ≤ 63 ∧ Ext st l H H') ?_ ?_
    · refine s_when (b := decide (b = 0) && !decide (cs = [])) (et_and (et_test (ev_is (ev_op (ev_op (ev_var rfl) ev_c (rv_ixL (SqL.of h1) rfl)) ev_c (rv_eq rfl)) (by simp))) (fun _ => ?_)) (fun hb H1 e1 => ?_) (fun hb H1 e1 => ?_)
      · refine et_test (ev_opL (ev_op (ev_var rfl) ev_c (rv_ixL (SqL.of h1) rfl)) (el_lst ea_nil (by decide)) (fun p H2 hp e2 => rv_neD (d := .list (cs.map PyData.int)) (e := .list []) (.lst (SqL.of (e2 _ _ h2)) (dp_ints cs)) (.lst (SqL.of hp) .nil) (shaped_ints cs) (shaped_ints []) ?_))
        cases cs <;> rfl
      · obtain ⟨hb0, hcs⟩ : b = 0 ∧ cs ≠ [] := by simpa using hb
        obtain ⟨x, xs, rfl⟩ : ∃ x xs, cs = x :: xs := by cases cs with | nil => exact absurd rfl hcs | cons x xs => exact ⟨x, xs, rfl⟩
        refine ⟨_, rfl, _, _, _, _, rfl, rfl, SqL.of (e1 _ _ h1), rfl, .inl ⟨rfl, _, SqL.of (e1 _ _ h2)⟩, _, _, _, 0, _, rfl, rfl, e1 _ _ h2, by decide, by decide, by rw [seqIndex_of (by decide) (by simp)]; rfl, rfl, .inl ⟨_, rfl, ?_⟩⟩
        refine ⟨_, _, rfl, rfl, ⟨by decide, by decide, by decide⟩, _, _, rfl, rfl, ⟨by decide, by decide +kernel⟩, _, _, rfl, rfl, (by show ((10 : Int) ^ 50) ^ 8 ≠ 0; decide +kernel), ?_⟩
        dsimp only
        generalize (Int.fmod x _) = z
        generalize hH2 : upd H1 l _ = H2
        have m1 : H2 st = some (.lst [.ref l, .int b, .int c, .int d]) := by rw [← hH2, upd_ne hne]; exact e1 _ _ h1
        have m2 : H2 l = some (.lst (xs.map V.int)) := by rw [← hH2]; exact upd_same
        have m3 : Ext st l H H2 := by rw [← hH2]; exact (Ext.same e1).upd2
        have hxs : xs.length ≤ 63 := by simp at h3; omega
        refine s_if (b := decide (10 ^ 18 ≤ z)) (et_test (ev_op (ev_var rfl) (ev_op ev_c ev_c (rv_I ⟨by decide, by decide, by decide⟩)) rv_I0)) (fun _ H3 e3 => ?_) (fun _ H3 e3 => ?_)
        · refine s_setL (j := 1) (e3 _ _ m1) (ev_var rfl) (ev_var rfl) ev_c (by simp) (fun H4 e4 => ?_)
          exact ⟨xs, z, c, d, _, rfl, upd_same, by rw [upd_ne hne.symm]; exact (e3.trans e4) _ _ m2, hxs, (m3.trans (Ext.same (e3.trans e4))).upd1⟩
        · refine s_setL (j := 2) (e3 _ _ m1) (ev_op (ev_cb (ea_cons (ev_op (ev_op (ev_op (ev_op (ev_var rfl) ev_c (rv_ixL (SqL.of (e3 _ _ m1)) rfl)) ev_c (rv_I (.inr (by decide)))) (ev_op (ev_var rfl) ev_c (rv_I (.inr (by decide)))) rv_I0) ev_c rv_I0) ea_nil) rc_int) ev_c (rv_I (by decide))) (ev_var rfl) ev_c (by simp) (fun H4 e4 => ?_)
          exact ⟨xs, b, _, d, _, rfl, upd_same, by rw [upd_ne hne.symm]; exact (e3.trans e4) _ _ m2, hxs, (m3.trans (Ext.same (e3.trans e4))).upd1⟩
      · exact ⟨cs, b, c, d, none, rfl, e1 _ _ h1, e1 _ _ h2, h3, Ext.same e1⟩
    · rintro σ H0 ⟨cs, b, c, d, v, rfl, h1, h2, h3, hx⟩
      refine q_when (b := decide (0 < b)) (et_test (ev_op (ev_op (ev_var rfl) ev_c (rv_ixL (SqL.of h1) rfl)) ev_c rv_I0)) (fun hb H1 e1 => ?_) (fun hb H1 e1 => ?_)
      · refine q_asg (ev_op (ev_cb (ea_cons (ev_op (ev_var rfl) ev_c (rv_ixL (SqL.of (e1 _ _ h1)) rfl)) ea_nil) rc_int) (ev_var rfl) (rv_I (by omega))) (fun H2 e2 => ?_)
        have e12 := e1.trans e2
        refine q_setL (j := 1) (e12 _ _ h1) (ev_op (ev_op (ev_var rfl) ev_c (rv_ixL (SqL.of (e12 _ _ h1)) rfl)) (ev_var rfl) (rv_I ⟨by omega, by omega⟩)) (ev_var rfl) ev_c (by simp) (fun H3 e3 => ?_)
        refine s_ret (ev_var rfl) (fun H4 e4 => ?_)
        have g := fmod_rng (a := b) hn
        have e123 := e12.trans e3
        exact k _ _ g.1 g.2 ((hx.trans (Ext.same e123)).upd1.trans (Ext.same e4)) ⟨hne, cs, _, c, d, e4 _ _ upd_same, e4 _ _ (by rw [upd_ne hne.symm]; exact e123 _ _ h2), h3⟩
      · refine q_setL (j := 3) (e1 _ _ h1) (ev_op (ev_op (ev_var rfl) ev_c (rv_ixL (SqL.of (e1 _ _ h1)) rfl)) ev_c rv_I0) (ev_var rfl) ev_c (by simp) (fun H2 e2 => ?_)
        generalize hH3 : upd H2 st _ = H3
        have k1 : H3 st = some (.lst [.ref l, .int b, .int c, .int (d + 1)]) := by rw [← hH3]; exact upd_same
        have k2 : H3 l = some (.lst (cs.map V.int)) := by rw [← hH3, upd_ne hne.symm]; exact (e1.trans e2) _ _ h2
        have k3 : Ext st l H H3 := by rw [← hH3]; exact (hx.trans (Ext.same (e1.trans e2))).upd1
        refine q_setL (j := 2) k1 (ev_op (ev_cb (ea_cons (ev_op (ev_op (ev_op (ev_var rfl) ev_c (rv_ixL (SqL.of k1) rfl)) ev_c (rv_I (.inr (by decide)))) (ev_op (ev_op (ev_var rfl) ev_c (rv_ixL (SqL.of k1) rfl)) ev_c (rv_I (.inr (by decide)))) rv_I0) ea_nil) rc_int) ev_c (rv_I (by decide))) (ev_var rfl) ev_c (by simp) (fun H4 e4 => ?_)
        generalize hz : Int.fmod _ _ = z
        generalize hH5 : upd H4 st _ = H5
        have m1 : H5 st = some (.lst [.ref l, .int b, .int z, .int (d + 1)]) := by rw [← hH5]; exact upd_same
        have m2 : H5 l = some (.lst (cs.map V.int)) := by rw [← hH5, upd_ne hne.symm]; exact e4 _ _ k2
        have m3 : Ext st l H H5 := by rw [← hH5]; exact (k3.trans (Ext.same e4)).upd1
        refine s_ret (ev_op (ev_op (ev_cb (ea_cons (ev_op (ev_op (ev_op (ev_var rfl) ev_c (rv_ixL (SqL.of m1) rfl)) ev_c (rv_I (.inr (by decide)))) (ev_op (ev_var rfl) ev_c (rv_ixL (SqL.of m1) rfl)) rv_I0) ea_nil) rc_int) ev_c (rv_I (by decide))) (ev_var rfl) (rv_I (by omega))) (fun H6 e6 => ?_)
        have g := fmod_rng (a := Int.fmod (z * 16807 + (d + 1)) 2147483629) hn
        exact k _ _ g.1 g.2 (m3.trans (Ext.same e6)) ⟨hne, cs, _, _, _, e6 _ _ m1, e6 _ _ m2, h3⟩
end
end My
namespace My
open PySem PySem.Spec PyProof.Rows L2 Evl
theorem s_ret_lst {te : TE} {tr : TA} {D : Ends} {σ : L2.St} {H : Hp} {xs ws : List V} (h : EvL te σ H xs) (hr : ∀ H1, EvA tr σ H1 ws) (hl : ws.length < 1000) (k : ∀ p q H1, H p = none → Ex H H1 → H1 p = some (.lst xs) → H1 q = none → D.rt (.ref q) (upd H1 q (.lst (.ref p :: ws)))) : tRet (tLst (tCons te tr)) D σ H :=
  h H (Ex.refl H) _ fun p H1 hp e1 h1 => hr H1 H1 (Ex.refl H1) _ fun H2 e2 => ⟨Nat.le_of_lt (Nat.lt_of_le_of_lt (show ws.length + 1 ≤ 1000 from hl) (by decide)), fun q hq => k p q H2 hp (e1.trans e2) (e2 _ _ h1) hq⟩
theorem scS : FnScope ["script", "cell"] ["script"] (defScope sState) := ⟨rfl, rfl, rfl, by decide +kernel, rfl, by decide +kernel, by decide +kernel⟩
section
variable {P : Program} {w : World} {K : PySem.W.Frag} {mg : Str → Option Value} {base : Heap}
theorem ok_state {f : Addr} {fd : FuncData} (F : Fun K "_law_get_state" "_law_get_state" sState f fd) (T : TD mg) : FnOk P w K mg base CX0 1 f fd ["script"] (spState K) := by
  refine F.ok scS (fun vs H Q E h => ?_) (fun cdv A outer s H vs Q E hr h => ?_)
  · obtain ⟨a, ns, rfl, _⟩ := h
    rfl
  · obtain ⟨a, ns, rfl, hS, k⟩ := h
    refine ⟨_, (pss_one (ps_ret (pe_lst (pa_cons (pe_lc (own := [("cell", 1)]) (g := gName 1) (by rfl) scS.nd (piL K (pe_slice (slL K) (pv 0) po_none (po_some pe_int))) (blkOk_by (own := [("cell", 1)]) (N := ["script", "cell"]) (sc := defScope sState) (by decide +kernel)) (fun _ _ _ _ _ => (pg_name (i := 1) scS.nd rfl (Or.inl rfl))) (fun _ _ _ _ _ => pts_nil) (fun _ _ _ _ _ => (pe_op op_add (pe_op op_mul pe_int (pe_callB call_abs (by rfl) T.n_abs (by decide +kernel) (pa_cons (pv 1) pa_nil))) (pe_callTy call_int1 (by rfl) T.n_int (by decide +kernel) (pa_cons (pe_cmpR op_lt (pv 1) pe_int (nomark _)) pa_nil))))) (pa_cons pe_int (pa_cons pe_int (pa_cons pe_int pa_nil))))))), ?_⟩
    let g : Nat → Int := fun i => 2 * (if ns.getD i 0 < 0 then -(ns.getD i 0) else ns.getD i 0) + (if decide (ns.getD i 0 < 0) then 1 else 0)
    have hlen : (cutV (ns.map V.int) none (some 63)).length ≤ 63 := by
      unfold cutV
      rw [List.length_take]
      have := HT.sIx_nat (ns.map V.int).length (ns.map V.int).length 63
      have e : HT.sIx (ns.map V.int).length (ns.map V.int).length (some 63) = min 63 (ns.map V.int).length := this
      rw [e]
      omega
    have hget : ∀ (i : Nat) (x : V), (cutV (ns.map V.int) none (some 63))[i]? = some x → x = .int (ns.getD i 0) := fun i x hx => by
      unfold cutV at hx
      rw [HT.sIx_none, List.drop_zero] at hx
      have h2 := List.getElem?_take_of_lt (l := ns.map V.int) (i := i) (j := _) (by
        have := (List.getElem?_eq_some_iff.mp hx).1
        rw [List.length_take] at this
        exact Nat.lt_of_lt_of_le this (Nat.min_le_left _ _))
      rw [h2, List.getElem?_map] at hx
      cases e : ns[i]? with
      | none => rw [e] at hx; cases hx
      | some z =>
        rw [e] at hx
        rw [List.getD_eq_getElem?_getD, e]
        exact (Option.some.inj hx).symm
    refine s_ret_lst (ws := [.int 0, .int 1, .int 0]) (el_lcNL (fun _ => true) (fun i => V.int (g i)) (el_sl (ev_var rfl) eo_none (eo_some ev_c) hS) (Nat.le_trans hlen (by decide)) (fun x => rfl) (fun i x H1 e1 hx => et_yes) (fun i x H1 e1 hx _ => by
      rw [hget i x hx]
      exact ev_op (ev_op ev_c (ev_cb (ea_cons (ev_var rfl) ea_nil) rc_abs) (rv_I (.inl (by decide)))) (ev_cb (ea_cons (ev_op (ev_var rfl) ev_c rv_I0) ea_nil) rc_intB) rv_I0)) (fun H1 => ea_cons ev_c (ea_cons ev_c (ea_cons ev_c ea_nil))) (by decide) (fun p q H1 hp e1 h1 hq => ?_)
    rw [given_all] at h1
    refine k _ q p (e1.trans (Ex.new hq)) ⟨(ne_of_none h1 hq).symm, (List.range (cutV (ns.map V.int) none (some 63)).length).map g, 0, 1, 0, upd_same, ?_, ?_⟩ (fresh_back e1 hq) hp
    · rw [upd_ne (ne_of_none h1 hq), h1, List.map_map]
      rfl
    · rw [List.length_map, List.length_range]
      exact hlen
end
end My

namespace My
open PySem PySem.Spec PyProof.Rows L2 Evl
section
variable {σ : L2.St} {H : Hp} {st l : Addr} {n : Int} {Q : VK} {E : XK} {ta : TA} {D : Ends} {u : TS} {i : Nat}
theorem w_draw (ha : EvA ta σ H [.ref st, .int n]) (S : StAt H st l) (h0 : 0 < n) (h1 : n < 1000000000) (k : ∀ (r : Int) (H' : Hp), 0 ≤ r → r < n → Ext st l H H' → StAt H' st l → Q (.int r) H') : tCall spDraw [] E ta σ H Q :=
  w_call (w_eva ha fun H1 e1 => ⟨st, l, n, rfl, S.same e1, h0, h1, fun r H' r0 r1 e S' => k r H' r0 r1 ((Ext.same e1).trans e) S'⟩)
/-- x = draw(..) -/
theorem q_draw (ha : EvA ta σ H [.ref st, .int n]) (S : StAt H st l) (h0 : 0 < n) (h1 : n < 1000000000) (k : ∀ (r : Int) (H' : Hp), 0 ≤ r → r < n → Ext st l H H' → StAt H' st l → u D (σ.set i (some (.int r))) H') : tSeq (tAsg (tCall spDraw [] E ta) (gName i)) u D σ H :=
  q_set (w_draw ha S h0 h1 k)
/-- x = 1 + draw(..) -/
theorem q_draw1 (ha : EvA ta σ H [.ref st, .int n]) (S : StAt H st l) (h0 : 0 < n) (h1 : n < 1000000000) (k : ∀ (r : Int) (H' : Hp), 1 ≤ r → r ≤ n → Ext st l H H' → StAt H' st l → u D (σ.set i (some (.int r))) H') : tSeq (tAsg (tOp (rI0 fun i j => .int (i + j)) (tC (.int 1)) (tCall spDraw [] E ta)) (gName i)) u D σ H :=
  q_set (w_op (w_ev ev_c fun H1 e1 => w_draw (ha.mono e1) (S.same e1) h0 h1 fun r H' r0 r1 e S' => ⟨_, _, rfl, rfl, k (1 + r) H' (by omega) (by omega) ((Ext.same e1).trans e) S'⟩))
theorem StAt.ext {H' : Hp} (e : Ext st l H H') {p : Addr} {o : HO} (S : StAt H st l) (hp : H p = some o) (h1 : p ≠ st) (h2 : p ≠ l) : H' p = some o := e p o h1 h2 hp
end
end My

namespace My
open PySem PySem.Spec PyProof.Rows L2 Evl
/-! ### words -/
def sgL : List Nat := [97,98,99,100,101,102,103,104,105,106,107,108,109,110,111,112,113,114,115,116,117,118,119,120,121,122,48,49,50,51,52,53,54,55,56,57]
def mkS (l : List Nat) : Str := ⟨l.toArray⟩
theorem signs_is : (Str.ofString "abcdefghijklmnopqrstuvwxyz0123456789").cps.toList = sgL := by decide +kernel
theorem mkS_cps (l : List Nat) : (mkS l).cps.toList = l := rfl
theorem mkS_len (l : List Nat) : (mkS l).length = l.length := by simp [mkS, Str.length]
theorem mkS_add (a b : List Nat) : mkS a ++ mkS b = mkS (a ++ b) := by
  show Str.mk (a.toArray ++ b.toArray) = _
  simp [mkS]
theorem rep_one (c n : Nat) : repS (mkS [c]) n = mkS (List.replicate n c) := by
  unfold repS mkS
  congr 2
  induction n with
  | zero => rfl
  | succ n ih => rw [List.replicate_succ, List.flatten_cons, List.replicate_succ]; simpa using ih
theorem mkS_inj {a b : List Nat} (h : mkS a = mkS b) : a = b := by
  have := congrArg (fun s : Str => s.cps.toList) h
  simpa [mkS] using this
theorem mkS_eta (w : Str) : mkS w.cps.toList = w := by cases w; simp [mkS]
/-- a name of at most n signs -/
structure IsName (n : Nat) (w : Str) : Prop where
  pos : 1 ≤ w.length
  le : w.length ≤ n
  sg : ∀ c ∈ w.cps.toList, c ∈ sgL
  hd : ∀ c, w.cps.toList.head? = some c → c ∈ sgL.take 26
  me : w ≠ "me"
structure WordsOk (most count : Nat) (ws : List Str) : Prop where
  len : ws.length = count
  nd : ws.Nodup
  ok : ∀ w ∈ ws, IsName most w
  ln : ∃ s, ∀ w ∈ ws, w.length = s
def wd (fill place size s : Nat) : Str := mkS (List.replicate place fill ++ [s] ++ List.replicate (size - place - 1) fill)
theorem sg_get {i : Nat} (h : i < 36) : ∃ c, sgL[i]? = some c ∧ c ∈ sgL := by
  have h' : i < sgL.length := h
  exact ⟨sgL[i], List.getElem?_eq_getElem h', List.getElem_mem h'⟩
theorem sg_get26 {i : Nat} (h : i < 26) : ∃ c, sgL[i]? = some c ∧ c ∈ sgL.take 26 := by
  have h' : i < (sgL.take 26).length := h
  refine ⟨(sgL.take 26)[i], ?_, List.getElem_mem h'⟩
  rw [List.getElem_take]
  exact List.getElem?_eq_getElem (Nat.lt_trans h (by decide))
theorem sg_nd : sgL.Nodup := by decide +kernel
theorem take26 {c : Nat} (h : c ∈ sgL.take 26) : c ∈ sgL := List.mem_of_mem_take h
/-- the word of the k-th turn -/
def wk (fill place size first some : Nat) (k : Nat) : Str := wd fill place size (sgL.getD ((first + k) % some) 0)
theorem words_ok {fill place size first some most count : Nat} (h1 : 1 ≤ size) (h2 : size ≤ most) (hp : place < size) (hf : fill ∈ sgL.take 26) (hs : some = if place = 0 then 26 else 36) (hc : count ≤ 26) (hme : size = 2 → fill ≠ 109 ∧ fill ≠ 101) :
    WordsOk most count ((List.range count).map (wk fill place size first some)) := by
  have hs26 : 26 ≤ some ∧ some ≤ 36 := by rw [hs]; split <;> omega
  refine ⟨by simp, ?_, ?_, size, fun w hw => ?_⟩
  · rw [List.nodup_iff_pairwise_ne, List.pairwise_map]
    refine List.Pairwise.imp_of_mem ?_ (List.nodup_iff_pairwise_ne.mp List.nodup_range)
    intro a b ha hb hab e
    have ha := List.mem_range.mp ha
    have hb := List.mem_range.mp hb
    have e1 := mkS_inj e
    rw [List.append_assoc, List.append_assoc, List.append_cancel_left_eq] at e1
    have e2 : sgL.getD ((first + a) % some) 0 = sgL.getD ((first + b) % some) 0 := by
      simpa using e1
    have la : (first + a) % some < sgL.length := Nat.lt_of_lt_of_le (Nat.mod_lt _ (by omega)) hs26.2
    have lb : (first + b) % some < sgL.length := Nat.lt_of_lt_of_le (Nat.mod_lt _ (by omega)) hs26.2
    rw [List.getD_eq_getElem?_getD, List.getD_eq_getElem?_getD, List.getElem?_eq_getElem la, List.getElem?_eq_getElem lb, Option.getD_some, Option.getD_some] at e2
    have e3 := (List.getElem_inj sg_nd).mp e2
    apply hab
    have q1 := Nat.div_add_mod (first + a) some
    have q2 := Nat.div_add_mod (first + b) some
    rw [e3] at q1
    generalize (first + b) % some = r at q1 q2
    generalize (first + a) / some = x at q1
    generalize (first + b) / some = y at q2
    have : x = y := by
      rcases Nat.lt_trichotomy x y with h | h | h
      · have : some * x + some ≤ some * y := by rw [← Nat.mul_succ]; exact Nat.mul_le_mul_left _ h
        omega
      · exact h
      · have : some * y + some ≤ some * x := by rw [← Nat.mul_succ]; exact Nat.mul_le_mul_left _ h
        omega
    subst this
    omega
  · intro w hw
    obtain ⟨k, hk, rfl⟩ := List.mem_map.mp hw
    have lk : (first + k) % some < 36 := Nat.lt_of_lt_of_le (Nat.mod_lt _ (by omega)) hs26.2
    obtain ⟨c, hc1, hc2⟩ := sg_get lk
    have hcd : sgL.getD ((first + k) % some) 0 = c := by rw [List.getD_eq_getElem?_getD, hc1]; rfl
    have len : (wk fill place size first some k).length = size := by
      unfold wk wd
      rw [mkS_len]
      simp
      omega
    refine ⟨by omega, by omega, ?_, ?_, ?_⟩
    · intro x hx
      unfold wk wd at hx
      rw [mkS_cps, hcd] at hx
      simp only [List.mem_append, List.mem_replicate, List.mem_singleton] at hx
      rcases hx with (⟨_, rfl⟩ | rfl) | ⟨_, rfl⟩
      · exact take26 hf
      · exact hc2
      · exact take26 hf
    · intro x hx
      unfold wk wd at hx
      rw [mkS_cps, hcd] at hx
      by_cases h0 : place = 0
      · subst h0
        simp only [List.replicate_zero, List.nil_append, List.cons_append, List.head?_cons, Option.some.injEq] at hx
        subst hx
        rw [if_pos rfl] at hs
        subst hs
        obtain ⟨d, hd1, hd2⟩ := sg_get26 (i := (first + k) % 26) (Nat.mod_lt _ (by decide))
        rw [hc1] at hd1
        rw [Option.some.inj hd1]
        exact hd2
      · obtain ⟨m, rfl⟩ : ∃ m, place = m + 1 := ⟨place - 1, by omega⟩
        rw [List.replicate_succ] at hx
        simp only [List.cons_append, List.head?_cons, Option.some.injEq] at hx
        subst hx
        exact hf
    · intro e
      have e1 : (wk fill place size first some k).cps.toList = [109, 101] := by rw [e]; decide +kernel
      have e2 : (wk fill place size first some k).length = 2 := by
        have := congrArg List.length e1
        simpa [Str.length] using this
      have hz := hme (by omega)
      unfold wk wd at e1
      rw [mkS_cps] at e1
      have hsz : size = 2 := by omega
      subst hsz
      have hp2 : place = 0 ∨ place = 1 := by omega
      rcases hp2 with rfl | rfl
      · simp at e1
        exact hz.2 e1.2
      · simp at e1
        exact hz.1 e1.1
  · obtain ⟨k, _, rfl⟩ := List.mem_map.mp hw
    unfold wk wd
    rw [mkS_len, List.length_append, List.length_append, List.length_replicate, List.length_replicate]
    show place + 1 + (size - place - 1) = size
    omega
end My

namespace My
open PySem PySem.Spec PyProof.Rows L2 Evl
theorem rv_mulC {c n : Nat} {H : Hp} (hn : n ≤ 1000) : RV (fun x y H Q => ∃ z n, x = .str z ∧ y = .int n ∧ 0 ≤ n ∧ n ≤ 1000 ∧ z.length ≤ 1000 ∧ Q (.str (repS z n.toNat)) H) (.str (mkS [c])) (.int (n : Int)) H (.str (mkS (List.replicate n c))) :=
  rv_val fun H1 _ Q q => ⟨mkS [c], n, rfl, rfl, by omega, by omega, by rw [mkS_len]; simp, by rw [rep_one]; exact q⟩
theorem rv_addM {a b : List Nat} {H : Hp} (h : a.length + b.length ≤ 100000) : RV (fun x y H Q => ∃ i j, x = .str i ∧ y = .str j ∧ i.length + j.length ≤ sizeLine ∧ Q (.str (i ++ j)) H) (.str (mkS a)) (.str (mkS b)) H (.str (mkS (a ++ b))) :=
  rv_val fun H1 _ Q q => ⟨mkS a, mkS b, rfl, rfl, by rw [mkS_len, mkS_len]; exact Nat.le_trans h (by decide), by rw [mkS_add]; exact q⟩
theorem rv_sign {i : Int} {k c : Nat} {H : Hp} (e : i = (k : Int)) (h : sgL[k]? = some c) : RV rIxS (.str "abcdefghijklmnopqrstuvwxyz0123456789") (.int i) H (.str (mkS [c])) := rv_ixS (by decide +kernel) (atI_n e (by rw [signs_is]; exact h))
abbrev sWords : Stmt := top 51
def spWords : Sp := fun vs H Q _ => ∃ (st l : Addr) (most count : Nat), vs = [.ref st, .int (most : Int), .int (count : Int)] ∧ StAt H st l ∧ 1 ≤ most ∧ most ≤ 100 ∧ count ≤ 26 ∧
  ∀ (ws : List Str) (p : Addr) (H' : Hp), WordsOk most count ws → Ext st l H H' → StAt H' st l → H p = none → H' p = some (.lst (ws.map V.str)) → Q (.ref p) H'
theorem scW : FnScope ["st", "most", "count", "signs", "size", "place", "fill", "some", "first", "tail", "k"] ["st", "most", "count"] (defScope sWords) := ⟨rfl, rfl, rfl, by decide +kernel, rfl, by decide +kernel, by decide +kernel⟩
theorem fresh_ext {st l p : Addr} {H H' : Hp} (S : StAt H st l) (e : Ext st l H H') (S' : StAt H' st l) (h : H' p = none) : H p = none := by
  cases q : H p with
  | none => rfl
  | some o =>
    have n := S'.off h
    rw [e p o n.1 n.2 q] at h
    cases h
section
variable {P : Program} {w : World} {K : PySem.W.Frag} {mg : Str → Option Value} {base : Heap}
theorem ok_words {f fD : Addr} {fd fdD : FuncData} (F : Fun K "_law_get_words" "_law_get_words" sWords f fd) (T : TD mg) (G__law_draw : FnOk P w K mg base CX0 1 fD fdD ["st", "limit"] spDraw) (m__law_draw : mg "_law_draw" = some (.ref fD)) (k__law_draw : PySem.W.keepIn K (.ref fD) = true) (b__law_draw : Binds K fdD ["st", "limit"] []) :
    FnOk P w K mg base CX0 2 f fd ["st", "most", "count"] spWords := by
  refine F.ok scW (fun vs H Q E h => ?_) (fun cdv A outer s H vs Q E hr h => ?_)
  · obtain ⟨st, l, m, c, rfl, _⟩ := h
    rfl
  · obtain ⟨st, l, most, count, rfl, S, hm1, hm2, hc, k⟩ := h
    have hr__law_draw : Room 1 _ := hr
    have hcn : (0 : Int) ≤ (count : Int) ∧ (count : Int) ≤ 40000 := by omega
    refine ⟨_, (pss_cons (ps_set (i := 3) scW.nd rfl (Or.inr rfl) pe_str)
    (pss_cons (ps_set (i := 4) scW.nd rfl (Or.inl rfl) (pe_op op_add pe_int (pe_call G__law_draw hr__law_draw rfl m__law_draw k__law_draw b__law_draw .nil pass0 (pa_cons (pv 0) (pa_cons (pv 1) pa_nil)))))
    (pss_cons (ps_set (i := 5) scW.nd rfl (Or.inr rfl) (pe_call G__law_draw hr__law_draw rfl m__law_draw k__law_draw b__law_draw .nil pass0 (pa_cons (pv 0) (pa_cons (pv 4) pa_nil))))
    (pss_cons (ps_set (i := 6) scW.nd rfl (Or.inr rfl) (pe_ix ix_str (pv 3) (pe_call G__law_draw hr__law_draw rfl m__law_draw k__law_draw b__law_draw .nil pass0 (pa_cons (pv 0) (pa_cons pe_int pa_nil))) (fun _ _ => rfl)))
    (pss_cons (ps_if (PW.pt (pw_and (pt_cmpR op_eq (pv 4) pe_int (nomark _)) (pw_and1 (pt_cmpR op_in_sign (pv 6) pe_str (by rfl)))))
      (pss_one (ps_set (i := 6) scW.nd rfl (Or.inr rfl) pe_str))
      pss_nil)
    (pss_cons (ps_set (i := 7) scW.nd rfl (Or.inr rfl) (pe_ifExp (pt_cmpR op_eq (pv 5) pe_int (nomark _)) pe_int pe_int))
    (pss_cons (ps_set (i := 8) scW.nd rfl (Or.inr rfl) (pe_call G__law_draw hr__law_draw rfl m__law_draw k__law_draw b__law_draw .nil pass0 (pa_cons (pv 0) (pa_cons (pv 7) pa_nil))))
    (pss_cons (ps_set (i := 9) scW.nd rfl (Or.inr rfl) (pe_op op_mulS (pv 6) (pe_op op_sub (pe_op op_sub (pv 4) (pv 5)) pe_int)))
    (pss_one (ps_ret (pe_lc (own := [("k", 10)]) (g := gName 10) (by rfl) scW.nd (pi_range1 rfl T.n_range (pa_cons (pv 2) pa_nil)) (blkOk_by (own := [("k", 10)]) (N := ["st", "most", "count", "signs", "size", "place", "fill", "some", "first", "tail", "k"]) (sc := defScope sWords) (by decide +kernel)) (fun _ _ _ _ _ => (pg_name (i := 10) scW.nd rfl (Or.inl rfl))) (fun _ _ _ _ _ => pts_nil) (fun _ _ _ _ _ => (pe_op op_add_str (pe_op op_add_str (pe_op op_mulS (pv 6) (pv 5)) (pe_ix ix_str (pv 3) (pe_op op_modN (pe_callTy call_int1 (by rfl) T.n_int (by decide +kernel) (pa_cons (pe_op op_add (pv 8) (pv 10)) pa_nil)) (pv 7)) (fun _ _ => rfl))) (pv 9)))))))))))))), ?_⟩
    refine q_asg ev_c (fun H1 e1 => ?_)
    refine q_draw1 (st := st) (l := l) (n := most) (ea_cons (ev_var rfl) (ea_cons (ev_var rfl) ea_nil)) (S.same e1) (by omega) (by omega) (fun size H2 s0 s1 e2 S2 => ?_)
    refine q_draw (st := st) (l := l) (n := size) (ea_cons (ev_var rfl) (ea_cons (ev_var rfl) ea_nil)) S2 (by omega) (by omega) (fun place H3 p0 p1 e3 S3 => ?_)
    refine q_set (w_op (w_ev (ev_var rfl) fun H4 e4 => w_draw (st := st) (l := l) (n := 26) (ea_cons (ev_var rfl) (ea_cons ev_c ea_nil)) (S3.same e4) (by decide) (by decide) (fun r H5 r0 r1 e5 S5 => ?_)))
    obtain ⟨c, hc1, hc2⟩ := sg_get26 (i := r.toNat) (by omega)
    refine ⟨_, _, c, rfl, rfl, by decide +kernel, atI_n (j := r.toNat) (by omega) (by rw [signs_is]; exact hc1), ?_⟩
    obtain ⟨sz, rfl⟩ : ∃ n : Nat, size = n := ⟨size.toNat, by omega⟩
    obtain ⟨pl, rfl⟩ : ∃ n : Nat, place = n := ⟨place.toNat, by omega⟩
    have hme : decide (c ∈ (Str.ofString "me").cps.toList) = decide (c = 109 ∨ c = 101) := by
      have : (Str.ofString "me").cps.toList = [109, 101] := by decide +kernel
      rw [this]; simp
    let fill : Nat := if decide ((sz : Int) = 2) && decide (c = 109 ∨ c = 101) then 122 else c
    have hz : Str.ofString "z" = mkS [122] := by decide +kernel
    refine q_ifAsg (v := .str (mkS [fill])) (b := decide ((sz : Int) = 2) && decide (c = 109 ∨ c = 101)) (et_and (et_test (ev_is (ev_op (ev_var rfl) ev_c (rv_eq rfl)) (by simp))) (fun _ => et_test (ev_is (ev_op (ev_var rfl) ev_c (rv_val fun H1 _ Q q => ⟨c, _, rfl, rfl, q⟩)) (by rw [hme]))))
      (fun hb => ?_) (fun hb => ?_) (fun H6 e6 => ?_)
    · have : fill = 122 := if_pos hb
      rw [this, ← hz]
      exact ev_c
    · have : fill = c := if_neg (by rw [hb]; decide)
      rw [this]
      rfl
    have hfill : fill ∈ sgL.take 26 := by
      show (if _ then 122 else c) ∈ sgL.take 26
      split
      · decide
      · exact hc2
    have hfme : sz = 2 → fill ≠ 109 ∧ fill ≠ 101 := by
      intro e
      show (if _ then 122 else c) ≠ 109 ∧ (if _ then 122 else c) ≠ 101
      by_cases hcc : c = 109 ∨ c = 101
      · rw [if_pos (by simp [e, hcc])]
        decide
      · rw [if_neg (by simp [hcc])]
        exact ⟨fun z => hcc (.inl z), fun z => hcc (.inr z)⟩
    generalize fill = fl at hfill hfme
    let some' : Nat := if pl = 0 then 26 else 36
    have hso : some' = if pl = 0 then 26 else 36 := rfl
    have hsr : 26 ≤ some' ∧ some' ≤ 36 := by rw [hso]; split <;> omega
    refine q_asg (v := .int (some' : Nat)) (ev_if (b := decide (pl = 0)) (et_test (ev_is (ev_op (ev_var rfl) ev_c (rv_eq rfl)) (by simp))) (fun hb => ?_) (fun hb => ?_)) (fun H7 e7 => ?_)
    · rw [hso, if_pos (by simpa using hb)]
      exact ev_c
    · rw [hso, if_neg (by simpa using hb)]
      exact ev_c
    generalize some' = so at hso hsr
    have hso0 : (0 : Int) ≤ (so : Int) ∧ (so : Int) ≠ 0 := by omega
    have S7 := S5.same (e6.trans e7)
    refine q_draw (st := st) (l := l) (n := so) (ea_cons (ev_var rfl) (ea_cons (ev_var rfl) ea_nil)) S7 (by omega) (by omega) (fun first H8 f0 f1 e8 S8 => ?_)
    obtain ⟨fi, rfl⟩ : ∃ n : Nat, first = n := ⟨first.toNat, by omega⟩
    have hpl : pl ≤ 1000 := by omega
    have hsp : pl + 1 + (sz - pl - 1) ≤ 100 := by omega
    have hsub : ((sz : Int) - (pl : Int)) - 1 = ((sz - pl - 1 : Nat) : Int) := by omega
    refine q_asg (v := .str (mkS (List.replicate (sz - pl - 1) fl))) (ev_op (ev_var rfl) (ev_is (ev_op (ev_op (ev_var rfl) (ev_var rfl) rv_I0) ev_c rv_I0) (congrArg V.int hsub)) (rv_mulC (by omega))) (fun H9 e9 => ?_)
    have X9 : Ext st l H H9 := (((((((((Ext.same e1).trans e2).trans e3).trans (Ext.same e4)).trans e5).trans (Ext.same e6)).trans (Ext.same e7)).trans e8).trans (Ext.same e9))
    refine s_norm [some (.ref st), some (.int most), some (.int count), some (.str "abcdefghijklmnopqrstuvwxyz0123456789"), some (.int sz), some (.int pl), some (.str (mkS [fl])), some (.int so), some (.int fi), some (.str (mkS (List.replicate (sz - pl - 1) fl))), none] rfl ?_
    refine s_retL (el_lcR1 (fun _ => true) (fun i => V.str (wk fl pl sz fi so i)) (ea_cons (ev_var rfl) ea_nil) hcn (fun _ => wipe1 _ _ _) (fun _ _ _ _ => et_yes) (fun i H1 e1 hi _ => ?_)) (fun p H10 hp e10 h10 => ?_)
    · have lk : (fi + i) % so < 36 := Nat.lt_of_lt_of_le (Nat.mod_lt _ (by omega)) hsr.2
      obtain ⟨d, hd1, hd2⟩ := sg_get lk
      have hmod : ((fi : Int) + (i : Int)).fmod (so : Int) = (((fi + i) % so : Nat) : Int) := by
        rw [Int.fmod_eq_emod_of_nonneg _ hso0.1, cast_mod, Int.natCast_add]
      have hcd : sgL.getD ((fi + i) % so) 0 = d := by rw [List.getD_eq_getElem?_getD, hd1]; rfl
      refine ev_is (v := .str (mkS (List.replicate pl fl ++ [d] ++ List.replicate (sz - pl - 1) fl))) (ev_op (ev_op (ev_op (ev_var rfl) (ev_var rfl) (rv_mulC hpl))
        (ev_op (ev_var rfl) (ev_op (ev_cb (ea_cons (ev_op (ev_var rfl) (ev_var rfl) rv_I0) ea_nil) rc_int) (ev_var rfl) (rv_I hso0.2)) (rv_sign hmod hd1)) (rv_addM ?_)) (ev_var rfl) (rv_addM ?_)) ?_
      · simp only [List.length_replicate, List.length_singleton]
        exact Nat.le_trans (Nat.le_trans (Nat.le_add_right _ _) hsp) (by decide)
      · simp only [List.length_append, List.length_replicate, List.length_singleton]
        exact Nat.le_trans hsp (by decide)
      · unfold wk wd
        rw [hcd]
    · rw [given_all] at h10
      refine k _ p H10 (words_ok (first := fi) (by omega) (by omega) (by omega) hfill hso hc hfme) (X9.trans (Ext.same e10)) ((S8.same e9).same e10) (fresh_ext S X9 (S8.same e9) hp) ?_
      rw [h10, List.map_map]
      rfl
end
end My

namespace My
open PySem PySem.Spec PyProof.Rows L2 Evl
/-! ### texts -/
abbrev sIsValue : Stmt := top 24
abbrev sIsConst : Stmt := top 27
/-- a value, a constant, as the program asks -/
def isVal (w : Str) : Bool := (decide (1 ≤ (w.length : Int)) && decide ((w.length : Int) ≤ 20)) && w.cps.toList.all fun c => decide (c ∈ sgL)
def isCon (w : Str) : Bool := Txt.startswith w "'" && (Txt.endswith w "'" && isVal (cutS w (some 1) (some (-1))))
def spStrB (f : Str → Bool) : Sp := fun vs H Q _ => ∃ w : Str, vs = [.str w] ∧ w.length ≤ 1000 ∧ ∀ H', Ex H H' → Q (.bl (f w)) H'
structure TT0 (mg : Str → Option Value) : Prop where
  c_LETTERS_AND_DIGITS : ∃ t, mg "LETTERS_AND_DIGITS" = some (.str "abcdefghijklmnopqrstuvwxyz0123456789" t)
  c_LONGEST_VALUE : ∃ t, mg "LONGEST_VALUE" = some (.int 20 t)
  n_len : mg "len" = none
  n_all : mg "all" = none
  n_isinstance : mg "isinstance" = none
  n_str : mg "str" = none
theorem scIV : FnScope ["word", "sign"] ["word"] (defScope sIsValue) := ⟨rfl, rfl, rfl, by decide +kernel, rfl, by decide +kernel, by decide +kernel⟩
theorem scIC : FnScope ["word"] ["word"] (defScope sIsConst) := ⟨rfl, rfl, rfl, by decide +kernel, rfl, by decide +kernel, by decide +kernel⟩
theorem rv_in1 {c : Nat} {z : Str} {H : Hp} : RV (fun x y H Q => ∃ (c : Nat) (z : Str), x = .str ⟨#[c]⟩ ∧ y = .str z ∧ Q (.bl (decide (c ∈ z.cps.toList))) H) (.str ⟨#[c]⟩) (.str z) H (.bl (decide (c ∈ z.cps.toList))) := rv_val fun H1 _ Q q => ⟨c, z, rfl, rfl, q⟩
theorem all_range {l : List Nat} {p : Nat → Bool} : ((List.range l.length).map fun i => p (l.getD i 0)).all id = l.all p := by
  have e : (List.range l.length).map (fun i => p (l.getD i 0)) = l.map p := by
    apply List.ext_getElem
    · simp
    · intro i h1 h2
      simp at h1
      simp [List.getD_eq_getElem?_getD, List.getElem?_eq_getElem h1]
  rw [e, List.all_map]
  rfl
section
variable {P : Program} {w : World} {K : PySem.W.Frag} {mg : Str → Option Value} {base : Heap}
theorem ok_isval {f : Addr} {fd : FuncData} (F : Fun K "is_value" "is_value" sIsValue f fd) (T : TT0 mg) : FnOk P w K mg base CX0 1 f fd ["word"] (spStrB isVal) := by
  refine F.ok scIV (fun vs H Q E h => ?_) (fun cdv A outer s H vs Q E hr h => ?_)
  · obtain ⟨w, rfl, _⟩ := h
    rfl
  · obtain ⟨w, rfl, hw, k⟩ := h
    obtain ⟨t1, c_LETTERS_AND_DIGITS⟩ := T.c_LETTERS_AND_DIGITS
    obtain ⟨t2, c_LONGEST_VALUE⟩ := T.c_LONGEST_VALUE
    refine ⟨_, (pss_cons (ps_if (pt_not (pt_val (pe_callB (isiK K) (by rfl) T.n_isinstance (by decide +kernel) (pa_cons (pv 0) (pa_cons (pe_ty (n := "str") (by rfl) T.n_str (by decide +kernel)) pa_nil)))))
      (pss_one (ps_ret pe_bl))
      pss_nil)
    (pss_one (ps_ret (pe_and (pe_chain op_le op_le pe_int (pe_callB call_len_str (by rfl) T.n_len (by decide +kernel) (pa_cons (pv 0) pa_nil)) (pe_gint rfl c_LONGEST_VALUE)) (pe_one (pe_callB (allK K rfl) (by rfl) T.n_all (by decide +kernel) (pa_cons (pe_lc (own := [("sign", 1)]) (g := gName 1) (by rfl) scIV.nd (pi_str (pv 0)) (blkOk_by (own := [("sign", 1)]) (N := ["word", "sign"]) (sc := defScope sIsValue) (by decide +kernel)) (fun _ _ _ _ _ => (pg_name (i := 1) scIV.nd rfl (Or.inl rfl))) (fun _ _ _ _ _ => pts_nil) (fun _ _ _ _ _ => (pe_cmpR op_in_sign (pv 1) (pe_gstr rfl c_LETTERS_AND_DIGITS) (by rfl)))) pa_nil))))))), ?_⟩
    refine q_when (b := false) (et_not (a := true) (et_B (fun H1 e1 Q q => ⟨.str w, rfl, .str w, .ty "str", .type "str", .type "str", true, rfl, .ty "str", .base (.str w), by rfl, q H1 (Ex.refl H1)⟩))) (fun hb => absurd hb (by decide)) (fun _ H0 e0 => ?_)
    refine s_ret (v := .bl (isVal w)) (ev_andV (a := decide (1 ≤ (w.length : Int)) && decide ((w.length : Int) ≤ 20)) (b := w.cps.toList.all fun c => decide (c ∈ sgL)) (ev_chain ev_c (ev_cb (ea_cons (ev_var rfl) ea_nil) fun H1 _ Q q => ⟨w, rfl, by exact Nat.le_trans hw (by decide), q H1 (Ex.refl H1)⟩) rv_I0 (fun _ => ev_c) (fun _ => rv_I0)) (fun _ => ?_)) (fun H1 e1 => k H1 (e0.trans e1))
    have hn : w.cps.size ≤ 40000 := Nat.le_trans hw (by decide)
    rw [← all_range (l := w.cps.toList) (p := fun c => decide (c ∈ sgL))]
    refine ev_all (el_is (el_lcW (n := w.cps.size) (fun _ => true) (fun i => V.bl (decide (w.cps.toList.getD i 0 ∈ sgL))) hn _ (wi_str (ev_var rfl)) (fun _ => wipe1 _ _ _) (fun _ _ _ _ _ _ => et_yes) (fun i x H1 e1 hi hx _ => ?_)) ?_)
    · obtain ⟨c, hc, rfl⟩ := hx
      have hg : w.cps.toList.getD i 0 = c := by
        rw [List.getD_eq_getElem?_getD, Array.getElem?_toList, hc]; rfl
      rw [hg, ← signs_is]
      exact ev_op (ev_var rfl) ev_c rv_in1
    · rw [given_all, List.map_map]
      simp [Function.comp_def]
theorem ok_iscon {f fV : Addr} {fd fdV : FuncData} (F : Fun K "is_constant" "is_constant" sIsConst f fd) (T : TT0 mg) (G_is_value : FnOk P w K mg base CX0 1 fV fdV ["word"] (spStrB isVal)) (m_is_value : mg "is_value" = some (.ref fV)) (k_is_value : PySem.W.keepIn K (.ref fV) = true) (b_is_value : Binds K fdV ["word"] []) :
    FnOk P w K mg base CX0 2 f fd ["word"] (spStrB isCon) := by
  refine F.ok scIC (fun vs H Q E h => ?_) (fun cdv A outer s H vs Q E hr h => ?_)
  · obtain ⟨w, rfl, _⟩ := h
    rfl
  · obtain ⟨w, rfl, hw, k⟩ := h
    have hr_is_value : Room 1 _ := hr
    refine ⟨_, (pss_one (ps_ret (pe_and (bmK K PySem.F.plainAttrs_str PySem.F.slot_str_startswith PySem.F.type_str_startswith mt_startswith (pv 0) (pa_cons pe_str pa_nil)) (pe_and (bmK K PySem.F.plainAttrs_str PySem.F.slot_str_endswith PySem.F.type_str_endswith mt_endswith (pv 0) (pa_cons pe_str pa_nil)) (pe_one (pe_call G_is_value hr_is_value rfl m_is_value k_is_value b_is_value .nil pass0 (pa_cons (pe_slice sl_str (pv 0) (po_some pe_int) (po_some (pe_un un_neg pe_int))) pa_nil))))))), ?_⟩
    refine s_ret (v := .bl (isCon w)) (ev_andV (a := Txt.startswith w "'") (ev_bmS (ev_var rfl) (ea_cons ev_c ea_nil) fun H1 _ Q q => ⟨w, _, rfl, rfl, q H1 (Ex.refl H1)⟩) fun _ => ev_andV (a := Txt.endswith w "'") (ev_bmS (ev_var rfl) (ea_cons ev_c ea_nil) fun H1 _ Q q => ⟨w, _, rfl, rfl, q H1 (Ex.refl H1)⟩) fun _ => ?_) (fun H1 e1 => k H1 e1)
    refine ev_call (ea_cons (ev_slS (ev_var rfl) (eo_some ev_c) (eo_some (ev_un ev_c ru_neg)) (Nat.le_trans hw (by decide))) ea_nil) (fun H1 e1 Q q E => ⟨_, rfl, Nat.le_trans (cutS_length w _ _) hw, q⟩)
end
end My

namespace My
open PySem PySem.Spec PyProof.Rows L2 Evl
/-! ### errors' classes -/
/-- what is written of an error's class at C, below the base class at A -/
structure CF (K : PySem.W.Frag) (A C : Addr) : Prop where
  cl : ∃ (nm q : Str) (N : Addr) (bs : List Value) (sn : List Str) (sub : List Value) (ab : Bool) (col : Option Bool) (dd : Option Addr) (k0 k1 k2 k3 k5 : Option Value), K.lookup C = some (excClassObj nm q C N bs [.ref A, .type "ValueError", .type "Exception", .type "BaseException", .type "object"] true sn sub ab col dd k0 k1 k2 k3 k5 "ValueError.__new__")
  sa : PySem.W.findIn K (.ref C) "__setattr__" = some (some (.builtin "object.__setattr__"))
  hg : PySem.W.findIn K (.ref C) "__getattribute__" = some (some (.builtin "BaseException.__getattribute__"))
  hk : PySem.W.findIn K (.ref C) "__getattr__" = some none
  ha : PySem.W.findIn K (.ref C) "__class__" = some (some (.builtin "object.__class__"))
  kp : PySem.W.keepIn K (.ref C) = true
  ty : PySem.W.typeIn K (.ref C) = some (.type "type")
theorem CF.of {K : PySem.W.Frag} {A C : Addr} {nm q : Str} {N : Addr} {bs : List Value} {sn : List Str} {sub : List Value} {ab : Bool} {col : Option Bool} {dd : Option Addr} {k0 k1 k2 k3 k5 : Option Value}
    (l : K.lookup C = some (excClassObj nm q C N bs [.ref A, .type "ValueError", .type "Exception", .type "BaseException", .type "object"] true sn sub ab col dd k0 k1 k2 k3 k5 "ValueError.__new__"))
    (sa : PySem.W.findIn K (.ref C) "__setattr__" = some (some (.builtin "object.__setattr__"))) (hg : PySem.W.findIn K (.ref C) "__getattribute__" = some (some (.builtin "BaseException.__getattribute__"))) (hk : PySem.W.findIn K (.ref C) "__getattr__" = some none)
    (ha : PySem.W.findIn K (.ref C) "__class__" = some (some (.builtin "object.__class__"))) (kp : PySem.W.keepIn K (.ref C) = true) (ty : PySem.W.typeIn K (.ref C) = some (.type "type")) : CF K A C :=
  ⟨⟨nm, q, N, bs, sn, sub, ab, col, dd, k0, k1, k2, k3, k5, l⟩, sa, hg, hk, ha, kp, ty⟩
theorem CF.cls {K : PySem.W.Frag} {A C : Addr} (h : CF K A C) : ∃ cd, PySem.W.clsIn K C = some cd ∧ cd.mro = [.ref C, .ref A, .type "ValueError", .type "Exception", .type "BaseException", .type "object"] ∧ cd.hasDict = true := by
  obtain ⟨nm, q, N, bs, sn, sub, ab, col, dd, k0, k1, k2, k3, k5, e⟩ := h.cl
  refine ⟨_, by unfold PySem.W.clsIn; rw [e], rfl, rfl⟩
theorem CF.mro {K : PySem.W.Frag} {A C : Addr} (h : CF K A C) (v : Value) : PySem.W.mroIn K C v = some (([.ref C, .ref A, .type "ValueError", .type "Exception", .type "BaseException", .type "object"] : List Value).contains v) := by
  obtain ⟨cd, e, m, _⟩ := h.cls
  unfold PySem.W.mroIn
  rw [e, Option.bind_some, m]
  rfl
theorem CF.oex {K : PySem.W.Frag} {A C : Addr} (h : CF K A C) : OexC K C := by
  obtain ⟨nm, q, N, bs, sn, sub, ab, col, dd, k0, k1, k2, k3, k5, e⟩ := h.cl
  exact ⟨⟨nm, q, N, bs, _, sn, sub, ab, col, dd, k0, k1, k2, k3, k5, e, rfl⟩, h.sa, (by show PySem.W.mroIn K C _ = _; rw [h.mro]; rfl), h.ty, h.kp⟩
theorem CF.exc {K : PySem.W.Frag} {A C : Addr} (h : CF K A C) (hn : PySem.W.specialIn K (.builtin "object.__class__") "__get__" = some (some (.builtin "getset_descriptor.__get__"))) (ht : PySem.W.takesIn K (.builtin "object.__class__") = some true) : ExcC K C := by
  obtain ⟨cd, e, m, d⟩ := h.cls
  exact ⟨h.hg, h.hk, (by show PySem.W.mroIn K C _ = _; rw [h.mro]; rfl), (by unfold PySem.W.hasDictIn; rw [e]; exact d), h.ha, hn, ht, (by rw [h.mro]; rfl)⟩
theorem beq_ref {a b : Addr} (h : a ≠ b) : (Value.ref a == Value.ref b) = false := beq_eq_false_iff_ne.mpr fun e => h (Value.ref.inj e)
theorem CF.kit {K : PySem.W.Frag} {A C D : Addr} (hD : CF K A D) (hC : CF K A C) (hA : C ≠ A) : PySem.W.kitOne K (.ref D) (.ref C) = some (decide (D = C)) := by
  unfold PySem.W.kitOne
  by_cases e : D = C
  · subst e
    rw [if_pos (beq_self_eq_true _), decide_eq_true rfl]
  · rw [if_neg (by rw [beq_ref e]; exact Bool.false_ne_true), decide_eq_false e]
    obtain ⟨cd, e1, _, _⟩ := hC.cls
    show (if ((PySem.W.clsIn K C).isSome && PySem.W.typeIn K (.ref C) == some (.type "type")) = true then PySem.W.mroIn K D (.ref C) else none) = _
    rw [e1, hC.ty]
    simp only [Option.isSome_some, Bool.true_and, beq_self_eq_true, if_true]
    rw [hD.mro]
    have h1 : (Value.ref C == Value.ref D) = false := beq_ref (fun z => e z.symm)
    have h2 : (Value.ref C == Value.ref A) = false := beq_ref hA
    simp only [List.contains_cons, h1, h2]
    rfl
theorem CF.kitA {K : PySem.W.Frag} {A D : Addr} (hD : CF K A D) (hA : D ≠ A) (hc : (PySem.W.clsIn K A).isSome = true) (ht : PySem.W.typeIn K (.ref A) = some (.type "type")) : PySem.W.kitOne K (.ref D) (.ref A) = some true := by
  unfold PySem.W.kitOne
  rw [if_neg (by rw [beq_ref hA]; exact Bool.false_ne_true)]
  show (if ((PySem.W.clsIn K A).isSome && PySem.W.typeIn K (.ref A) == some (.type "type")) = true then PySem.W.mroIn K D (.ref A) else none) = _
  rw [hc, ht]
  simp only [Bool.true_and, beq_self_eq_true, if_true]
  rw [hD.mro]
  have h1 : (Value.ref A == Value.ref D) = false := beq_ref (fun z => hA z.symm)
  simp only [List.contains_cons, h1, beq_self_eq_true]
  rfl
theorem CF.kitV {K : PySem.W.Frag} {A D : Addr} (hD : CF K A D) : PySem.W.kitOne K (.ref D) (.type "ValueError") = some true := by
  show (if (Value.ref D == Value.type "ValueError") = true then some true else PySem.W.kitCls K (.ref D) (.type "ValueError")) = _
  rw [if_neg (by rw [show (Value.ref D == Value.type "ValueError") = false from rfl]; exact Bool.false_ne_true)]
  show (if PySem.W.kitMeta "ValueError" = true then PySem.W.mroIn K D (.type "ValueError") else none) = _
  rw [if_pos (by decide +kernel), hD.mro]
  rfl
theorem CF.exmA {K : PySem.W.Frag} {A D : Addr} (hD : CF K A D) (hA : D ≠ A) (hc : (PySem.W.clsIn K A).isSome = true) (ht : PySem.W.typeIn K (.ref A) = some (.type "type")) (hb : PySem.W.subIn K (.ref A) (.type "BaseException") = some true) : PySem.W.exmOne K (.ref D) (.ref A) = some true := by
  have q := hD.kitA hA hc ht
  unfold PySem.W.kitOne at q
  rw [if_neg (by rw [beq_ref hA]; exact Bool.false_ne_true)] at q
  unfold PySem.W.exmOne
  rw [hb]
  exact q
theorem CF.sub {K : PySem.W.Frag} {A C : Addr} (h : CF K A C) : PySem.W.subIn K (.ref C) (.type "BaseException") = some true := by
  show PySem.W.mroIn K C _ = _
  rw [h.mro]
  rfl
theorem CF.exm {K : PySem.W.Frag} {A D : Addr} (hD : CF K A D) : PySem.W.exmOne K (.ref D) (.ref D) = some true := by
  obtain ⟨cd, e1, _⟩ := hD.cls
  unfold PySem.W.exmOne
  rw [hD.sub]
  show (if ((PySem.W.clsIn K D).isSome && PySem.W.typeIn K (.ref D) == some (.type "type")) = true then PySem.W.mroIn K D (.ref D) else none) = _
  rw [e1, hD.ty]
  simp only [Option.isSome_some, Bool.true_and, beq_self_eq_true, if_true]
  rw [hD.mro]
  simp
theorem CF.xf {K : PySem.W.Frag} {A C : Addr} (h : CF K A C) : XfC K C := by
  obtain ⟨cd, e, _, d⟩ := h.cls
  exact ⟨h.hg, h.hk, h.sub, by unfold PySem.W.hasDictIn; rw [e]; exact d⟩
end My

namespace My
open PySem PySem.Spec PyProof.Rows L2 Evl
/-! ### an error's own __init__ -/
def spX (K : PySem.W.Frag) (C : Addr) (fs : List Str) : Sp := fun vs H Q _ => ∃ (a : Addr) (ws : List V), vs = .ref a :: ws ∧ ws.length = fs.length ∧ H a = some (exo a C none) ∧
  ∀ (H' : Hp) (d : Addr) (l : List (Str × V)), H' a = some (exo a C (some d)) → H' d = some (exd d l) → H d = none → (∀ q ∈ fs.zip ws, l.lookup q.1 = some q.2) → (∀ b o, b ≠ a → H b = some o → H' b = some o) → Q .non H'
section
variable {K : PySem.W.Frag} {C a : Addr} {H : Hp} {D : Ends}
theorem rd_init1 {f : Str} {v : V} (T : OexC K C) (n1 : PySem.W.findIn K (.ref C) f = some none) (hH : H a = some (exo a C none))
    (k : ∀ (H' : Hp) (d : Addr) (l : List (Str × V)), H' a = some (exo a C (some d)) → H' d = some (exd d l) → H d = none → (∀ q ∈ [f].zip [v], l.lookup q.1 = some q.2) → (∀ b o, b ≠ a → H b = some o → H' b = some o) → D.nx [some (.ref a), some v] H') :
    tOst K f (tVar 0) (tVar 1) D [some (.ref a), some v] H := by
  refine ⟨_, rfl, _, rfl, a, C, rfl, T, n1, .inl ⟨hH, fun dx hd hne => ?_⟩⟩
  refine k _ dx _ upd_same (by rw [upd_ne hne]; exact upd_same) hd (fun q hq => ?_) (fun b o hb h => ?_)
  · have : q = (f, v) := by simpa using hq
    subst this
    rw [lookup_put, if_pos rfl]
  · rw [upd_ne hb, upd_ne (ne_of_none h hd)]
    exact h
theorem rd_init2 {f g : Str} {v w : V} (T : OexC K C) (n1 : PySem.W.findIn K (.ref C) f = some none) (n2 : PySem.W.findIn K (.ref C) g = some none) (hfg : f ≠ g) (hH : H a = some (exo a C none))
    (k : ∀ (H' : Hp) (d : Addr) (l : List (Str × V)), H' a = some (exo a C (some d)) → H' d = some (exd d l) → H d = none → (∀ q ∈ [f, g].zip [v, w], l.lookup q.1 = some q.2) → (∀ b o, b ≠ a → H b = some o → H' b = some o) → D.nx [some (.ref a), some v, some w] H') :
    tSeq (tOst K f (tVar 0) (tVar 1)) (tOst K g (tVar 0) (tVar 2)) D [some (.ref a), some v, some w] H := by
  refine ⟨_, rfl, _, rfl, a, C, rfl, T, n1, .inl ⟨hH, fun dx hd hne => ?_⟩⟩
  refine ⟨_, rfl, _, rfl, a, C, rfl, T, n2, .inr ⟨dx, _, upd_same, (by rw [upd_ne hne]; exact upd_same), by simp, ?_⟩⟩
  refine k _ dx _ (by rw [upd_ne hne.symm]; exact upd_same) upd_same hd (fun q hq => ?_) (fun b o hb h => ?_)
  · have : q = (f, v) ∨ q = (g, w) := by simpa using hq
    rcases this with rfl | rfl
    · rw [lookup_put, if_neg hfg, lookup_put, if_pos rfl]
    · rw [lookup_put, if_pos rfl]
  · rw [upd_ne (ne_of_none h hd), upd_ne hb, upd_ne (ne_of_none h hd)]
    exact h
/-- an error made, to be raised: its own dict tells its attributes -/
theorem mk_raise {CE : Addr} {fs : List Str} {vs : List V} {ta : TA} {σ : L2.St} {Q : XK} (ha : EvA ta σ H vs) (hl : vs.length = fs.length) (hs : vs.length ≤ 1000)
    (k : ∀ (d : Addr) (l : List (Str × V)) H', H d = none → Ex H H' → H' d = some (.xd l) → (∀ q ∈ fs.zip vs, l.lookup q.1 = some q.2) → Q (.ref CE) (some d) H') : tMkO CE (spX K CE fs) [] ta σ H Q :=
  ha H (Ex.refl H) _ fun H1 e1 => ⟨hs, fun a hn => ⟨a, vs, by rw [List.append_nil], hl, upd_same, fun H' d l h1 h2 hd h3 h4 => ⟨rfl, d, l, h1, h2, by
    by_cases e : d = a
    · rw [e, upd_same] at hd
      cases hd
    · rw [upd_ne e] at hd
      exact hd, by
    have hda : d ≠ a := fun e => by
      rw [e, upd_same] at hd
      cases hd
    have hd1 : H1 d = none := by rw [upd_ne hda] at hd; exact hd
    refine k d l _ (fresh_back e1 hd1) (fun b o hb => ?_) upd_same h3
    have hb1 := e1 b o hb
    rw [upd_ne (ne_of_none hb1 hd1), del_ne (ne_of_none hb1 hn)]
    exact h4 b o (ne_of_none hb1 hn) (by rw [upd_ne (ne_of_none hb1 hn)]; exact hb1)⟩⟩⟩
end
end My

namespace My
open PySem PySem.Spec PyProof.Rows L2 Evl
/-! ### names -/
abbrev sIsName : Stmt := top 25
theorem scIN : FnScope ["word"] ["word"] (defScope sIsName) := ⟨rfl, rfl, rfl, by decide +kernel, rfl, by decide +kernel, by decide +kernel⟩
abbrev sAreNames : Stmt := top 26
theorem scAN : FnScope ["words", "word"] ["words"] (defScope sAreNames) := ⟨rfl, rfl, rfl, by decide +kernel, rfl, by decide +kernel, by decide +kernel⟩
/-- a name, as the program asks -/
def isNm (w : Str) : Bool := isVal w && (decide ((w.length : Int) ≤ 12) && decide (w.cps.toList.headD 0 ∈ sgL.take 26))
structure TN0 (mg : Str → Option Value) : Prop where
  c_LETTERS : ∃ t, mg "LETTERS" = some (.str "abcdefghijklmnopqrstuvwxyz" t)
  c_LONGEST_NAME : ∃ t, mg "LONGEST_NAME" = some (.int 12 t)
  n_len : mg "len" = none
  n_all : mg "all" = none
theorem letters_is : (Str.ofString "abcdefghijklmnopqrstuvwxyz").cps.toList = sgL.take 26 := by decide +kernel
def spAre (K : PySem.W.Frag) : Sp := fun vs H Q _ => ∃ (a : Addr) (ws : List Str), vs = [.ref a] ∧ SqA K H a (ws.map V.str) ∧ ws.length ≤ 1000 ∧ (∀ w ∈ ws, w.length ≤ 1000) ∧ ∀ H', Ex H H' → Q (.bl (ws.all isNm)) H'
section
variable {P : Program} {w : World} {K : PySem.W.Frag} {mg : Str → Option Value} {base : Heap}
theorem ok_isname {f fV : Addr} {fd fdV : FuncData} (F : Fun K "is_name" "is_name" sIsName f fd) (T : TN0 mg) (G_is_value : FnOk P w K mg base CX0 1 fV fdV ["word"] (spStrB isVal)) (m_is_value : mg "is_value" = some (.ref fV)) (k_is_value : PySem.W.keepIn K (.ref fV) = true) (b_is_value : Binds K fdV ["word"] []) :
    FnOk P w K mg base CX0 2 f fd ["word"] (spStrB isNm) := by
  refine F.ok scIN (fun vs H Q E h => ?_) (fun cdv A outer s H vs Q E hr h => ?_)
  · obtain ⟨w, rfl, _⟩ := h
    rfl
  · obtain ⟨w, rfl, hw, k⟩ := h
    have hr_is_value : Room 1 _ := hr
    obtain ⟨t1, c_LETTERS⟩ := T.c_LETTERS
    obtain ⟨t2, c_LONGEST_NAME⟩ := T.c_LONGEST_NAME
    refine ⟨_, (pss_one (ps_ret (pe_and (pe_call G_is_value hr_is_value rfl m_is_value k_is_value b_is_value .nil pass0 (pa_cons (pv 0) pa_nil)) (pe_and (pe_cmpR op_le (pe_callB call_len_str (by rfl) T.n_len (by decide +kernel) (pa_cons (pv 0) pa_nil)) (pe_gint rfl c_LONGEST_NAME) (nomark _)) (pe_one (pe_cmpR op_in_sign (pe_ix ix_str (pv 0) pe_int (fun _ _ => rfl)) (pe_gstr rfl c_LETTERS) (by rfl))))))), ?_⟩
    refine s_ret (v := .bl (isNm w)) (ev_andV (a := isVal w) (ev_call (ea_cons (ev_var rfl) ea_nil) (fun H1 e1 Q q E => ⟨w, rfl, hw, q⟩)) (fun hv => ev_andV (a := decide ((w.length : Int) ≤ 12)) (ev_op (ev_cb (ea_cons (ev_var rfl) ea_nil) fun H1 _ Q q => ⟨w, rfl, by exact Nat.le_trans hw (by decide), q H1 (Ex.refl H1)⟩) ev_c rv_I0) (fun _ => ?_))) (fun H1 e1 => k H1 e1)
    obtain ⟨c, l, hc⟩ : ∃ c l, w.cps.toList = c :: l := by
      cases e : w.cps.toList with
      | nil =>
        have : w.length = 0 := by
          have := congrArg List.length e
          simpa [Str.length] using this
        unfold isVal at hv
        rw [this] at hv
        simp at hv
      | cons c l => exact ⟨c, l, rfl⟩
    rw [hc, ← letters_is]
    exact ev_op (ev_op (ev_var rfl) ev_c (rv_ixS (Nat.le_trans hw (by decide)) (atI_n (j := 0) rfl (by rw [hc]; rfl)))) ev_c rv_in1
theorem ok_arenames {f fN : Addr} {fd fdN : FuncData} (F : Fun K "are_names" "are_names" sAreNames f fd) (T : TN0 mg) (G_is_name : FnOk P w K mg base CX0 2 fN fdN ["word"] (spStrB isNm)) (m_is_name : mg "is_name" = some (.ref fN)) (k_is_name : PySem.W.keepIn K (.ref fN) = true) (b_is_name : Binds K fdN ["word"] []) :
    FnOk P w K mg base CX0 3 f fd ["words"] (spAre K) := by
  refine F.ok scAN (fun vs H Q E h => ?_) (fun cdv A outer s H vs Q E hr h => ?_)
  · obtain ⟨a, ws, rfl, _⟩ := h
    rfl
  · obtain ⟨a, ws, rfl, ha, n, hl, k⟩ := h
    have hr_is_name : Room 2 _ := hr
    refine ⟨_, (pss_one (ps_ret (pe_callB (allK K rfl) (by rfl) T.n_all (by decide +kernel) (pa_cons (pe_lc (own := [("word", 1)]) (g := gName 1) (by rfl) scAN.nd (pi_any K 0 (pv 0)) (blkOk_by (own := [("word", 1)]) (N := ["words", "word"]) (sc := defScope sAreNames) (by decide +kernel)) (fun _ _ _ _ _ => (pg_name (i := 1) scAN.nd rfl (Or.inl rfl))) (fun _ _ _ _ _ => pts_nil) (fun _ _ _ _ _ => (pe_call G_is_name hr_is_name rfl m_is_name k_is_name b_is_name .nil pass0 (pa_cons (pv 1) pa_nil)))) pa_nil)))), ?_⟩
    refine s_ret (ev_is (ev_all (el_is (el_mapW (ps := ws) (fun m => V.bl (isNm m)) (by omega) (by show 1 < 2; decide) (wi_any rfl ha) (fun _ => rfl) (fun m hm H1 e1 => ev_call (ea_cons (ev_var rfl) ea_nil) (fun H2 e2 Q q E => ⟨m, rfl, hl m hm, q⟩))) (ys := (ws.map isNm).map V.bl) (by rw [List.map_map]; rfl))) (by rw [List.all_map]; rfl)) (fun H' e => k H' e)
end
end My

namespace My
open PySem PySem.Spec PyProof.Rows L2 Evl
/-! ### the errors of reading -/
/-- an error class nm(fs..) at C -/
structure EX (P : Program) (w : World) (K : PySem.W.Frag) (mg : Str → Option Value) (base : Heap) (nm : Str) (fs : List Str) (C : Addr) : Prop where
  ex : ∃ fI fdI, OexC K C ∧ PySem.W.findIn K (.ref C) "__init__" = some (some (.ref fI)) ∧ PySem.W.typeIn K (.ref fI) = some (.type "function") ∧ FnOk P w K mg base CX0 1 fI fdI ("self" :: fs) (spX K C fs) ∧ Binds K fdI ("self" :: fs) [] ∧ mg nm = some (.ref C)
theorem rz_mk {K : PySem.W.Frag} {CE : Addr} {fs : List Str} {vs : List V} {ta : TA} {σ : L2.St} {H : Hp} {Q : XK} {M : List Addr} (ha : EvA ta σ H vs) (hl : vs.length = fs.length) (hs : vs.length ≤ 1000) (h : Rz M Q CE (fs.zip vs) H) : tMkO CE (spX K CE fs) [] ta σ H Q :=
  mk_raise ha hl hs fun d l H' hd e hl' q => h d l H' hd (Fr.of e) hl' q
section
variable {P : Program} {w : World} {K : PySem.W.Frag} {mg : Str → Option Value} {base : Heap}
abbrev sI_BadLine : Stmt := inClass (top 4) 0
theorem scI_BadLine : FnScope ["self", "line"] ["self", "line"] (defScope sI_BadLine) := ⟨rfl, rfl, rfl, by decide +kernel, rfl, by decide +kernel, by decide +kernel⟩
theorem ok_I_BadLine {f C : Addr} {fd : FuncData} (F : Fun K "__init__" "BadLine.__init__" sI_BadLine f fd) (T : OexC K C) (n1 : PySem.W.findIn K (.ref C) "line" = some none) : FnOk P w K mg base CX0 1 f fd ["self", "line"] (spX K C ["line"]) := by
  refine F.ok scI_BadLine (fun vs H Q E h => ?_) (fun cdv A outer s H vs Q E hr h => ?_)
  · obtain ⟨a, ws, rfl, hl, _⟩ := h
    exact congrArg Nat.succ hl
  · obtain ⟨a, ws, rfl, hl, hH, k⟩ := h
    refine ⟨_, (pss_one (ps_ost (pv 0) (pv 1))), ?_⟩
    match ws, hl with
    | [v], _ => exact rd_init1 T n1 hH k
abbrev sI_TooMany : Stmt := inClass (top 9) 0
theorem scI_TooMany : FnScope ["self", "line"] ["self", "line"] (defScope sI_TooMany) := ⟨rfl, rfl, rfl, by decide +kernel, rfl, by decide +kernel, by decide +kernel⟩
theorem ok_I_TooMany {f C : Addr} {fd : FuncData} (F : Fun K "__init__" "TooMany.__init__" sI_TooMany f fd) (T : OexC K C) (n1 : PySem.W.findIn K (.ref C) "line" = some none) : FnOk P w K mg base CX0 1 f fd ["self", "line"] (spX K C ["line"]) := by
  refine F.ok scI_TooMany (fun vs H Q E h => ?_) (fun cdv A outer s H vs Q E hr h => ?_)
  · obtain ⟨a, ws, rfl, hl, _⟩ := h
    exact congrArg Nat.succ hl
  · obtain ⟨a, ws, rfl, hl, hH, k⟩ := h
    refine ⟨_, (pss_one (ps_ost (pv 0) (pv 1))), ?_⟩
    match ws, hl with
    | [v], _ => exact rd_init1 T n1 hH k
abbrev sI_DuplicateName : Stmt := inClass (top 5) 0
theorem scI_DuplicateName : FnScope ["self", "line", "name"] ["self", "line", "name"] (defScope sI_DuplicateName) := ⟨rfl, rfl, rfl, by decide +kernel, rfl, by decide +kernel, by decide +kernel⟩
theorem ok_I_DuplicateName {f C : Addr} {fd : FuncData} (F : Fun K "__init__" "DuplicateName.__init__" sI_DuplicateName f fd) (T : OexC K C) (n1 : PySem.W.findIn K (.ref C) "line" = some none) (n2 : PySem.W.findIn K (.ref C) "name" = some none) : FnOk P w K mg base CX0 1 f fd ["self", "line", "name"] (spX K C ["line", "name"]) := by
  refine F.ok scI_DuplicateName (fun vs H Q E h => ?_) (fun cdv A outer s H vs Q E hr h => ?_)
  · obtain ⟨a, ws, rfl, hl, _⟩ := h
    exact congrArg Nat.succ hl
  · obtain ⟨a, ws, rfl, hl, hH, k⟩ := h
    refine ⟨_, (pss_cons (ps_ost (pv 0) (pv 1))
    (pss_one (ps_ost (pv 0) (pv 2)))), ?_⟩
    match ws, hl with
    | [v, w], _ => exact rd_init2 T n1 n2 (by decide +kernel) hH k
abbrev sI_UnknownName : Stmt := inClass (top 6) 0
theorem scI_UnknownName : FnScope ["self", "line", "name"] ["self", "line", "name"] (defScope sI_UnknownName) := ⟨rfl, rfl, rfl, by decide +kernel, rfl, by decide +kernel, by decide +kernel⟩
theorem ok_I_UnknownName {f C : Addr} {fd : FuncData} (F : Fun K "__init__" "UnknownName.__init__" sI_UnknownName f fd) (T : OexC K C) (n1 : PySem.W.findIn K (.ref C) "line" = some none) (n2 : PySem.W.findIn K (.ref C) "name" = some none) : FnOk P w K mg base CX0 1 f fd ["self", "line", "name"] (spX K C ["line", "name"]) := by
  refine F.ok scI_UnknownName (fun vs H Q E h => ?_) (fun cdv A outer s H vs Q E hr h => ?_)
  · obtain ⟨a, ws, rfl, hl, _⟩ := h
    exact congrArg Nat.succ hl
  · obtain ⟨a, ws, rfl, hl, hH, k⟩ := h
    refine ⟨_, (pss_cons (ps_ost (pv 0) (pv 1))
    (pss_one (ps_ost (pv 0) (pv 2)))), ?_⟩
    match ws, hl with
    | [v, w], _ => exact rd_init2 T n1 n2 (by decide +kernel) hH k
end
/-! ### the form of a line -/
structure WsOk (ws : List Str) : Prop where
  ne : 1 ≤ ws.length
  few : ws.length ≤ 900
  le : ∀ w ∈ ws, w.length ≤ 900
abbrev sForm : Stmt := top 41
theorem scForm : FnScope ["words"] ["words"] (defScope sForm) := ⟨rfl, rfl, rfl, by decide +kernel, rfl, by decide +kernel, by decide +kernel⟩
def spForm (K : PySem.W.Frag) : Sp := fun vs H Q _ => ∃ (a : Addr) (ws : List Str), vs = [.ref a] ∧ SqL K H a (ws.map V.str) ∧ WsOk ws ∧ ∀ H', Ex H H' → Q (.bl (formOk isNm ws)) H'
structure TForm (mg : Str → Option Value) : Prop where
  n_len : mg "len" = none
theorem ev_callL {te : TE} {σ : L2.St} {H : Hp} {sp : Sp} {E : XK} {xs : List V} {z : V} (h : EvL te σ H xs) (hs : ∀ p H1, Ex H H1 → H1 p = some (.lst xs) → SpV sp [.ref p] H1 z) : Ev (tCall sp [] E (tCons te tNil)) σ H z := fun H1 e Q q =>
  h H1 e _ fun p H2 _ e2 h2 => hs p H2 (e.trans e2) h2 H2 (Ex.refl _) Q (fun H3 e3 => q H3 (e2.trans e3)) E
theorem str_beq (x y : Str) : decide (V.str x = V.str y) = decide (x = y) := decide_eq_decide.mpr ⟨fun z => V.str.inj z, fun z => congrArg V.str z⟩
theorem join_ge (y : Str) : ∀ {ys : List Str} {m : Str}, m ∈ ys → m.length ≤ (Str.join y ys).length
  | [x], m, h => by
    obtain rfl : m = x := by simpa using h
    exact Nat.le_refl _
  | x :: z :: r, m, h => by
    show _ ≤ (x ++ y ++ Str.join y (z :: r)).length
    rw [app_len, app_len]
    rcases List.mem_cons.mp h with e | e
    · rw [e]; omega
    · have := join_ge y e
      omega
theorem split_part {x y m : Str} (h : m ∈ Txt.split x y) : m.length ≤ x.length := by
  have := join_ge y h
  rwa [StrLaws.join_split] at this
theorem getD_at {ws : List Str} {k : Nat} (h : k < ws.length) : (ws.map V.str)[k]? = some (.str (ws.getD k "")) := by
  rw [List.getElem?_map, List.getElem?_eq_getElem h]
  simp [List.getD_eq_getElem?_getD, List.getElem?_eq_getElem h]
theorem ev_at {K : PySem.W.Frag} {te : TE} {σ : L2.St} {H : Hp} {a : Addr} {ws : List Str} {i : Int} (k : Nat) (hi : i = (k : Int)) (h : Ev te σ H (.ref a)) (hx : SqL K H a (ws.map V.str)) (hk : k < ws.length) : Ev (tOp (rIxL K) te (tC (.int i))) σ H (.str (ws.getD k "")) :=
  ev_op h ev_c (rv_ixL hx (atI_n hi (getD_at hk)))
theorem ev_lenGe {K : PySem.W.Frag} {te : TE} {σ : L2.St} {H : Hp} {a : Addr} {ws : List Str} {i : Int} (k : Nat) (hi : i = (k : Int)) (h : Ev te σ H (.ref a)) (hx : SqL K H a (ws.map V.str)) : Ev (tOp (rI0 fun i j => .bl (decide (i ≥ j))) (tCB (rLenS K) (tCons te tNil)) (tC (.int i))) σ H (.bl (decide (k ≤ ws.length))) :=
  ev_is (ev_op (ev_lenA h (.inl hx)) ev_c rv_I0) (by rw [List.length_map, hi]; exact congrArg V.bl (decide_eq_decide.mpr ⟨fun z => by omega, fun z => by omega⟩))
theorem ev_lenEq {K : PySem.W.Frag} {te : TE} {σ : L2.St} {H : Hp} {a : Addr} {ws : List Str} {i : Int} (k : Nat) (hi : i = (k : Int)) (h : Ev te σ H (.ref a)) (hx : SqL K H a (ws.map V.str)) : Ev (tOp rEq (tCB (rLenS K) (tCons te tNil)) (tC (.int i))) σ H (.bl (decide (ws.length = k))) :=
  ev_is (ev_op (ev_lenA h (.inl hx)) ev_c (rv_eq rfl)) (by rw [List.length_map, hi]; exact congrArg V.bl (decide_eq_decide.mpr ⟨fun z => by have := V.int.inj z; omega, fun z => by rw [z]⟩))
theorem head_at {ws : List Str} (h : 1 ≤ ws.length) : ws.headD "" = ws.getD 0 "" := by
  cases ws with
  | nil => simp at h
  | cons w t => rfl
section
variable {P : Program} {w : World} {K : PySem.W.Frag} {mg : Str → Option Value} {base : Heap}
theorem ok_form {f fN fA : Addr} {fd fdN fdA : FuncData} (F : Fun K "_has_form" "_has_form" sForm f fd) (T : TForm mg)
    (G_is_name : FnOk P w K mg base CX0 2 fN fdN ["word"] (spStrB isNm)) (m_is_name : mg "is_name" = some (.ref fN)) (k_is_name : PySem.W.keepIn K (.ref fN) = true) (b_is_name : Binds K fdN ["word"] [])
    (G_are_names : FnOk P w K mg base CX0 3 fA fdA ["words"] (spAre K)) (m_are_names : mg "are_names" = some (.ref fA)) (k_are_names : PySem.W.keepIn K (.ref fA) = true) (b_are_names : Binds K fdA ["words"] []) :
    FnOk P w K mg base CX0 4 f fd ["words"] (spForm K) := by
  refine F.ok scForm (fun vs H Q E h => ?_) (fun cdv A outer s H vs Q E hr h => ?_)
  · obtain ⟨a, ws, rfl, _⟩ := h
    rfl
  · obtain ⟨a, ws, rfl, ha, ok, k⟩ := h
    have hr_are_names : Room 3 _ := hr
    have hr_is_name : Room 2 _ := hr.mono (by decide)
    refine ⟨_, (pss_cons (ps_if (pt_cmpR op_eq (pe_ix (ixL K) (pv 0) pe_int (fun _ _ => rfl)) pe_str (nomark _))
      (pss_one (ps_ret (pe_and (pe_cmpR op_ge (pe_callB (lenSeq K) (by rfl) T.n_len (by decide +kernel) (pa_cons (pv 0) pa_nil)) pe_int (nomark _)) (pe_one (pe_call G_are_names hr_are_names rfl m_are_names k_are_names b_are_names .nil pass0 (pa_cons (pe_slice (slL K) (pv 0) (po_some pe_int) po_none) pa_nil))))))
      pss_nil)
    (pss_cons (ps_if (pt_cmpR op_eq (pe_ix (ixL K) (pv 0) pe_int (fun _ _ => rfl)) pe_str (nomark _))
      (pss_one (ps_ret (pe_and (pe_cmpR op_ge (pe_callB (lenSeq K) (by rfl) T.n_len (by decide +kernel) (pa_cons (pv 0) pa_nil)) pe_int (nomark _)) (pe_one (pe_call G_are_names hr_are_names rfl m_are_names k_are_names b_are_names .nil pass0 (pa_cons (pe_slice (slL K) (pv 0) (po_some pe_int) po_none) pa_nil))))))
      pss_nil)
    (pss_cons (ps_if (pt_cmpR op_eq (pe_ix (ixL K) (pv 0) pe_int (fun _ _ => rfl)) pe_str (nomark _))
      (pss_one (ps_ret (pe_and (pe_cmpR op_eq (pe_callB (lenSeq K) (by rfl) T.n_len (by decide +kernel) (pa_cons (pv 0) pa_nil)) pe_int (nomark _)) (pe_and (pe_call G_is_name hr_is_name rfl m_is_name k_is_name b_is_name .nil pass0 (pa_cons (pe_ix (ixL K) (pv 0) pe_int (fun _ _ => rfl)) pa_nil)) (pe_one (pe_call G_are_names hr_are_names rfl m_are_names k_are_names b_are_names .nil pass0 (pa_cons (bmK K PySem.F.plainAttrs_str PySem.F.slot_str_split PySem.F.type_str_split mt_split (pe_ix (ixL K) (pv 0) pe_int (fun _ _ => rfl)) (pa_cons pe_str pa_nil)) pa_nil)))))))
      pss_nil)
    (pss_cons (ps_if (pt_cmpR op_eq (pe_ix (ixL K) (pv 0) pe_int (fun _ _ => rfl)) pe_str (nomark _))
      (pss_one (ps_ret (pe_and (pe_cmpR op_eq (pe_callB (lenSeq K) (by rfl) T.n_len (by decide +kernel) (pa_cons (pv 0) pa_nil)) pe_int (nomark _)) (pe_one (pe_call G_are_names hr_are_names rfl m_are_names k_are_names b_are_names .nil pass0 (pa_cons (pe_slice (slL K) (pv 0) (po_some pe_int) po_none) pa_nil))))))
      pss_nil)
    (pss_one (ps_ret pe_bl)))))), ?_⟩
    have h0 := ok.ne
    have hd := head_at h0
    -- the first word is ..
    have first : ∀ {H1 : Hp} (z : Str), Ex H H1 → EvT (tTest (tOp rEq (tOp (rIxL K) (tVar 0) (tC (.int 0))) (tC (.str z)))) (L2.start ["words"] [.ref a]) H1 (decide (ws.headD "" = z)) := fun {H1} z e => by
      rw [hd]
      exact et_test (ev_is (ev_op (ev_at 0 rfl (ev_var rfl) (ex_l e ha) (by omega)) ev_c (rv_eq rfl)) (congrArg V.bl (str_beq _ _)))
    -- the words behind it are names
    have names : ∀ {H1 : Hp}, Ex H H1 → Ev (tCall (spAre K) [] E (tCons (tSl (rSlL K) (tVar 0) (fun σ H Q => tC (.int 1) σ H fun v H' => ∃ i, v = .int i ∧ Q (some i) H') (fun σ H Q => Q none H)) tNil)) (L2.start ["words"] [.ref a]) H1 (.bl ((ws.drop 1).all isNm)) := fun {H1} e => by
      refine ev_callL (xs := (ws.drop 1).map V.str) (el_is (el_sl (lo := some ((1 : Nat) : Int)) (hi := none) (ev_var rfl) (eo_some ev_c) eo_none (ex_l e ha)) ?_) (fun p H2 e2 h2 H3 e3 Q q E => ⟨p, ws.drop 1, rfl, .inl (SqL.of (e3 _ _ h2)), by rw [List.length_drop]; have := ok.few; omega, fun m hm => Nat.le_trans (ok.le m (List.mem_of_mem_drop hm)) (by decide), q⟩)
      rw [cutV_drop _ 1 (by rw [List.length_map]; exact h0), List.map_drop]
    have fin : ∀ {b : Bool} {H1 : Hp}, Ex H H1 → formOk isNm ws = b → Q (.bl b) H1 := fun {b H1} e hb => by rw [← hb]; exact k H1 e
    refine q_when (first "root" (Ex.refl H)) (fun c H1 e1 => ?_) (fun c1 H1 e1 => ?_)
    · refine s_ret (ev_andV (ev_lenGe 3 rfl (ev_var rfl) (ex_l e1 ha)) (fun _ => names e1)) (fun H2 e2 => fin (e1.trans e2) ?_)
      unfold formOk
      rw [if_pos (of_decide_eq_true c)]
    refine q_when (first "table" e1) (fun c H2 e2 => ?_) (fun c2 H2 e2 => ?_)
    · have e := e1.trans e2
      refine s_ret (ev_andV (ev_lenGe 4 rfl (ev_var rfl) (ex_l e ha)) (fun _ => names e)) (fun H3 e3 => fin (e.trans e3) ?_)
      unfold formOk
      rw [if_neg (of_decide_eq_false c1), if_pos (of_decide_eq_true c)]
    refine q_when (first "owner" (e1.trans e2)) (fun c H3 e3 => ?_) (fun c3 H3 e3 => ?_)
    · have e := (e1.trans e2).trans e3
      refine s_ret (v := .bl (decide (ws.length = 3) && (isNm (ws.getD 1 "") && (dotS (ws.getD 2 "")).all isNm))) (ev_andV (ev_lenEq 3 rfl (ev_var rfl) (ex_l e ha)) (fun h3 => ?_)) (fun H4 e4 => fin (e.trans e4) ?_)
      · have h3 := of_decide_eq_true h3
        have le1 : (ws.getD 1 "").length ≤ 900 := by
          have q := List.getElem_mem (l := ws) (n := 1) (by omega)
          rw [List.getD_eq_getElem?_getD, List.getElem?_eq_getElem (by omega)]
          exact ok.le _ q
        have le2 : (ws.getD 2 "").length ≤ 900 := by
          have q := List.getElem_mem (l := ws) (n := 2) (by omega)
          rw [List.getD_eq_getElem?_getD, List.getElem?_eq_getElem (by omega)]
          exact ok.le _ q
        refine ev_andV (ev_call (ea_cons (ev_at 1 rfl (ev_var rfl) (ex_l e ha) (by omega)) ea_nil) (fun H4 e4 Q q E => ⟨_, rfl, by omega, q⟩)) (fun _ => ?_)
        refine ev_callL (xs := (dotS (ws.getD 2 "")).map V.str) (el_split (ev_at 2 rfl (ev_var rfl) (ex_l e ha) (by omega)) ev_c rfl (by omega)) (fun p H4 e4 h4 H5 e5 Q q E => ⟨p, _, rfl, .inl (SqL.of (e5 _ _ h4)), ?_, fun m hm => ?_, q⟩)
        · have := PyProof.Rows.split_le (ws.getD 2 "") "."
          unfold dotS
          omega
        · have := split_part hm
          omega
      · unfold formOk
        rw [if_neg (of_decide_eq_false c1), if_neg (of_decide_eq_false c2), if_pos (of_decide_eq_true c)]
    have e123 := (e1.trans e2).trans e3
    refine q_when (first "follow" e123) (fun c H4 e4 => ?_) (fun c4 H4 e4 => ?_)
    · have e := e123.trans e4
      refine s_ret (ev_andV (ev_lenEq 4 rfl (ev_var rfl) (ex_l e ha)) (fun _ => names e)) (fun H5 e5 => fin (e.trans e5) ?_)
      unfold formOk
      rw [if_neg (of_decide_eq_false c1), if_neg (of_decide_eq_false c2), if_neg (of_decide_eq_false c3), if_pos (of_decide_eq_true c)]
    · refine s_ret ev_c (fun H5 e5 => fin ((e123.trans e4).trans e5) ?_)
      unfold formOk
      rw [if_neg (of_decide_eq_false c1), if_neg (of_decide_eq_false c2), if_neg (of_decide_eq_false c3), if_neg (of_decide_eq_false c4)]
end
end My

namespace My
open PySem PySem.Spec PyProof.Rows L2 Evl
/-! ### a schema's own methods: what it knows, chains, limits -/
structure TS0 (K : PySem.W.Frag) (C : Addr) : Prop where
  cl : Cls K C
  n1 : NoAttr K C "text"
  n2 : NoAttr K C "_parents"
  n3 : NoAttr K C "_columns"
  n4 : NoAttr K C "_owners"
  n5 : NoAttr K C "_follows"
theorem Rz.less {M : List Addr} {E : XK} {C : Addr} {fs : List (Str × V)} {H : Hp} (h : Rz M E C fs H) : Rz [] E C fs H := fun d l H' hd f hl q => h d l H' hd (f.mono fun b hb => by cases hb) hl q
section
variable {K : PySem.W.Frag} {C : Addr} {H : Hp} {A : Ad} {rs : List Row} {ow : List (Str × Str)} {σ : L2.St} {te ty : TE}
theorem ev_sText (T : TS0 K C) (S : SA C H A rs ow) (h : Ev te σ H (.ref A.a)) : Ev (tFld K te "text") σ H (.str A.tx) := ev_fldX T.cl T.n1 h S.ins rfl
theorem ev_sPar (T : TS0 K C) (S : SA C H A rs ow) (h : Ev te σ H (.ref A.a)) : Ev (tFld K te "_parents") σ H (.ref A.p) := ev_fldX T.cl T.n2 h S.ins rfl
theorem ev_sCol (T : TS0 K C) (S : SA C H A rs ow) (h : Ev te σ H (.ref A.a)) : Ev (tFld K te "_columns") σ H (.ref A.c) := ev_fldX T.cl T.n3 h S.ins rfl
theorem ev_sOwn (T : TS0 K C) (S : SA C H A rs ow) (h : Ev te σ H (.ref A.a)) : Ev (tFld K te "_owners") σ H (.ref A.o) := ev_fldX T.cl T.n4 h S.ins rfl
theorem ev_sFol (T : TS0 K C) (S : SA C H A rs ow) (h : Ev te σ H (.ref A.a)) : Ev (tFld K te "_follows") σ H (.ref A.f) := ev_fldX T.cl T.n5 h S.ins rfl
theorem findR_nm {n : Str} {r : Row} (h : findR rs n = some r) : r ∈ rs ∧ r.t.nm = n := by
  unfold findR at h
  exact ⟨List.mem_of_find?_eq_some h, by simpa using List.find?_some h⟩
theorem findR_known {n : Str} {r : Row} (h : findR rs n = some r) : known (tbs rs) n = true := by
  obtain ⟨hr, e⟩ := findR_nm h
  exact decide_eq_true (List.mem_map.mpr ⟨r.t, List.mem_map_of_mem hr, e⟩)
/-- d[table] of the parents, columns, follows -/
theorem ev_rowPar (T : TS0 K C) (S : SA C H A rs ow) {n : Str} {r : Row} (hr : findR rs n = some r) (h : Ev te σ H (.ref A.a)) (hn : Ev ty σ H (.str n)) : Ev (tDGet (tFld K te "_parents") ty) σ H (parV r.t.par) := by
  refine ev_dget (k := .inr n) (ev_sPar T S h) hn S.hp ?_
  unfold findR at hr
  rw [val_kvR, hr]
  rfl
theorem ev_rowCol (T : TS0 K C) (S : SA C H A rs ow) {n : Str} {r : Row} (hr : findR rs n = some r) (h : Ev te σ H (.ref A.a)) (hn : Ev ty σ H (.str n)) : Ev (tDGet (tFld K te "_columns") ty) σ H (.ref r.ca) := by
  refine ev_dget (k := .inr n) (ev_sCol T S h) hn S.hc ?_
  unfold findR at hr
  rw [val_kvR, hr]
  rfl
theorem ev_rowFol (T : TS0 K C) (S : SA C H A rs ow) {n : Str} {r : Row} (hr : findR rs n = some r) (h : Ev te σ H (.ref A.a)) (hn : Ev ty σ H (.str n)) : Ev (tDGet (tFld K te "_follows") ty) σ H (.ref r.fa) := by
  refine ev_dget (k := .inr n) (ev_sFol T S h) hn S.hf ?_
  unfold findR at hr
  rw [val_kvR, hr]
  rfl
theorem w_methS {m : Str} {sp : Sp} {dvs : List V} {E : XK} {t : TA} {Q : VK} (h : Ev te σ H (.ref A.a)) (S : SA C H A rs ow) (no : ∀ a b c d e : V, List.lookup m [(("text" : Str), a), ("_parents", b), ("_columns", c), ("_owners", d), ("_follows", e)] = none)
    (k : ∀ H1, Ex H H1 → t σ H1 fun vs H2 => sp (.ref A.a :: (vs ++ dvs)) H2 Q E) : tMeth C m sp dvs E te t σ H Q :=
  h H (Ex.refl H) _ fun H1 e1 => ⟨A.a, A.dx, _, rfl, (S.ex e1).ins, no _ _ _ _ _, k H1 e1⟩
end
def spKnown (C : Addr) (e : ErA) : Sp := fun vs H Q E => ∃ (A : Ad) (rs : List Row) (ow : List (Str × Str)) (line : Int) (n : Str), vs = [.ref A.a, .int line, .str n] ∧ SA C H A rs ow ∧
  (known (tbs rs) n = true → ∀ H', Ex H H' → Q .non H') ∧ (known (tbs rs) n = false → Rz [] E (e.cls (.unk n)) (erFs line (.unk n)) H)
abbrev sKnown : Stmt := inClass (top 43) 14
theorem scKnown : FnScope ["self", "line", "table"] ["self", "line", "table"] (defScope sKnown) := ⟨rfl, rfl, rfl, by decide +kernel, rfl, by decide +kernel, by decide +kernel⟩
def spChain (C : Addr) (e : ErA) : Sp := fun vs H Q E => ∃ (A : Ad) (rs : List Row) (ow : List (Str × Str)) (n : Str), vs = [.ref A.a, .str n] ∧ SA C H A rs ow ∧ WF (tbs rs) ∧ rs.length ≤ 1000 ∧
  (known (tbs rs) n = true → ∀ p H', H p = none → Ex H H' → H' p = some (.lst ((chainT (tbs rs) n).map V.str)) → Q (.ref p) H') ∧ (known (tbs rs) n = false → Rz [] E (e.cls (.unk n)) (erFs 0 (.unk n)) H)
abbrev sChain : Stmt := inClass (top 43) 8
theorem scChain : FnScope ["self", "table", "chain"] ["self", "table"] (defScope sChain) := ⟨rfl, rfl, rfl, by decide +kernel, rfl, by decide +kernel, by decide +kernel⟩
/-- beyond a limit -/
def big (tb : List Tb) (t : Tb) : Bool := decide (4 < t.cols.length ∨ 6 < tb.length ∨ 4 < (chainT tb t.nm).length)
def spLim (C : Addr) (e : ErA) : Sp := fun vs H Q E => ∃ (A : Ad) (rs : List Row) (ow : List (Str × Str)) (line : Int) (n : Str) (r : Row), vs = [.ref A.a, .int line, .str n] ∧ SA C H A rs ow ∧ WF (tbs rs) ∧ rs.length ≤ 1000 ∧ findR rs n = some r ∧
  (big (tbs rs) r.t = false → ∀ H', Ex H H' → Q .non H') ∧ (big (tbs rs) r.t = true → Rz [] E (e.cls .many) (erFs line .many) H)
abbrev sLim : Stmt := inClass (top 43) 17
theorem scLim : FnScope ["self", "line", "table"] ["self", "line", "table"] (defScope sLim) := ⟨rfl, rfl, rfl, by decide +kernel, rfl, by decide +kernel, by decide +kernel⟩
/-- the class's values -/
structure TLim (K : PySem.W.Frag) (mg : Str → Option Value) (C : Addr) : Prop where
  g_Schema : mg "Schema" = some (.ref C)
  n_len : mg "len" = none
  rd : ClX.CRead K C (.type "type")
  c1 : ∃ u, ClX.CVal K C (.type "type") "MOST_TABLES" (.int 6) u
  c2 : ∃ u, ClX.CVal K C (.type "type") "MOST_COLUMNS" (.int 4) u
  c3 : ∃ u, ClX.CVal K C (.type "type") "LONGEST_CHAIN" (.int 4) u
section
variable {P : Program} {w : World} {K : PySem.W.Frag} {mg : Str → Option Value} {base : Heap}
theorem ok_known {C f : Addr} {fd : FuncData} {e : ErA} (F : Fun K "_check_known" "Schema._check_known" sKnown f fd) (TC : TS0 K C) (eU : EX P w K mg base "UnknownName" ["line", "name"] e.CU) :
    FnOk P w K mg base (L2.CX P w) 3 f fd ["self", "line", "table"] (spKnown C e) := by
  refine F.okX scKnown (fun vs H Q E h => ?_) (fun cdv A' outer s H vs Q E hr h => ?_)
  · obtain ⟨A, rs, ow, line, n, rfl, _⟩ := h
    rfl
  · obtain ⟨A, rs, ow, line, n, rfl, S, k1, k2⟩ := h
    obtain ⟨fU, fdU, OX_UnknownName, IX_UnknownName, TY_UnknownName, GX_UnknownName, BX_UnknownName, NX_UnknownName⟩ := eU.ex
    have hrX : Room (1 + 1) _ := hr
    have hu := hu_of hr
    refine ⟨_, (pss_one (ps_if (pt_cmp (pc_dnotin hu (pv 2) (fldK K (pv 0))))
      (pss_one (ps_raise rfl (takes_of rfl rfl rfl rfl) (pmk_oex OX_UnknownName IX_UnknownName TY_UnknownName GX_UnknownName hrX BX_UnknownName .nil pass0 rfl NX_UnknownName (pa_cons (pv 1) (pa_cons (pv 2) pa_nil)))))
      pss_nil)), ?_⟩
    refine s_when (b := !known (tbs rs) n) (et_dni (k := .inr n) (ev_var rfl) (ev_sCol TC S (ev_var rfl)) S.hc has_kvR) (fun b H1 e1 => ?_) (fun b H1 e1 => k1 (by simpa using b) H1 e1)
    exact rz_mk (fs := ["line", "name"]) (vs := [.int line, .str n]) (ea_cons (ev_var rfl) (ea_cons (ev_var rfl) ea_nil)) rfl (by show 2 ≤ 1000; decide) ((k2 (by simpa using b)).ex e1)
theorem ok_chain {C f fK : Addr} {fd fdK : FuncData} {e : ErA} (F : Fun K "chain_of" "Schema.chain_of" sChain f fd) (TC : TS0 K C)
    (M_Schema__check_known : Meth K C "_check_known" fK) (G_Schema__check_known : FnOk P w K mg base (L2.CX P w) 3 fK fdK ["self", "line", "table"] (spKnown C e)) (b_Schema__check_known : Binds K fdK ["self", "line", "table"] []) :
    FnOk P w K mg base (L2.CX P w) 4 f fd ["self", "table"] (spChain C e) := by
  refine F.okX scChain (fun vs H Q E h => ?_) (fun cdv A' outer s H vs Q E hr h => ?_)
  · obtain ⟨A, rs, ow, n, rfl, _⟩ := h
    rfl
  · obtain ⟨A, rs, ow, n, rfl, S, wf, few, k1, k2⟩ := h
    have hr_Schema__check_known : Room 3 _ := hr
    have hu := hu_of hr
    refine ⟨_, (pss_cons (ps_expr (pe_meth (pv 0) TC.cl M_Schema__check_known G_Schema__check_known hr_Schema__check_known b_Schema__check_known .nil (passes_call (takes_of rfl rfl rfl rfl) (fun _ _ _ _ h => h)) (pa_cons pe_int (pa_cons (pv 1) pa_nil))))
    (pss_cons (ps_set (i := 2) scChain.nd rfl (Or.inl rfl) (pe_lst (pa_cons (pv 1) pa_nil)))
    (pss_cons (ps_while (passes_of rfl) (pt_cmpR op_notN (pe_dget hu (fldK K (pv 0)) (pe_ix (ixL K) (pv 2) (pe_un un_neg pe_int) (fun _ _ => rfl)) (fun _ _ => rfl)) pe_non (nomark _))
      (pss_one (ps_expr (bmK K PySem.F.plainAttrs_list PySem.F.slot_list_append PySem.F.type_list_append mt_append (pv 2) (pa_cons (pe_dget hu (fldK K (pv 0)) (pe_ix (ixL K) (pv 2) (pe_un un_neg pe_int) (fun _ _ => rfl)) (fun _ _ => rfl)) pa_nil)))))
    (pss_one (ps_ret (pv 2)))))), ?_⟩
    refine w_seq (w_drop (w_methS (ev_var rfl) S (fun _ _ _ _ _ => rfl) (fun H1 e1 => w_cons (w_ev ev_c fun H2 e2 => w_cons (w_ev (ev_var rfl) fun H3 e3 => w_nil ⟨A, rs, ow, 0, n, rfl, S.ex ((e1.trans e2).trans e3), fun kn H4 e4 => ?_, fun kn => (k2 kn).ex ((e1.trans e2).trans e3)⟩)))))
    have e04 := ((e1.trans e2).trans e3).trans e4
    refine q_asgL (el_lst (ea_cons (ev_var rfl) ea_nil) (by show 1 ≤ 100000; decide)) (fun ch H5 hch e5 h5 => ?_)
    have e05 := e04.trans e5
    have hch0 := fresh_back e04 hch
    obtain ⟨i0, hi0, en0⟩ := known_at kn
    refine w_seq (s_while (fun m σ' H' => ∃ pre i, ∃ hi : i < (tbs rs).length, m = i ∧ σ' = [some (.ref A.a), some (.str n), some (.ref ch)] ∧ Ex H H' ∧ H' ch = some (.lst ((pre ++ [(tbs rs)[i].nm]).map V.str)) ∧ pre ++ chainF (tbs rs) i (tbs rs)[i].nm = chainT (tbs rs) n) i0 ⟨[], i0, hi0, rfl, rfl, e05, by rw [h5, en0]; rfl, ?_⟩ (fun m σ' H' p => ?_))
    · show chainF _ _ _ = _
      unfold chainT
      rw [← en0]
      exact (chain_stable wf i0 hi0 _ (Nat.le_of_lt hi0)).symm
    · obtain ⟨pre, i, hi, em, rfl, e, hH, hc⟩ := p
      have S' := S.ex e
      obtain ⟨r, hr1, hr2, hr3⟩ := findR_of (known_of hi)
      have er : r.t = (tbs rs)[i] := by
        have q := find_at wf.nd hi
        rw [find_tbs, hr1] at q
        exact Option.some.inj q
      have lastI : Ev (tOp (rIxL K) (tVar 2) (tUn (rU fun i => .int (-i)) (tC (.int 1)))) [some (.ref A.a), some (.str n), some (.ref ch)] H' (.str (tbs rs)[i].nm) := by
        refine ev_op (ev_var rfl) (ev_un ev_c ru_neg) (rv_ixL (SqL.of hH) ?_)
        rw [List.map_append]
        exact atI_last _ _
      have parI := ev_rowPar (te := tVar 0) TC S' hr1 (ev_var rfl) lastI
      refine ⟨!decide (parV r.t.par = V.non), ?_, fun b H1 e1 => ?_, fun b H1 e1 => ?_⟩
      · exact et_test (ev_op parI ev_c (fun H1 _ Q q => ⟨rfl, q H1 (Ex.refl H1)⟩))
      · obtain ⟨p, hp⟩ : ∃ p, r.t.par = some p := by
          cases h : r.t.par with
          | none => rw [h] at b; simp [parV] at b
          | some p => exact ⟨p, rfl⟩
        rw [er] at hp
        obtain ⟨j, hj, lt, ej⟩ := wf.par i hi p hp
        subst ej
        have lpre : pre.length ≤ 2000 := by
          have l1 := congrArg List.length hc
          have l2 := chain_len (tb := tbs rs) (tbs rs).length n
          rw [List.length_append] at l1
          unfold chainT at l1
          have : (tbs rs).length = rs.length := List.length_map _
          omega
        refine ⟨_, fun σ2 H2 z => z, s_app (e1 _ _ hH) (ev_var rfl) (Ev.mono e1 parI) (by rw [List.length_map, List.length_append]; show pre.length + 1 < 100000; omega) (fun H2 e2 => ⟨j, by omega, pre ++ [(tbs rs)[i].nm], j, hj, rfl, rfl, Ex.mut ((e.trans e1).trans e2) hch0, ?_, ?_⟩)⟩
        · rw [upd_same, er, hp, List.map_append (l₂ := [(tbs rs)[j].nm])]
          rfl
        · rw [← hc, chain_next wf hi hj lt hp, List.append_assoc]
          rfl
      · have hp : (tbs rs)[i].par = none := by
          rw [← er]
          cases h : r.t.par with
          | none => rfl
          | some p => rw [h] at b; simp [parV] at b
        have e' := e.trans e1
        refine s_ret (ev_var rfl) (fun H2 e2 => k1 kn ch H2 hch0 (e'.trans e2) ?_)
        rw [(e1.trans e2) _ _ hH, ← hc, chain_end wf hi hp]
theorem ok_lim {C f fC : Addr} {fd fdC : FuncData} {e : ErA} (F : Fun K "_check_limits" "Schema._check_limits" sLim f fd) (TC : TS0 K C) (T : TLim K mg C) (eM : EX P w K mg base "TooMany" ["line"] e.CM)
    (M_Schema_chain_of : Meth K C "chain_of" fC) (G_Schema_chain_of : FnOk P w K mg base (L2.CX P w) 4 fC fdC ["self", "table"] (spChain C e)) (b_Schema_chain_of : Binds K fdC ["self", "table"] []) :
    FnOk P w K mg base (L2.CX P w) 5 f fd ["self", "line", "table"] (spLim C e) := by
  refine F.okX scLim (fun vs H Q E h => ?_) (fun cdv A' outer s H vs Q E hr h => ?_)
  · obtain ⟨A, rs, ow, line, n, r, rfl, _⟩ := h
    rfl
  · obtain ⟨A, rs, ow, line, n, r, rfl, S, wf, few, hr1, k1, k2⟩ := h
    obtain ⟨fM, fdM, OX_TooMany, IX_TooMany, TY_TooMany, GX_TooMany, BX_TooMany, NX_TooMany⟩ := eM.ex
    have hrX : Room (1 + 1) _ := hr.mono (by decide)
    have hr_Schema_chain_of : Room 4 _ := hr
    have hu := hu_of hr
    obtain ⟨u1, C1⟩ := T.c1
    obtain ⟨u2, C2⟩ := T.c2
    obtain ⟨u3, C3⟩ := T.c3
    obtain ⟨hr2, hr3⟩ := findR_nm hr1
    refine ⟨_, (pss_cons (ps_if (pt_cmpR op_gt (pe_callB (lenSeq K) (by rfl) T.n_len (by decide +kernel) (pa_cons (pe_dget hu (fldK K (pv 0)) (pv 2) (fun _ _ => rfl)) pa_nil)) (cvalK K (pe_cls rfl T.g_Schema)) (nomark _))
      (pss_one (ps_raise rfl (takes_of rfl rfl rfl rfl) (pmk_oex OX_TooMany IX_TooMany TY_TooMany GX_TooMany hrX BX_TooMany .nil pass0 rfl NX_TooMany (pa_cons (pv 1) pa_nil))))
      pss_nil)
    (pss_cons (ps_if (pt_cmpR op_gt (pe_callB call_lenD (by rfl) T.n_len (by decide +kernel) (pa_cons (fldK K (pv 0)) pa_nil)) (cvalK K (pe_cls rfl T.g_Schema)) (nomark _))
      (pss_one (ps_raise rfl (takes_of rfl rfl rfl rfl) (pmk_oex OX_TooMany IX_TooMany TY_TooMany GX_TooMany hrX BX_TooMany .nil pass0 rfl NX_TooMany (pa_cons (pv 1) pa_nil))))
      pss_nil)
    (pss_one (ps_if (pt_cmpR op_gt (pe_callB (lenSeq K) (by rfl) T.n_len (by decide +kernel) (pa_cons (pe_meth (pv 0) TC.cl M_Schema_chain_of G_Schema_chain_of hr_Schema_chain_of b_Schema_chain_of .nil (passes_call (takes_of rfl rfl rfl rfl) (fun _ _ _ _ h => h)) (pa_cons (pv 2) pa_nil)) pa_nil)) (cvalK K (pe_cls rfl T.g_Schema)) (nomark _))
      (pss_one (ps_raise rfl (takes_of rfl rfl rfl rfl) (pmk_oex OX_TooMany IX_TooMany TY_TooMany GX_TooMany hrX BX_TooMany .nil pass0 rfl NX_TooMany (pa_cons (pv 1) pa_nil))))
      pss_nil)))), ?_⟩
    have gt : ∀ {te : TE} {H1 : Hp} {f : Str} {u : Value} {b m : Nat}, Ev te [some (.ref A.a), some (.int line), some (.str n)] H1 (.int (b : Int)) → ClX.CVal K C (.type "type") f (.int (m : Int)) u → EvT (tTest (tOp (rI0 fun i j => .bl (decide (i > j))) te (ClX.tCVal K (tC (.ref C)) f))) [some (.ref A.a), some (.int line), some (.str n)] H1 (decide (m < b)) := fun {te H1 f u b m} h c =>
      et_test (ev_is (ev_op h (ev_cval ev_c T.rd c) rv_I0) (congrArg V.bl (decide_eq_decide.mpr ⟨fun z => by omega, fun z => by omega⟩)))
    have many : ∀ {H1 : Hp}, Ex H H1 → big (tbs rs) r.t = true → Rz [] E (e.cls .many) (erFs line .many) H1 := fun e1 h => (k2 h).ex e1
    refine q_when (gt (b := r.t.cols.length) (m := 4) (ev_is (ev_lenA (ev_rowCol TC S hr1 (ev_var rfl) (ev_var rfl)) (.inl (SqL.of (S.cs r hr2)))) (by rw [List.length_map])) C2) (fun b H1 e1 => ?_) (fun b1 H1 e1 => ?_)
    · exact rz_mk (fs := ["line"]) (vs := [.int line]) (ea_cons (ev_var rfl) ea_nil) rfl (by show 1 ≤ 1000; decide) (many e1 (decide_eq_true (.inl (of_decide_eq_true b))))
    have S1 := S.ex e1
    refine q_when (gt (b := rs.length) (m := 6) (fun H2 e2 Q q => ev_sCol TC S1 (ev_var rfl) H2 e2 _ fun H3 e3 => ⟨A.c, kvR rs fun r => .ref r.ca, rfl, (e2.trans e3) _ _ S1.hc, by unfold kvR; rw [List.length_map]; exact q H3 e3⟩) C1) (fun b H2 e2 => ?_) (fun b2 H2 e2 => ?_)
    · exact rz_mk (fs := ["line"]) (vs := [.int line]) (ea_cons (ev_var rfl) ea_nil) rfl (by show 1 ≤ 1000; decide) (many (e1.trans e2) (decide_eq_true (.inr (.inl (by rw [List.length_map]; exact of_decide_eq_true b)))))
    have e02 := e1.trans e2
    have S2 := S.ex e02
    refine w_ifS (w_test (w_op (w_cb (w_cons (w_methS (ev_var rfl) S2 (fun _ _ _ _ _ => rfl) (fun H3 e3 => w_cons (w_ev (ev_var rfl) fun H4 e4 => w_nil ⟨A, rs, ow, n, rfl, S2.ex (e3.trans e4), wf, few, fun _ p H5 hp e5 h5 => ?_, fun kn => ?_⟩)))))))
    · refine w_nil ⟨p, _, rfl, .inl (SqL.of h5), ?_⟩
      refine w_ev (ev_cval ev_c T.rd C3) (fun H6 e6 => ⟨_, _, rfl, rfl, _, rfl, ?_⟩)
      have e06 := (((e02.trans e3).trans e4).trans e5).trans e6
      have dec : decide ((((chainT (tbs rs) n).map V.str).length : Int) > 4) = decide (4 < (chainT (tbs rs) n).length) := by
        rw [List.length_map]
        exact decide_eq_decide.mpr ⟨fun z => by omega, fun z => by omega⟩
      rw [dec]
      have b1 := of_decide_eq_false b1
      have b2 := of_decide_eq_false b2
      have lt : (tbs rs).length = rs.length := List.length_map _
      by_cases h : 4 < (chainT (tbs rs) n).length
      · rw [decide_eq_true h, if_pos rfl]
        exact rz_mk (fs := ["line"]) (vs := [.int line]) (ea_cons (ev_var rfl) ea_nil) rfl (by show 1 ≤ 1000; decide) (many e06 (decide_eq_true (.inr (.inr (by rw [hr3]; exact h)))))
      · rw [decide_eq_false h, if_neg Bool.false_ne_true]
        refine k1 (decide_eq_false ?_) H6 e06
        rw [hr3, lt]
        rintro (z | z | z)
        · exact b1 z
        · exact b2 z
        · exact h z
    · rw [findR_known hr1] at kn
      cases kn
end
end My

namespace My
open PySem PySem.Spec PyProof.Rows L2 Evl
/-! ### a table is read -/
/-- a schema whose dicts are being written -/
structure SB (C : Addr) (H : Hp) (A : Ad) (kp kc : List (Key × V)) (ow : List (Str × Str)) (kf : List (Key × V)) (rs : List Row) : Prop where
  ins : H A.a = some (.ins C A.dx [("text", .str A.tx), ("_parents", .ref A.p), ("_columns", .ref A.c), ("_owners", .ref A.o), ("_follows", .ref A.f)])
  hp : H A.p = some (.dK kp)
  hc : H A.c = some (.dK kc)
  ho : H A.o = some (.dK (kvS ow))
  hf : H A.f = some (.dK kf)
  cs : ∀ r ∈ rs, H r.ca = some (.lst (r.t.cols.map V.str))
  fs : ∀ r ∈ rs, H r.fa = some (.dK (kvS r.t.fol))
  ne : (A.p :: A.c :: A.o :: A.f :: rs.map (·.fa)).Nodup
section
variable {C : Addr} {H H' : Hp} {A : Ad} {kp kc kf k' : List (Key × V)} {ow ow' : List (Str × Str)} {rs : List Row}
theorem SA.sb (S : SA C H A rs ow) : SB C H A (kvR rs fun r => parV r.t.par) (kvR rs fun r => .ref r.ca) ow (kvR rs fun r => .ref r.fa) rs := ⟨S.ins, S.hp, S.hc, S.ho, S.hf, S.cs, S.fs, S.ne⟩
theorem SB.sa (S : SB C H A (kvR rs fun r => parV r.t.par) (kvR rs fun r => .ref r.ca) ow (kvR rs fun r => .ref r.fa) rs) : SA C H A rs ow := ⟨S.ins, S.hp, S.hc, S.ho, S.hf, S.cs, S.fs, S.ne⟩
theorem SB.ex (e : Ex H H') (h : SB C H A kp kc ow kf rs) : SB C H' A kp kc ow kf rs :=
  ⟨e _ _ h.ins, e _ _ h.hp, e _ _ h.hc, e _ _ h.ho, e _ _ h.hf, fun r hr => e _ _ (h.cs r hr), fun r hr => e _ _ (h.fs r hr), h.ne⟩
theorem ne_kind {H : Hp} {a b : Addr} {u v : HO} (h1 : H a = some u) (h2 : H b = some v) (h : u ≠ v) : a ≠ b := fun e => by
  rw [e, h2] at h1
  exact h (Option.some.inj h1).symm
structure Apart (A : Ad) (rs : List Row) : Prop where
  pc : A.p ≠ A.c
  po : A.p ≠ A.o
  pf : A.p ≠ A.f
  co : A.c ≠ A.o
  cf : A.c ≠ A.f
  of : A.o ≠ A.f
  p : ∀ r ∈ rs, r.fa ≠ A.p
  c : ∀ r ∈ rs, r.fa ≠ A.c
  o : ∀ r ∈ rs, r.fa ≠ A.o
  f : ∀ r ∈ rs, r.fa ≠ A.f
  nd : (rs.map (·.fa)).Nodup
theorem apart (h : (A.p :: A.c :: A.o :: A.f :: rs.map (·.fa)).Nodup) : Apart A rs := by
  simp only [List.nodup_cons, List.mem_cons, List.mem_map, not_or, not_exists, not_and] at h
  obtain ⟨⟨a1, a2, a3, a4⟩, ⟨b1, b2, b3⟩, ⟨c1, c2⟩, d1, d2⟩ := h
  exact ⟨a1, a2, a3, b1, b2, c1, fun r hr e => a4 r hr e, fun r hr e => b3 r hr e, fun r hr e => c2 r hr e, fun r hr e => d1 r hr e, d2⟩
theorem SB.putP (h : SB C H A kp kc ow kf rs) : SB C (upd H A.p (.dK k')) A k' kc ow kf rs := by
  have a := apart h.ne
  refine ⟨?_, upd_same, by rw [upd_ne a.pc.symm]; exact h.hc, by rw [upd_ne a.po.symm]; exact h.ho, by rw [upd_ne a.pf.symm]; exact h.hf, fun r hr => ?_, fun r hr => by rw [upd_ne (a.p r hr)]; exact h.fs r hr, h.ne⟩
  · rw [upd_ne (ne_kind h.ins h.hp (by simp))]; exact h.ins
  · rw [upd_ne (ne_kind (h.cs r hr) h.hp (by simp))]; exact h.cs r hr
theorem SB.putC (h : SB C H A kp kc ow kf rs) : SB C (upd H A.c (.dK k')) A kp k' ow kf rs := by
  have a := apart h.ne
  refine ⟨?_, by rw [upd_ne a.pc]; exact h.hp, upd_same, by rw [upd_ne a.co.symm]; exact h.ho, by rw [upd_ne a.cf.symm]; exact h.hf, fun r hr => ?_, fun r hr => by rw [upd_ne (a.c r hr)]; exact h.fs r hr, h.ne⟩
  · rw [upd_ne (ne_kind h.ins h.hc (by simp))]; exact h.ins
  · rw [upd_ne (ne_kind (h.cs r hr) h.hc (by simp))]; exact h.cs r hr
theorem SB.putF (h : SB C H A kp kc ow kf rs) : SB C (upd H A.f (.dK k')) A kp kc ow k' rs := by
  have a := apart h.ne
  refine ⟨?_, by rw [upd_ne a.pf]; exact h.hp, by rw [upd_ne a.cf]; exact h.hc, by rw [upd_ne a.of]; exact h.ho, upd_same, fun r hr => ?_, fun r hr => by rw [upd_ne (a.f r hr)]; exact h.fs r hr, h.ne⟩
  · rw [upd_ne (ne_kind h.ins h.hf (by simp))]; exact h.ins
  · rw [upd_ne (ne_kind (h.cs r hr) h.hf (by simp))]; exact h.cs r hr
theorem SB.putO (h : SB C H A kp kc ow kf rs) : SB C (upd H A.o (.dK (kvS ow'))) A kp kc ow' kf rs := by
  have a := apart h.ne
  refine ⟨?_, by rw [upd_ne a.po]; exact h.hp, by rw [upd_ne a.co]; exact h.hc, upd_same, by rw [upd_ne a.of.symm]; exact h.hf, fun r hr => ?_, fun r hr => by rw [upd_ne (a.o r hr)]; exact h.fs r hr, h.ne⟩
  · rw [upd_ne (ne_kind h.ins h.ho (by simp))]; exact h.ins
  · rw [upd_ne (ne_kind (h.cs r hr) h.ho (by simp))]; exact h.cs r hr
theorem SA.alive (S : SA C H A rs ow) : ∀ b ∈ mutS A rs, ∃ u, H b = some u := by
  intro b hb
  simp only [mutS, List.mem_cons, List.mem_map] at hb
  rcases hb with rfl | rfl | rfl | rfl | ⟨r, hr, rfl⟩
  · exact ⟨_, S.hp⟩
  · exact ⟨_, S.hc⟩
  · exact ⟨_, S.ho⟩
  · exact ⟨_, S.hf⟩
  · exact ⟨_, S.fs r hr⟩
theorem Rz.after {M : List Addr} {E : XK} {CE : Addr} {fs : List (Str × V)} {H1 : Hp} (f : Fr M H H1) (al : ∀ b ∈ M, ∃ u, H1 b = some u) (h : Rz M E CE fs H) : Rz M E CE fs H1 := fun d l H' hd g hl q => h d l H' (fr_back f al hd) (f.trans g) hl q
theorem mut_p : A.p ∈ mutS A rs := List.mem_cons_self ..
theorem mut_c : A.c ∈ mutS A rs := List.mem_cons_of_mem _ (List.mem_cons_self ..)
theorem mut_o : A.o ∈ mutS A rs := List.mem_cons_of_mem _ (List.mem_cons_of_mem _ (List.mem_cons_self ..))
theorem mut_f : A.f ∈ mutS A rs := List.mem_cons_of_mem _ (List.mem_cons_of_mem _ (List.mem_cons_of_mem _ (List.mem_cons_self ..)))
end
theorem rlTable_go {s : Sm} {n : Str} {par : Option Str} {cols : List Str} (h1 : known s.tb n = false) (h2 : ∀ p, par = some p → known s.tb p = true) :
    rlTable s n par cols = match dupIn [] cols with
      | some c => .inl (.dup c)
      | none => if 4 < cols.length ∨ 6 < s.tb.length + 1 ∨ 4 < (chainT (s.tb ++ [⟨n, par, cols, []⟩]) n).length then .inl .many else .inr ⟨s.tb ++ [⟨n, par, cols, []⟩], s.ow⟩ := by
  have h3 : ¬ (par.map (known s.tb)) = some false := by
    cases par with
    | none => exact fun z => nomatch z
    | some p => rw [Option.map_some, h2 p rfl]; exact fun z => nomatch z
  unfold rlTable
  rw [if_neg (by rw [h1]; exact Bool.false_ne_true), if_neg h3]
  all_goals (cases dupIn [] cols <;> rfl)
def spTable (C : Addr) (e : ErA) : Sp := fun vs H Q E => ∃ (A : Ad) (rs : List Row) (ow : List (Str × Str)) (line : Int) (n : Str) (par : Option Str) (cl : Addr) (cols : List Str), vs = [.ref A.a, .int line, .str n, parV par, .ref cl] ∧ SA C H A rs ow ∧ WF (tbs rs) ∧ rs.length ≤ 900 ∧
  H cl = some (.lst (cols.map V.str)) ∧ cols.length ≤ 900 ∧
  (∀ s', rlTable ⟨tbs rs, ow⟩ n par cols = .inr s' → ∀ H' fa, Fr (mutS A rs) H H' → H fa = none → SA C H' A (rs ++ [⟨⟨n, par, cols, []⟩, cl, fa⟩]) ow → Q .non H') ∧
  (∀ er, rlTable ⟨tbs rs, ow⟩ n par cols = .inl er → Rz (mutS A rs) E (e.cls er) (erFs line er) H)
abbrev sTable : Stmt := inClass (top 43) 16
theorem scTable : FnScope ["self", "line", "table", "parent", "columns", "at", "column"] ["self", "line", "table", "parent", "columns"] (defScope sTable) := ⟨rfl, rfl, rfl, by decide +kernel, rfl, by decide +kernel, by decide +kernel⟩
structure TTb (mg : Str → Option Value) : Prop where
  n_enumerate : mg "enumerate" = none
theorem kvR_snoc (rs : List Row) (r : Row) (g : Row → V) : kvR (rs ++ [r]) g = kvR rs g ++ [(Sum.inr r.t.nm, g r)] := by unfold kvR; rw [List.map_append]; rfl
section
variable {P : Program} {w : World} {K : PySem.W.Frag} {mg : Str → Option Value} {base : Heap}
theorem ok_table {C f fK fL : Addr} {fd fdK fdL : FuncData} {e : ErA} (F : Fun K "_read_table" "Schema._read_table" sTable f fd) (TC : TS0 K C) (T : TTb mg) (eD : EX P w K mg base "DuplicateName" ["line", "name"] e.CD)
    (M_Schema__check_known : Meth K C "_check_known" fK) (G_Schema__check_known : FnOk P w K mg base (L2.CX P w) 3 fK fdK ["self", "line", "table"] (spKnown C e)) (b_Schema__check_known : Binds K fdK ["self", "line", "table"] [])
    (M_Schema__check_limits : Meth K C "_check_limits" fL) (G_Schema__check_limits : FnOk P w K mg base (L2.CX P w) 5 fL fdL ["self", "line", "table"] (spLim C e)) (b_Schema__check_limits : Binds K fdL ["self", "line", "table"] []) :
    FnOk P w K mg base (L2.CX P w) 6 f fd ["self", "line", "table", "parent", "columns"] (spTable C e) := by
  refine F.okX scTable (fun vs H Q E h => ?_) (fun cdv A' outer s H vs Q E hr h => ?_)
  · obtain ⟨A, rs, ow, line, n, par, cl, cols, rfl, _⟩ := h
    rfl
  · obtain ⟨A, rs, ow, line, n, par, cl, cols, rfl, S, wf, few, hcl, cfew, k1, k2⟩ := h
    obtain ⟨fD, fdD, OX_DuplicateName, IX_DuplicateName, TY_DuplicateName, GX_DuplicateName, BX_DuplicateName, NX_DuplicateName⟩ := eD.ex
    have hrX : Room (1 + 1) _ := hr.mono (by decide)
    have hr_Schema__check_known : Room 3 _ := hr.mono (by decide)
    have hr_Schema__check_limits : Room 5 _ := hr
    have hu := hu_of hr
    refine ⟨_, (pss_cons (ps_if (pt_cmp (pc_din hu (pv 2) (fldK K (pv 0))))
      (pss_one (ps_raise rfl (takes_of rfl rfl rfl rfl) (pmk_oex OX_DuplicateName IX_DuplicateName TY_DuplicateName GX_DuplicateName hrX BX_DuplicateName .nil pass0 rfl NX_DuplicateName (pa_cons (pv 1) (pa_cons (pv 2) pa_nil)))))
      pss_nil)
    (pss_cons (ps_if (pt_cmpR op_notN (pv 3) pe_non (nomark _))
      (pss_one (ps_expr (pe_meth (pv 0) TC.cl M_Schema__check_known G_Schema__check_known hr_Schema__check_known b_Schema__check_known .nil (passes_call (takes_of rfl rfl rfl rfl) (fun _ _ _ _ h => h)) (pa_cons (pv 1) (pa_cons (pv 3) pa_nil)))))
      pss_nil)
    (pss_cons (ps_for (passes_of rfl) rfl (pi_enum (by rfl) T.n_enumerate (pa_cons (pv 4) pa_nil)) (pg_tup rfl (pgs_cons (pg_name (i := 5) scTable.nd rfl (Or.inl rfl)) (pgs_cons (pg_name (i := 6) scTable.nd rfl (Or.inl rfl)) pgs_nil)))
      (pss_one (ps_if (pt_cmpR (inSeq K) (pv 6) (pe_slice (slL K) (pv 4) po_none (po_some (pv 5))) (by rfl))
        (pss_one (ps_raise rfl (takes_of rfl rfl rfl rfl) (pmk_oex OX_DuplicateName IX_DuplicateName TY_DuplicateName GX_DuplicateName hrX BX_DuplicateName .nil pass0 rfl NX_DuplicateName (pa_cons (pv 1) (pa_cons (pv 6) pa_nil)))))
        pss_nil)))
    (pss_cons (ps_dput hu (fldK K (pv 0)) (pv 2) (pv 3) rfl)
    (pss_cons (ps_dput hu (fldK K (pv 0)) (pv 2) (pv 4) rfl)
    (pss_cons (ps_dput hu (fldK K (pv 0)) (pv 2) pe_dnewK rfl)
    (pss_one (ps_expr (pe_meth (pv 0) TC.cl M_Schema__check_limits G_Schema__check_limits hr_Schema__check_limits b_Schema__check_limits .nil (passes_call (takes_of rfl rfl rfl rfl) (fun _ _ _ _ h => h)) (pa_cons (pv 1) (pa_cons (pv 2) pa_nil))))))))))), ?_⟩
    -- the table's name
    refine q_when (b := known (tbs rs) n) (et_din (k := .inr n) (ev_var rfl) (ev_sCol TC S (ev_var rfl)) S.hc has_kvR) (fun b H1 e1 => ?_) (fun hn H1 e1 => ?_)
    · exact rz_mk (fs := ["line", "name"]) (vs := [.int line, .str n]) (ea_cons (ev_var rfl) (ea_cons (ev_var rfl) ea_nil)) rfl (by show 2 ≤ 1000; decide) ((k2 (.dup n) (by unfold rlTable; rw [if_pos b])).ex e1)
    -- the parent's name
    refine w_seq (w_abs (fun σ' H' => σ' = [some (.ref A.a), some (.int line), some (.str n), some (parV par), some (.ref cl), none, none] ∧ Ex H H' ∧ ∀ p, par = some p → known (tbs rs) p = true) (fun D' kD => ?_) (fun σ' H2 p => ?_))
    · refine s_if (b := !decide (parV par = V.non)) (et_test (ev_op (ev_var rfl) ev_c (fun H1 _ Q q => ⟨rfl, q H1 (Ex.refl H1)⟩))) (fun b H2 e2 => ?_) (fun b H2 e2 => kD _ H2 ⟨rfl, e1.trans e2, fun p hp => ?_⟩)
      · obtain ⟨p, rfl⟩ : ∃ p, par = some p := by
          cases par with
          | none => simp [parV] at b
          | some p => exact ⟨p, rfl⟩
        have S2 := S.ex (e1.trans e2)
        refine w_drop (w_methS (ev_var rfl) S2 (fun _ _ _ _ _ => rfl) (fun H3 e3 => w_cons (w_ev (ev_var rfl) fun H4 e4 => w_cons (w_ev (v := .str p) (ev_var rfl) fun H5 e5 => w_nil ⟨A, rs, ow, line, p, rfl, S2.ex ((e3.trans e4).trans e5), fun kn H6 e6 => ?_, fun kn => ?_⟩))))
        · exact kD _ H6 ⟨rfl, (((((e1.trans e2).trans e3).trans e4).trans e5).trans e6), fun q hq => by obtain rfl := Option.some.inj hq; exact kn⟩
        · refine ((k2 (.unk p) ?_).ex ((((e1.trans e2).trans e3).trans e4).trans e5)).less
          unfold rlTable
          rw [if_neg (by rw [hn]; exact Bool.false_ne_true), Option.map_some, kn, if_pos rfl]
          rfl
      · subst hp
        simp [parV] at b
    obtain ⟨rfl, e2, hpar⟩ := p
    have go := rlTable_go (s := ⟨tbs rs, ow⟩) (cols := cols) hn hpar
    -- its columns
    refine q_forEn (a := cl) (xs := cols.map V.str) (ea_cons (ev_var rfl) ea_nil) (SqL.of (e2 _ _ hcl)) (fun k σ' H' => ∃ v5 v6, σ' = [some (.ref A.a), some (.int line), some (.str n), some (parV par), some (.ref cl), v5, v6] ∧ Ex H H' ∧ dupIn [] cols = dupIn (cols.take k) (cols.drop k))
      (fun H3 e3 => ⟨none, none, rfl, e2.trans e3, rfl⟩) (fun k σ' H' _ p => ?_) (fun k x σ' H' H3 hx p e3 => ?_) (fun σ' H' p => ?_)
    · obtain ⟨_, _, _, e, _⟩ := p
      exact SqL.of (e _ _ hcl)
    · obtain ⟨v5, v6, rfl, e, hd⟩ := p
      have hk : k < cols.length := by
        have := (List.getElem?_eq_some_iff.mp hx).1
        simpa using this
      rw [List.getElem?_map, List.getElem?_eq_getElem hk] at hx
      obtain rfl : x = V.str cols[k] := (Option.some.inj hx).symm
      have e4 := e.trans e3
      rw [List.drop_eq_getElem_cons hk] at hd
      refine s_when (b := decide (cols[k] ∈ cols.take k)) (et_test (ev_opL (xs := (cols.take k).map V.str) (ev_var rfl) (el_is (el_sl (lo := none) (hi := some (k : Int)) (ev_var rfl) eo_none (eo_some (ev_var rfl)) (SqL.of (e4 _ _ hcl))) (by rw [cutV_take _ k (by rw [List.length_map]; omega), List.map_take])) (fun p H5 h5 e5 => rv_inStr (.inl (SqL.of h5))))) (fun b H5 e5 => ?_) (fun b H5 e5 => ?_)
      · refine rz_mk (fs := ["line", "name"]) (vs := [.int line, .str cols[k]]) (ea_cons (ev_var rfl) (ea_cons (ev_var rfl) ea_nil)) rfl (by show 2 ≤ 1000; decide) ((k2 (.dup cols[k]) ?_).ex (e4.trans e5))
        rw [go, hd]
        unfold dupIn
        rw [if_pos (of_decide_eq_true b)]
      · refine ⟨_, _, rfl, e4.trans e5, ?_⟩
        rw [hd, List.take_succ_eq_append_getElem hk]
        conv => lhs; unfold dupIn
        rw [if_neg (of_decide_eq_false b)]
    · obtain ⟨v5, v6, rfl, e, hd⟩ := p
      rw [List.length_map, List.drop_length] at hd
      have hd : dupIn [] cols = none := by rw [hd]; rfl
      rw [hd] at go
      dsimp only at go
      have len : ∀ g : Row → V, (kvR rs g).length = rs.length := fun g => List.length_map _
      have fresh : ∀ g : Row → V, valV (kvR rs g) (.inr n) = none := fun g => by
        have q := has_kvR (rs := rs) (g := g) (n := n)
        rw [hn] at q
        cases h : valV (kvR rs g) (.inr n) with
        | none => rfl
        | some v => rw [h] at q; cases q
      have B0 := (S.ex e).sb
      refine w_seq (s_dput (k := .inr n) (v := parV par) (ev_var rfl) (ev_sPar TC (S.ex e) (ev_var rfl)) (ev_var rfl) B0.hp (by rw [len]; omega) (fun H4 e4 => ?_))
      rw [putK_new _ (fresh _)]
      have B1 : SB C _ A (kvR rs (fun r => parV r.t.par) ++ [(.inr n, parV par)]) _ ow _ rs := (B0.ex e4).putP
      have f1 : Fr (mutS A rs) H _ := (Fr.of (e.trans e4)).trans (Fr.upd (o := .dK (kvR rs (fun r => parV r.t.par) ++ [(.inr n, parV par)])) mut_p)
      generalize upd H4 A.p _ = H5 at B1 f1
      refine w_seq (s_dput (k := .inr n) (v := .ref cl) (ev_var rfl) (ev_fldX TC.cl TC.n3 (ev_var rfl) B1.ins rfl) (ev_var rfl) B1.hc (by rw [len]; omega) (fun H6 e6 => ?_))
      rw [putK_new _ (fresh _)]
      have B2 : SB C _ A _ (kvR rs (fun r => .ref r.ca) ++ [(.inr n, .ref cl)]) ow _ rs := (B1.ex e6).putC
      have f2 : Fr (mutS A rs) H _ := (f1.trans (Fr.of e6)).trans (Fr.upd (o := .dK (kvR rs (fun r => .ref r.ca) ++ [(.inr n, .ref cl)])) mut_c)
      generalize upd H6 A.c _ = H7 at B2 f2
      refine w_seq (s_dputN (k := .inr n) (ev_fldX TC.cl TC.n5 (ev_var rfl) B2.ins rfl) (ev_var rfl) B2.hf (by rw [len]; omega) (fun fa H8 hfa e8 h8 => ?_))
      rw [putK_new _ (fresh _)]
      have B3 : SB C _ A _ _ ow (kvR rs (fun r => .ref r.fa) ++ [(.inr n, .ref fa)]) rs := (B2.ex e8).putF
      have f3 : Fr (mutS A rs) H _ := (f2.trans (Fr.of e8)).trans (Fr.upd (o := .dK (kvR rs (fun r => .ref r.fa) ++ [(.inr n, .ref fa)])) mut_f)
      have hfa0 : H fa = none := fr_back f2 (fun b hb => by
        simp only [mutS, List.mem_cons, List.mem_map] at hb
        rcases hb with rfl | rfl | rfl | rfl | ⟨r, hr, rfl⟩
        · exact ⟨_, B2.hp⟩
        · exact ⟨_, B2.hc⟩
        · exact ⟨_, B2.ho⟩
        · exact ⟨_, B2.hf⟩
        · exact ⟨_, B2.fs r hr⟩) hfa
      have nf : fa ≠ A.f := fun z => by rw [z, B2.hf] at hfa; cases hfa
      have g8 : (upd H8 A.f (.dK (kvR rs (fun r => .ref r.fa) ++ [(.inr n, .ref fa)]))) fa = some (.dK []) := by rw [upd_ne nf]; exact h8
      generalize upd H8 A.f _ = H9 at B3 f3 g8
      have hcl9 : H9 cl = some (.lst (cols.map V.str)) := f3 _ _ hcl (fun z => by
        simp only [mutS, List.mem_cons, List.mem_map] at z
        rcases z with z | z | z | z | ⟨r, hr, z⟩
        · exact ne_kind hcl S.hp (by simp) z
        · exact ne_kind hcl S.hc (by simp) z
        · exact ne_kind hcl S.ho (by simp) z
        · exact ne_kind hcl S.hf (by simp) z
        · exact ne_kind hcl (S.fs r hr) (by simp) z.symm)
      have S9 : SA C H9 A (rs ++ [⟨⟨n, par, cols, []⟩, cl, fa⟩]) ow := by
        refine ⟨B3.ins, by rw [kvR_snoc]; exact B3.hp, by rw [kvR_snoc]; exact B3.hc, B3.ho, by rw [kvR_snoc]; exact B3.hf, fun r hr => ?_, fun r hr => ?_, ?_⟩
        · rcases List.mem_append.mp hr with z | z
          · exact B3.cs r z
          · obtain rfl : r = _ := by simpa using z
            exact hcl9
        · rcases List.mem_append.mp hr with z | z
          · exact B3.fs r z
          · obtain rfl : r = _ := by simpa using z
            exact g8
        · have al := S.alive
          rw [List.map_append, ← List.cons_append, ← List.cons_append, ← List.cons_append, ← List.cons_append, List.nodup_append]
          refine ⟨S.ne, by simp, fun a ha b hb z => ?_⟩
          obtain rfl : b = fa := by simpa using hb
          obtain ⟨u, hu⟩ := al a ha
          rw [z, hfa0] at hu
          cases hu
      have wf9 : WF (tbs (rs ++ [⟨⟨n, par, cols, []⟩, cl, fa⟩])) := by
        unfold tbs
        rw [List.map_append]
        exact wf_snoc wf hn hpar
      have fr9 : findR (rs ++ [⟨⟨n, par, cols, []⟩, cl, fa⟩]) n = some ⟨⟨n, par, cols, []⟩, cl, fa⟩ := by
        unfold findR
        rw [List.find?_append]
        have : rs.find? (fun r => decide (r.t.nm = n)) = none := by
          rw [List.find?_eq_none]
          intro r hr
          have q := of_decide_eq_false hn
          simp only [decide_eq_true_eq]
          exact fun z => q (List.mem_map.mpr ⟨r.t, List.mem_map_of_mem hr, z⟩)
        rw [this]
        simp
      have tb9 : tbs (rs ++ [⟨⟨n, par, cols, []⟩, cl, fa⟩]) = tbs rs ++ [⟨n, par, cols, []⟩] := by unfold tbs; rw [List.map_append]; rfl
      have bigc : big (tbs (rs ++ [⟨⟨n, par, cols, []⟩, cl, fa⟩])) ⟨n, par, cols, []⟩ = decide (4 < cols.length ∨ 6 < (tbs rs).length + 1 ∨ 4 < (chainT (tbs rs ++ [⟨n, par, cols, []⟩]) n).length) := by
        unfold big
        rw [tb9, List.length_append]
        rfl
      refine w_drop (w_methS (ev_var rfl) S9 (fun _ _ _ _ _ => rfl) (fun H10 e10 => w_cons (w_ev (ev_var rfl) fun H11 e11 => w_cons (w_ev (ev_var rfl) fun H12 e12 => w_nil ⟨A, _, ow, line, n, _, rfl, S9.ex ((e10.trans e11).trans e12), wf9, by rw [List.length_append]; show rs.length + 1 ≤ 1000; omega, fr9, fun hb H13 e13 => ?_, fun hb => ?_⟩))))
      · rw [bigc] at hb
        have e9 := ((e10.trans e11).trans e12).trans e13
        rw [if_neg (of_decide_eq_false hb)] at go
        exact k1 _ go H13 fa (f3.trans (Fr.of e9)) hfa0 (S9.ex e9)
      · rw [bigc] at hb
        rw [if_pos (of_decide_eq_true hb)] at go
        have al : ∀ b ∈ mutS A rs, ∃ u, H9 b = some u := fun b hb => S9.alive b (by
          simp only [mutS, List.mem_cons, List.map_append, List.mem_append] at hb ⊢
          rcases hb with h | h | h | h | h
          · exact .inl h
          · exact .inr (.inl h)
          · exact .inr (.inr (.inl h))
          · exact .inr (.inr (.inr (.inl h)))
          · exact .inr (.inr (.inr (.inr (.inl h)))))
        exact ((Rz.after f3 al (k2 .many go)).ex ((e10.trans e11).trans e12)).less
end
end My

namespace My
open PySem PySem.Spec PyProof.Rows L2 Evl
/-! ### owners -/
def spPos (C : Addr) (e : ErA) : Sp := fun vs H Q E => ∃ (A : Ad) (rs : List Row) (ow : List (Str × Str)) (line : Int) (n : Str) (nl : Addr) (ns : List Str), vs = [.ref A.a, .int line, .str n, .ref nl] ∧ SA C H A rs ow ∧ WF (tbs rs) ∧ known (tbs rs) n = true ∧ H nl = some (.lst (ns.map V.str)) ∧ 1 ≤ ns.length ∧ ns.length ≤ 1000 ∧
  (posErr (tbs rs) n ns = none → ∀ H', Ex H H' → Q .non H') ∧ (∀ c, posErr (tbs rs) n ns = some c → Rz [] E (e.cls (.unk c)) (erFs line (.unk c)) H)
abbrev sPos : Stmt := inClass (top 43) 12
theorem scPos : FnScope ["self", "line", "table", "names", "here", "name"] ["self", "line", "table", "names"] (defScope sPos) := ⟨rfl, rfl, rfl, by decide +kernel, rfl, by decide +kernel, by decide +kernel⟩
theorem parOf_row {rs : List Row} {n : Str} {r : Row} (h : findR rs n = some r) : parOf (tbs rs) n = r.t.par := by
  unfold parOf
  rw [find_tbs, h]
  rfl
theorem colsOf_row {rs : List Row} {n : Str} {r : Row} (h : findR rs n = some r) : ((findT (tbs rs) n).map (·.cols)).getD [] = r.t.cols := by
  rw [find_tbs, h]
  rfl
theorem par_known {tb : List Tb} (w : WF tb) {n p : Str} (k : known tb n = true) (h : parOf tb n = some p) : known tb p = true := by
  obtain ⟨i, hi, rfl⟩ := known_at k
  rw [par_at w hi] at h
  obtain ⟨j, hj, _, rfl⟩ := w.par i hi p h
  exact known_of hj
theorem str_parV (x : Str) (p : Option Str) : decide (V.str x = parV p) = decide (p = some x) := by
  cases p with
  | none => simp [parV]
  | some y => exact decide_eq_decide.mpr ⟨fun z => by rw [V.str.inj z], fun z => by rw [Option.some.inj z]; rfl⟩
theorem scal_parV (x : Str) (p : Option Str) : scal (.str x) (parV p) = true := by cases p <;> rfl
section
variable {P : Program} {w : World} {K : PySem.W.Frag} {mg : Str → Option Value} {base : Heap}
theorem ok_pos {C f : Addr} {fd : FuncData} {e : ErA} (F : Fun K "check_position" "Schema.check_position" sPos f fd) (TC : TS0 K C) (eU : EX P w K mg base "UnknownName" ["line", "name"] e.CU) :
    FnOk P w K mg base (L2.CX P w) 3 f fd ["self", "line", "table", "names"] (spPos C e) := by
  refine F.okX scPos (fun vs H Q E h => ?_) (fun cdv A' outer s H vs Q E hr h => ?_)
  · obtain ⟨A, rs, ow, line, n, nl, ns, rfl, _⟩ := h
    rfl
  · obtain ⟨A, rs, ow, line, n, nl, ns, rfl, S, wf, kn, hnl, ne, few, k1, k2⟩ := h
    obtain ⟨fU, fdU, OX_UnknownName, IX_UnknownName, TY_UnknownName, GX_UnknownName, BX_UnknownName, NX_UnknownName⟩ := eU.ex
    have hrX : Room (1 + 1) _ := hr
    have hu := hu_of hr
    refine ⟨_, (pss_cons (ps_set (i := 4) scPos.nd rfl (Or.inl rfl) (pv 2))
    (pss_cons (ps_for (passes_of rfl) rfl (piL K (pe_slice (slL K) (pv 3) po_none (po_some (pe_un un_neg pe_int)))) (pg_name (i := 5) scPos.nd rfl (Or.inl rfl))
      (pss_cons (ps_if (pt_cmpR op_ne (pv 5) (pe_dget hu (fldK K (pv 0)) (pv 4) (fun _ _ => rfl)) (nomark _))
        (pss_one (ps_raise rfl (takes_of rfl rfl rfl rfl) (pmk_oex OX_UnknownName IX_UnknownName TY_UnknownName GX_UnknownName hrX BX_UnknownName .nil pass0 rfl NX_UnknownName (pa_cons (pv 1) (pa_cons (pv 5) pa_nil)))))
        pss_nil)
      (pss_one (ps_set (i := 4) scPos.nd rfl (Or.inl rfl) (pv 5)))))
    (pss_one (ps_if (pt_cmpR (notInSeq K) (pe_ix (ixL K) (pv 3) (pe_un un_neg pe_int) (fun _ _ => rfl)) (pe_dget hu (fldK K (pv 0)) (pv 4) (fun _ _ => rfl)) (by rfl))
      (pss_one (ps_raise rfl (takes_of rfl rfl rfl rfl) (pmk_oex OX_UnknownName IX_UnknownName TY_UnknownName GX_UnknownName hrX BX_UnknownName .nil pass0 rfl NX_UnknownName (pa_cons (pv 1) (pa_cons (pe_ix (ixL K) (pv 3) (pe_un un_neg pe_int) (fun _ _ => rfl)) pa_nil)))))
      pss_nil)))), ?_⟩
    have hlen : (ns.dropLast.map V.str).length = ns.length - 1 := by rw [List.length_map, List.length_dropLast]
    obtain ⟨la, hla⟩ : ∃ la, ns = ns.dropLast ++ [la] := ⟨ns.getLast (fun z => by rw [z] at ne; simp at ne), (List.dropLast_concat_getLast _).symm⟩
    have lastE : ∀ {σ : L2.St} {H1 : Hp}, Ex H H1 → σ[3]? = some (some (.ref nl)) → Ev (tOp (rIxL K) (tVar 3) (tUn (rU fun i => .int (-i)) (tC (.int 1)))) σ H1 (.str la) := fun {σ H1} e1 h3 => by
      refine ev_op (ev_var h3) (ev_un ev_c ru_neg) (rv_ixL (SqL.of (e1 _ _ hnl)) ?_)
      rw [hla, List.map_append]
      exact atI_last _ _
    refine q_asg (ev_var rfl) (fun H1 e1 => ?_)
    refine w_seq (s_forNL (xs := ns.dropLast.map V.str) (el_is (el_sl (lo := none) (hi := some (-1)) (ev_var rfl) eo_none (eo_some (ev_un ev_c ru_neg)) (SqL.of (e1 _ _ hnl))) (by rw [cutV_init, List.map_dropLast]))
      (fun p k σ' H' => ∃ h v5, σ' = [some (.ref A.a), some (.int line), some (.str n), some (.ref nl), some (.str h), v5] ∧ Ex H H' ∧ known (tbs rs) h = true ∧ posErr (tbs rs) n ns = posErr (tbs rs) h (ns.drop k) ∧ H' p = some (.lst (ns.dropLast.map V.str)))
      (fun p H2 hp e2 h2 => ⟨n, none, rfl, e1.trans e2, kn, rfl, h2⟩) (fun p k σ' H' _ pv => ?_) (fun p k x σ' H' hx pv => ?_) (fun p σ' H' pv => ?_))
    · obtain ⟨_, _, _, _, _, _, hp⟩ := pv
      exact SqL.of hp
    · obtain ⟨h, v5, rfl, e2, kh, he, hp⟩ := pv
      have hk : k < ns.length - 1 := by
        have := (List.getElem?_eq_some_iff.mp hx).1
        rwa [hlen] at this
      have hk1 : k < ns.length := by omega
      have hkd : k < ns.dropLast.length := by rw [List.length_dropLast]; exact hk
      rw [List.getElem?_map, List.getElem?_eq_getElem hkd, List.getElem_dropLast] at hx
      obtain rfl : x = V.str ns[k] := (Option.some.inj hx).symm
      obtain ⟨r, hr1, _, _⟩ := findR_of kh
      rw [List.drop_eq_getElem_cons hk1, List.drop_eq_getElem_cons (show k + 1 < ns.length by omega)] at he
      have S2 := S.ex e2
      refine q_when (b := !decide (V.str ns[k] = parV r.t.par)) (et_test (ev_op (ev_var rfl) (ev_rowPar TC S2 hr1 (ev_var rfl) (ev_var rfl)) (rv_ne (scal_parV _ _)))) (fun b H3 e3 => ?_) (fun b H3 e3 => ?_)
      · refine rz_mk (fs := ["line", "name"]) (vs := [.int line, .str ns[k]]) (ea_cons (ev_var rfl) (ea_cons (ev_var rfl) ea_nil)) rfl (by show 2 ≤ 1000; decide) ((k2 ns[k] ?_).ex (e2.trans e3))
        rw [he]
        unfold posErr
        rw [parOf_row hr1, if_neg]
        rw [str_parV] at b
        simpa using b
      · rw [str_parV] at b
        have b : r.t.par = some ns[k] := by simpa using b
        refine s_asg (ev_var rfl) (fun H4 e4 => ⟨ns[k], _, rfl, (e2.trans e3).trans e4, par_known wf kh (by rw [parOf_row hr1]; exact b), ?_, (e3.trans e4) _ _ hp⟩)
        rw [he]
        conv => lhs; unfold posErr
        rw [parOf_row hr1, b, if_pos rfl, List.drop_eq_getElem_cons (show k + 1 < ns.length by omega)]
    · obtain ⟨h, v5, rfl, e2, kh, he, hp⟩ := pv
      rw [hlen] at he
      have hd : ns.drop (ns.length - 1) = [la] := by
        have : ns.length - 1 = ns.dropLast.length := by rw [List.length_dropLast]
        rw [this]
        conv => lhs; rw [hla]
        rw [List.dropLast_concat, List.drop_left]
      rw [hd] at he
      obtain ⟨r, hr1, hr2, _⟩ := findR_of kh
      have S2 := S.ex e2
      dsimp only
      refine s_when (b := decide (la ∉ r.t.cols)) (et_test (ev_op (lastE e2 rfl) (ev_rowCol TC S2 hr1 (ev_var rfl) (ev_var rfl)) (rv_niStr (.inl (SqL.of (S2.cs r hr2)))))) (fun b H3 e3 => ?_) (fun b H3 e3 => ?_)
      · refine rz_mk (fs := ["line", "name"]) (vs := [.int line, .str la]) (ea_cons (ev_var rfl) (ea_cons (lastE (e2.trans e3) rfl) ea_nil)) rfl (by show 2 ≤ 1000; decide) ((k2 la ?_).ex (e2.trans e3))
        rw [he]
        unfold posErr
        rw [colsOf_row hr1, if_neg (of_decide_eq_true b)]
      · refine k1 ?_ H3 (e2.trans e3)
        rw [he]
        unfold posErr
        rw [colsOf_row hr1, if_pos (by simpa using b)]
end
/-- the owner of a table's rows -/
def spOwner (C : Addr) (e : ErA) : Sp := fun vs H Q E => ∃ (A : Ad) (rs : List Row) (ow : List (Str × Str)) (line : Int) (n pos : Str), vs = [.ref A.a, .int line, .str n, .str pos] ∧ SA C H A rs ow ∧ WF (tbs rs) ∧ ow.length ≤ 900 ∧ pos.length ≤ 900 ∧
  (∀ s', rlOwner ⟨tbs rs, ow⟩ n pos = .inr s' → ∀ H', Fr (mutS A rs) H H' → SA C H' A rs (ow ++ [(n, pos)]) → Q .non H') ∧
  (∀ er, rlOwner ⟨tbs rs, ow⟩ n pos = .inl er → Rz (mutS A rs) E (e.cls er) (erFs line er) H)
abbrev sOwner : Stmt := inClass (top 43) 18
theorem scOwner : FnScope ["self", "line", "table", "position"] ["self", "line", "table", "position"] (defScope sOwner) := ⟨rfl, rfl, rfl, by decide +kernel, rfl, by decide +kernel, by decide +kernel⟩
section
variable {P : Program} {w : World} {K : PySem.W.Frag} {mg : Str → Option Value} {base : Heap}
theorem ok_owner {C f fK fP : Addr} {fd fdK fdP : FuncData} {e : ErA} (F : Fun K "_read_owner" "Schema._read_owner" sOwner f fd) (TC : TS0 K C) (eD : EX P w K mg base "DuplicateName" ["line", "name"] e.CD)
    (M_Schema__check_known : Meth K C "_check_known" fK) (G_Schema__check_known : FnOk P w K mg base (L2.CX P w) 3 fK fdK ["self", "line", "table"] (spKnown C e)) (b_Schema__check_known : Binds K fdK ["self", "line", "table"] [])
    (M_Schema_check_position : Meth K C "check_position" fP) (G_Schema_check_position : FnOk P w K mg base (L2.CX P w) 3 fP fdP ["self", "line", "table", "names"] (spPos C e)) (b_Schema_check_position : Binds K fdP ["self", "line", "table", "names"] []) :
    FnOk P w K mg base (L2.CX P w) 4 f fd ["self", "line", "table", "position"] (spOwner C e) := by
  refine F.okX scOwner (fun vs H Q E h => ?_) (fun cdv A' outer s H vs Q E hr h => ?_)
  · obtain ⟨A, rs, ow, line, n, pos, rfl, _⟩ := h
    rfl
  · obtain ⟨A, rs, ow, line, n, pos, rfl, S, wf, few, lpos, k1, k2⟩ := h
    obtain ⟨fD, fdD, OX_DuplicateName, IX_DuplicateName, TY_DuplicateName, GX_DuplicateName, BX_DuplicateName, NX_DuplicateName⟩ := eD.ex
    have hrX : Room (1 + 1) _ := hr.mono (by decide)
    have hr_Schema__check_known : Room 3 _ := hr
    have hr_Schema_check_position : Room 3 _ := hr
    have hu := hu_of hr
    refine ⟨_, (pss_cons (ps_expr (pe_meth (pv 0) TC.cl M_Schema__check_known G_Schema__check_known hr_Schema__check_known b_Schema__check_known .nil (passes_call (takes_of rfl rfl rfl rfl) (fun _ _ _ _ h => h)) (pa_cons (pv 1) (pa_cons (pv 2) pa_nil))))
    (pss_cons (ps_if (pt_cmp (pc_din hu (pv 2) (fldK K (pv 0))))
      (pss_one (ps_raise rfl (takes_of rfl rfl rfl rfl) (pmk_oex OX_DuplicateName IX_DuplicateName TY_DuplicateName GX_DuplicateName hrX BX_DuplicateName .nil pass0 rfl NX_DuplicateName (pa_cons (pv 1) (pa_cons (pv 2) pa_nil)))))
      pss_nil)
    (pss_cons (ps_expr (pe_meth (pv 0) TC.cl M_Schema_check_position G_Schema_check_position hr_Schema_check_position b_Schema_check_position .nil (passes_call (takes_of rfl rfl rfl rfl) (fun _ _ _ _ h => h)) (pa_cons (pv 1) (pa_cons (pv 2) (pa_cons (bmK K PySem.F.plainAttrs_str PySem.F.slot_str_split PySem.F.type_str_split mt_split (pv 3) (pa_cons pe_str pa_nil)) pa_nil)))))
    (pss_one (ps_dput hu (fldK K (pv 0)) (pv 2) (pv 3) rfl))))), ?_⟩
    refine w_seq (w_drop (w_methS (ev_var rfl) S (fun _ _ _ _ _ => rfl) (fun H1 e1 => w_cons (w_ev (ev_var rfl) fun H2 e2 => w_cons (w_ev (ev_var rfl) fun H3 e3 => w_nil ⟨A, rs, ow, line, n, rfl, S.ex ((e1.trans e2).trans e3), fun kn H4 e4 => ?_, fun kn => ?_⟩)))))
    rotate_left
    · refine ((k2 (.unk n) ?_).ex ((e1.trans e2).trans e3)).less
      unfold rlOwner
      rw [if_pos kn]
    have e04 := ((e1.trans e2).trans e3).trans e4
    have S4 := S.ex e04
    dsimp only
    refine q_when (b := decide (n ∈ ow.map (·.1))) (et_din (k := .inr n) (ev_var rfl) (ev_sOwn TC S4 (ev_var rfl)) S4.ho has_kvS) (fun b H5 e5 => ?_) (fun b H5 e5 => ?_)
    · refine rz_mk (fs := ["line", "name"]) (vs := [.int line, .str n]) (ea_cons (ev_var rfl) (ea_cons (ev_var rfl) ea_nil)) rfl (by show 2 ≤ 1000; decide) ((k2 (.dup n) ?_).ex (e04.trans e5))
      unfold rlOwner
      rw [if_neg (by rw [kn]; exact fun z => nomatch z), if_pos (of_decide_eq_true b)]
    have e05 := e04.trans e5
    have S5 := S.ex e05
    have go : rlOwner ⟨tbs rs, ow⟩ n pos = match posErr (tbs rs) n (dotS pos) with
        | some c => .inl (.unk c)
        | none => .inr ⟨tbs rs, ow ++ [(n, pos)]⟩ := by
      unfold rlOwner
      rw [if_neg (by rw [kn]; exact fun z => nomatch z), if_neg (of_decide_eq_false b)]
      all_goals dsimp only
      all_goals (cases posErr (tbs rs) n (dotS pos) <;> rfl)
    refine w_seq (w_drop (w_methS (ev_var rfl) S5 (fun _ _ _ _ _ => rfl) (fun H6 e6 => w_cons (w_ev (ev_var rfl) fun H7 e7 => w_cons (w_ev (ev_var rfl) fun H8 e8 => w_cons (w_evl (el_split (a := pos) (b := ".") (ev_var rfl) ev_c rfl (by omega)) fun nl H9 hnl e9 h9 => w_nil ⟨A, rs, ow, line, n, nl, dotS pos, rfl, S5.ex (((e6.trans e7).trans e8).trans e9), wf, kn, h9, PyProof.Rows.split_pos .., ?_, fun hp H10 e10 => ?_, fun c hc => ?_⟩))))))
    · have := PyProof.Rows.split_le pos "."
      unfold dotS
      omega
    · rw [hp] at go
      have e := (((e05.trans e6).trans e7).trans e8).trans (e9.trans e10)
      have S10 := S.ex e
      have fresh : valV (kvS ow) (.inr n) = none := by
        have q := has_kvS (xs := ow) (n := n)
        rw [b] at q
        cases h : valV (kvS ow) (.inr n) with
        | none => rfl
        | some v => rw [h] at q; cases q
      dsimp only
      refine s_dput (k := .inr n) (v := .str pos) (ev_var rfl) (ev_sOwn TC S10 (ev_var rfl)) (ev_var rfl) S10.ho (by unfold kvS; rw [List.length_map]; omega) (fun H11 e11 => ?_)
      rw [putK_new _ fresh]
      have hk : kvS ow ++ [(.inr n, .str pos)] = kvS (ow ++ [(n, pos)]) := by unfold kvS; rw [List.map_append]; rfl
      rw [hk]
      exact k1 _ go _ ((Fr.of (e.trans e11)).trans (Fr.upd mut_o)) ((S10.ex e11).sb.putO).sa
    · rw [hc] at go
      exact ((k2 (.unk c) go).ex ((((e05.trans e6).trans e7).trans e8).trans e9)).less
end
end My

namespace My
open PySem PySem.Spec PyProof.Rows L2 Evl
/-! ### columns that follow -/
def addR (n c u : Str) (r : Row) : Row := ⟨addF n c u r.t, r.ca, r.fa⟩
theorem tbs_addR (n c u : Str) (rs : List Row) : tbs (rs.map (addR n c u)) = (tbs rs).map (addF n c u) := by
  unfold tbs
  rw [List.map_map, List.map_map]
  rfl
theorem fas_addR (n c u : Str) (rs : List Row) : (rs.map (addR n c u)).map (·.fa) = rs.map (·.fa) := by
  rw [List.map_map]
  rfl
theorem kvR_addR (n c u : Str) (rs : List Row) (g : Row → V) (hg : ∀ r, g (addR n c u r) = g r) : kvR (rs.map (addR n c u)) g = kvR rs g := by
  unfold kvR
  rw [List.map_map]
  refine List.map_congr_left fun r _ => ?_
  show (Sum.inr (addF n c u r.t).nm, g (addR n c u r)) = _
  rw [hg, (addF_nm n c u r.t).1]
def spFollow (C : Addr) (e : ErA) : Sp := fun vs H Q E => ∃ (A : Ad) (rs : List Row) (ow : List (Str × Str)) (line : Int) (n c u : Str), vs = [.ref A.a, .int line, .str n, .str c, .str u] ∧ SA C H A rs ow ∧ WF (tbs rs) ∧ (∀ r ∈ rs, r.t.fol.length ≤ 900) ∧
  (∀ s', rlFollow ⟨tbs rs, ow⟩ n c u = .inr s' → ∀ H', Fr (mutS A rs) H H' → SA C H' A (rs.map (addR n c u)) ow → Q .non H') ∧
  (∀ er, rlFollow ⟨tbs rs, ow⟩ n c u = .inl er → Rz (mutS A rs) E (e.cls er) (erFs line er) H)
abbrev sFollow : Stmt := inClass (top 43) 19
theorem scFollow : FnScope ["self", "line", "table", "column", "source", "parent"] ["self", "line", "table", "column", "source"] (defScope sFollow) := ⟨rfl, rfl, rfl, by decide +kernel, rfl, by decide +kernel, by decide +kernel⟩
theorem rlFollow_at {rs : List Row} {ow : List (Str × Str)} {n c u : Str} {r : Row} (h : findR rs n = some r) : rlFollow ⟨tbs rs, ow⟩ n c u = if c ∉ r.t.cols then .inl (.unk c) else
    if c ∈ r.t.fol.map (·.1) then .inl (.dup c) else
    match r.t.par with
    | none => .inl (.unk u)
    | some p => if u ∈ ((findT (tbs rs) p).map (·.cols)).getD [] then .inr ⟨(tbs rs).map (addF n c u), ow⟩ else .inl (.unk u) := by
  unfold rlFollow
  dsimp only
  rw [find_tbs, h]
  all_goals dsimp only [Option.map_some]
  all_goals (cases r.t.par <;> rfl)
theorem SA.addR {C : Addr} {H : Hp} {A : Ad} {rs : List Row} {ow : List (Str × Str)} (S : SA C H A rs ow) (wf : WF (tbs rs)) {n c u : Str} {r : Row} (hr : findR rs n = some r) : SA C (upd H r.fa (.dK (kvS (r.t.fol ++ [(c, u)])))) A (rs.map (My.addR n c u)) ow := by
  obtain ⟨hr2, hr3⟩ := findR_nm hr
  have a := apart S.ne
  have sub : ∀ x ∈ rs.map (My.addR n c u), ∃ y ∈ rs, x = My.addR n c u y := fun x hx => by
    obtain ⟨y, hy, rfl⟩ := List.mem_map.mp hx
    exact ⟨y, hy, rfl⟩
  refine ⟨?_, ?_, ?_, ?_, ?_, fun x hx => ?_, fun x hx => ?_, by rw [fas_addR]; exact S.ne⟩
  · rw [upd_ne (ne_kind S.ins (S.fs r hr2) (by simp))]; exact S.ins
  · rw [upd_ne (a.p r hr2).symm, kvR_addR _ _ _ _ _ (fun x => by show parV (addF n c u x.t).par = _; rw [(addF_nm n c u x.t).2.1])]; exact S.hp
  · rw [upd_ne (a.c r hr2).symm, kvR_addR _ _ _ _ _ (fun x => rfl)]; exact S.hc
  · rw [upd_ne (a.o r hr2).symm]; exact S.ho
  · rw [upd_ne (a.f r hr2).symm, kvR_addR _ _ _ _ _ (fun x => rfl)]; exact S.hf
  · obtain ⟨y, hy, rfl⟩ := sub x hx
    show (upd H r.fa _) y.ca = some (.lst ((addF n c u y.t).cols.map V.str))
    rw [(addF_nm n c u y.t).2.2, upd_ne (ne_kind (S.cs y hy) (S.fs r hr2) (by simp))]
    exact S.cs y hy
  · obtain ⟨y, hy, rfl⟩ := sub x hx
    show (upd H r.fa _) y.fa = some (.dK (kvS (addF n c u y.t).fol))
    by_cases e : y.t.nm = n
    · have q : findT (tbs rs) n = some y.t := by
        obtain ⟨i, hi, ei⟩ := List.mem_iff_getElem.mp (List.mem_map_of_mem (f := fun r : Row => r.t) hy)
        have := find_at wf.nd hi
        rw [ei, e] at this
        exact this
      rw [find_tbs, hr] at q
      have et : r.t = y.t := Option.some.inj q
      have ef : y = r := by
        obtain ⟨i, hi, ei⟩ := List.mem_iff_getElem.mp hy
        obtain ⟨j, hj, ej⟩ := List.mem_iff_getElem.mp hr2
        have nd := wf.nd
        have l1 : ((tbs rs).map (·.nm)).length = rs.length := by rw [List.length_map]; exact List.length_map _
        have g : ∀ k (hk : k < rs.length), ((tbs rs).map (·.nm))[k]'(by rw [l1]; exact hk) = rs[k].t.nm := fun k hk => by simp [tbs]
        have : i = j := (List.getElem_inj (h₀ := by rw [l1]; exact hi) (h₁ := by rw [l1]; exact hj) nd).mp (by rw [g i hi, g j hj, ei, ej, et])
        subst this
        rw [← ei, ← ej]
      subst ef
      rw [upd_same]
      unfold addF
      rw [if_pos e]
    · have nf : y.fa ≠ r.fa := fun z => by
        obtain ⟨i, hi, ei⟩ := List.mem_iff_getElem.mp hy
        obtain ⟨j, hj, ej⟩ := List.mem_iff_getElem.mp hr2
        have l1 : (rs.map (·.fa)).length = rs.length := List.length_map _
        have : i = j := (List.getElem_inj (h₀ := by rw [l1]; exact hi) (h₁ := by rw [l1]; exact hj) a.nd).mp (by rw [List.getElem_map, List.getElem_map, ei, ej, z])
        subst this
        rw [ei] at ej
        subst ej
        exact e hr3
      rw [upd_ne nf]
      unfold addF
      rw [if_neg e]
      exact S.fs y hy
theorem mut_r {A : Ad} {rs : List Row} {r : Row} (h : r ∈ rs) : r.fa ∈ mutS A rs := List.mem_cons_of_mem _ (List.mem_cons_of_mem _ (List.mem_cons_of_mem _ (List.mem_cons_of_mem _ (List.mem_map_of_mem h))))
section
variable {P : Program} {w : World} {K : PySem.W.Frag} {mg : Str → Option Value} {base : Heap}
theorem ok_follow {C f fK : Addr} {fd fdK : FuncData} {e : ErA} (F : Fun K "_read_follow" "Schema._read_follow" sFollow f fd) (TC : TS0 K C) (eD : EX P w K mg base "DuplicateName" ["line", "name"] e.CD) (eU : EX P w K mg base "UnknownName" ["line", "name"] e.CU)
    (M_Schema__check_known : Meth K C "_check_known" fK) (G_Schema__check_known : FnOk P w K mg base (L2.CX P w) 3 fK fdK ["self", "line", "table"] (spKnown C e)) (b_Schema__check_known : Binds K fdK ["self", "line", "table"] []) :
    FnOk P w K mg base (L2.CX P w) 4 f fd ["self", "line", "table", "column", "source"] (spFollow C e) := by
  refine F.okX scFollow (fun vs H Q E h => ?_) (fun cdv A' outer s H vs Q E hr h => ?_)
  · obtain ⟨A, rs, ow, line, n, c, u, rfl, _⟩ := h
    rfl
  · obtain ⟨A, rs, ow, line, n, c, u, rfl, S, wf, few, k1, k2⟩ := h
    obtain ⟨fD, fdD, OX_DuplicateName, IX_DuplicateName, TY_DuplicateName, GX_DuplicateName, BX_DuplicateName, NX_DuplicateName⟩ := eD.ex
    obtain ⟨fU, fdU, OX_UnknownName, IX_UnknownName, TY_UnknownName, GX_UnknownName, BX_UnknownName, NX_UnknownName⟩ := eU.ex
    have hrX : Room (1 + 1) _ := hr.mono (by decide)
    have hr_Schema__check_known : Room 3 _ := hr
    have hu := hu_of hr
    refine ⟨_, (pss_cons (ps_expr (pe_meth (pv 0) TC.cl M_Schema__check_known G_Schema__check_known hr_Schema__check_known b_Schema__check_known .nil (passes_call (takes_of rfl rfl rfl rfl) (fun _ _ _ _ h => h)) (pa_cons (pv 1) (pa_cons (pv 2) pa_nil))))
    (pss_cons (ps_if (pt_cmpR (notInSeq K) (pv 3) (pe_dget hu (fldK K (pv 0)) (pv 2) (fun _ _ => rfl)) (by rfl))
      (pss_one (ps_raise rfl (takes_of rfl rfl rfl rfl) (pmk_oex OX_UnknownName IX_UnknownName TY_UnknownName GX_UnknownName hrX BX_UnknownName .nil pass0 rfl NX_UnknownName (pa_cons (pv 1) (pa_cons (pv 3) pa_nil)))))
      pss_nil)
    (pss_cons (ps_if (pt_cmp (pc_din hu (pv 3) (pe_dget hu (fldK K (pv 0)) (pv 2) (fun _ _ => rfl))))
      (pss_one (ps_raise rfl (takes_of rfl rfl rfl rfl) (pmk_oex OX_DuplicateName IX_DuplicateName TY_DuplicateName GX_DuplicateName hrX BX_DuplicateName .nil pass0 rfl NX_DuplicateName (pa_cons (pv 1) (pa_cons (pv 3) pa_nil)))))
      pss_nil)
    (pss_cons (ps_set (i := 5) scFollow.nd rfl (Or.inl rfl) (pe_dget hu (fldK K (pv 0)) (pv 2) (fun _ _ => rfl)))
    (pss_cons (ps_if (PW.pt (pw_or (pt_cmpR op_isN (pv 5) pe_non (nomark _)) (pw_or1 (pt_cmpR (notInSeq K) (pv 4) (pe_dget hu (fldK K (pv 0)) (pv 5) (fun _ _ => rfl)) (by rfl)))))
      (pss_one (ps_raise rfl (takes_of rfl rfl rfl rfl) (pmk_oex OX_UnknownName IX_UnknownName TY_UnknownName GX_UnknownName hrX BX_UnknownName .nil pass0 rfl NX_UnknownName (pa_cons (pv 1) (pa_cons (pv 4) pa_nil)))))
      pss_nil)
    (pss_one (ps_dput hu (pe_dget hu (fldK K (pv 0)) (pv 2) (fun _ _ => rfl)) (pv 3) (pv 4) rfl))))))), ?_⟩
    refine w_seq (w_drop (w_methS (ev_var rfl) S (fun _ _ _ _ _ => rfl) (fun H1 e1 => w_cons (w_ev (ev_var rfl) fun H2 e2 => w_cons (w_ev (ev_var rfl) fun H3 e3 => w_nil ⟨A, rs, ow, line, n, rfl, S.ex ((e1.trans e2).trans e3), fun kn H4 e4 => ?_, fun kn => ?_⟩)))))
    rotate_left
    · refine ((k2 (.unk n) ?_).ex ((e1.trans e2).trans e3)).less
      unfold rlFollow
      rw [find_none kn]
    have e04 := ((e1.trans e2).trans e3).trans e4
    obtain ⟨r, hr1, hr2, hr3⟩ := findR_of kn
    have at_ := rlFollow_at (ow := ow) (c := c) (u := u) hr1
    have S4 := S.ex e04
    dsimp only
    refine q_when (b := decide (c ∉ r.t.cols)) (et_test (ev_op (ev_var rfl) (ev_rowCol TC S4 hr1 (ev_var rfl) (ev_var rfl)) (rv_niStr (.inl (SqL.of (S4.cs r hr2)))))) (fun b H5 e5 => ?_) (fun b5 H5 e5 => ?_)
    · refine rz_mk (fs := ["line", "name"]) (vs := [.int line, .str c]) (ea_cons (ev_var rfl) (ea_cons (ev_var rfl) ea_nil)) rfl (by show 2 ≤ 1000; decide) ((k2 (.unk c) ?_).ex (e04.trans e5))
      rw [at_, if_pos (of_decide_eq_true b)]
    have e05 := e04.trans e5
    have S5 := S.ex e05
    refine q_when (b := decide (c ∈ r.t.fol.map (·.1))) (et_din (k := .inr c) (ev_var rfl) (ev_rowFol TC S5 hr1 (ev_var rfl) (ev_var rfl)) (S5.fs r hr2) has_kvS) (fun b H6 e6 => ?_) (fun b6 H6 e6 => ?_)
    · refine rz_mk (fs := ["line", "name"]) (vs := [.int line, .str c]) (ea_cons (ev_var rfl) (ea_cons (ev_var rfl) ea_nil)) rfl (by show 2 ≤ 1000; decide) ((k2 (.dup c) ?_).ex (e05.trans e6))
      rw [at_, if_neg (of_decide_eq_false b5), if_pos (of_decide_eq_true b)]
    rw [if_neg (of_decide_eq_false b5), if_neg (of_decide_eq_false b6)] at at_
    have e06 := e05.trans e6
    have S6 := S.ex e06
    refine q_asg (ev_rowPar TC S6 hr1 (ev_var rfl) (ev_var rfl)) (fun H7 e7 => ?_)
    have e07 := e06.trans e7
    have S7 := S.ex e07
    have raise : ∀ {H8 : Hp} {σ : L2.St}, Ex H H8 → σ[1]? = some (some (.int line)) → σ[4]? = some (some (.str u)) → rlFollow ⟨tbs rs, ow⟩ n c u = .inl (.unk u) → tMkO e.CU (spX K e.CU ["line", "name"]) [] (tCons (tVar 1) (tCons (tVar 4) tNil)) σ H8 fun cls d H' => E cls d H' := fun {H8 σ} e8 s1 s4 h =>
      rz_mk (fs := ["line", "name"]) (vs := [.int line, .str u]) (ea_cons (ev_var s1) (ea_cons (ev_var s4) ea_nil)) rfl (by show 2 ≤ 1000; decide) (((k2 (.unk u) h).ex e8))
    cases hp : r.t.par with
    | none =>
      rw [hp] at at_
      refine q_when (b := true) (et_or (a := true) (b := false) (et_test (ev_is (v := .bl (decide (parV none = .non))) (ev_op (ev_var rfl) ev_c (fun H1 _ Q q => ⟨rfl, q H1 (Ex.refl H1)⟩)) rfl)) (fun z => absurd z (by decide))) (fun _ H8 e8 => ?_) (fun z => absurd z (by decide))
      exact raise (e07.trans e8) rfl rfl at_
    | some p =>
      rw [hp] at at_
      have kp : known (tbs rs) p = true := by
        refine par_known wf kn ?_
        rw [parOf_row hr1]
        exact hp
      obtain ⟨r2, h21, h22, _⟩ := findR_of kp
      dsimp only at at_
      rw [colsOf_row h21] at at_
      have vp : ∀ {H8 : Hp} {σ : L2.St}, σ[5]? = some (some (parV (some p))) → Ev (tVar 5) σ H8 (.str p) := fun {H8 σ} h => ev_var h
      refine q_when (b := decide (u ∉ r2.t.cols)) (et_is (et_or (a := false) (et_test (ev_is (v := .bl (decide (parV (some p) = .non))) (ev_op (ev_var rfl) ev_c (fun H1 _ Q q => ⟨rfl, q H1 (Ex.refl H1)⟩)) rfl)) (fun _ => et_test (ev_op (ev_var rfl) (ev_rowCol TC S7 h21 (ev_var rfl) (vp rfl)) (rv_niStr (.inl (SqL.of (S7.cs r2 h22))))))) (by rw [Bool.false_or])) (fun b H8 e8 => ?_) (fun b H8 e8 => ?_)
      · refine raise (e07.trans e8) rfl rfl ?_
        rw [at_, if_neg (of_decide_eq_true b)]
      · rw [if_pos (by simpa using b)] at at_
        have S8 := S7.ex e8
        have e08 := e07.trans e8
        have fresh : valV (kvS r.t.fol) (.inr c) = none := by
          have q := has_kvS (xs := r.t.fol) (n := c)
          rw [b6] at q
          cases h : valV (kvS r.t.fol) (.inr c) with
          | none => rfl
          | some v => rw [h] at q; cases q
        refine s_dput (k := .inr c) (v := .str u) (ev_var rfl) (ev_rowFol TC S8 hr1 (ev_var rfl) (ev_var rfl)) (ev_var rfl) (S8.fs r hr2) (by unfold kvS; rw [List.length_map]; have := few r hr2; omega) (fun H9 e9 => ?_)
        rw [putK_new _ fresh]
        have hk : kvS r.t.fol ++ [(.inr c, .str u)] = kvS (r.t.fol ++ [(c, u)]) := by unfold kvS; rw [List.map_append]; rfl
        rw [hk]
        exact k1 _ at_ _ ((Fr.of (e08.trans e9)).trans (Fr.upd (mut_r hr2))) ((S8.ex e9).addR wf hr1)
end
end My

namespace My
open PySem PySem.Spec PyProof.Rows L2 Evl
/-! ### a line, a schema -/
def Kin (H : Hp) (rs rs' : List Row) : Prop := ∀ x ∈ rs', (∃ r ∈ rs, x.ca = r.ca ∧ x.fa = r.fa) ∨ (H x.ca = none ∧ H x.fa = none)
def spLine (C : Addr) (e : ErA) : Sp := fun vs H Q E => ∃ (A : Ad) (rs : List Row) (ow : List (Str × Str)) (line : Int) (wl : Addr) (ws : List Str), vs = [.ref A.a, .int line, .ref wl] ∧ SA C H A rs ow ∧ WF (tbs rs) ∧ Few 900 ⟨tbs rs, ow⟩ ∧ H wl = some (.lst (ws.map V.str)) ∧ WsOk ws ∧
  (∀ s', rl isNm ⟨tbs rs, ow⟩ ws = .inr s' → ∀ H' rs', Fr (mutS A rs) H H' → SA C H' A rs' s'.ow → tbs rs' = s'.tb → Kin H rs rs' → Q .non H') ∧
  (∀ er, rl isNm ⟨tbs rs, ow⟩ ws = .inl er → Rz (mutS A rs) E (e.cls er) (erFs line er) H)
abbrev sLine : Stmt := inClass (top 43) 15
theorem scLine : FnScope ["self", "line", "words"] ["self", "line", "words"] (defScope sLine) := ⟨rfl, rfl, rfl, by decide +kernel, rfl, by decide +kernel, by decide +kernel⟩
theorem Kin.refl (H : Hp) (rs : List Row) : Kin H rs rs := fun x hx => .inl ⟨x, hx, rfl, rfl⟩
theorem Kin.snoc {H : Hp} {rs : List Row} {x : Row} (h1 : H x.ca = none) (h2 : H x.fa = none) : Kin H rs (rs ++ [x]) := fun y hy => by
  rcases List.mem_append.mp hy with z | z
  · exact .inl ⟨y, z, rfl, rfl⟩
  · obtain rfl : y = x := by simpa using z
    exact .inr ⟨h1, h2⟩
theorem Kin.addR {H : Hp} {rs : List Row} (n c u : Str) : Kin H rs (rs.map (My.addR n c u)) := fun y hy => by
  obtain ⟨r, hr, rfl⟩ := List.mem_map.mp hy
  exact .inl ⟨r, hr, rfl, rfl⟩
theorem ws_le {ws : List Str} (ok : WsOk ws) (k : Nat) : (ws.getD k "").length ≤ 900 := by
  rw [List.getD_eq_getElem?_getD]
  cases h : ws[k]? with
  | none => exact Nat.zero_le _
  | some w => exact ok.le w (List.mem_of_getElem? h)
section
variable {P : Program} {w : World} {K : PySem.W.Frag} {mg : Str → Option Value} {base : Heap}
theorem ok_line {C f fH fT fO fF : Addr} {fd fdH fdT fdO fdF : FuncData} {e : ErA} (F : Fun K "_read_line" "Schema._read_line" sLine f fd) (TC : TS0 K C) (eB : EX P w K mg base "BadLine" ["line"] e.CB)
    (G_has_form_schemas : FnOk P w K mg base CX0 4 fH fdH ["words"] (spForm K)) (m_has_form_schemas : mg "has_form_schemas" = some (.ref fH)) (k_has_form_schemas : PySem.W.keepIn K (.ref fH) = true) (b_has_form_schemas : Binds K fdH ["words"] [])
    (M_Schema__read_table : Meth K C "_read_table" fT) (G_Schema__read_table : FnOk P w K mg base (L2.CX P w) 6 fT fdT ["self", "line", "table", "parent", "columns"] (spTable C e)) (b_Schema__read_table : Binds K fdT ["self", "line", "table", "parent", "columns"] [])
    (M_Schema__read_owner : Meth K C "_read_owner" fO) (G_Schema__read_owner : FnOk P w K mg base (L2.CX P w) 4 fO fdO ["self", "line", "table", "position"] (spOwner C e)) (b_Schema__read_owner : Binds K fdO ["self", "line", "table", "position"] [])
    (M_Schema__read_follow : Meth K C "_read_follow" fF) (G_Schema__read_follow : FnOk P w K mg base (L2.CX P w) 4 fF fdF ["self", "line", "table", "column", "source"] (spFollow C e)) (b_Schema__read_follow : Binds K fdF ["self", "line", "table", "column", "source"] []) :
    FnOk P w K mg base (L2.CX P w) 7 f fd ["self", "line", "words"] (spLine C e) := by
  refine F.okX scLine (fun vs H Q E h => ?_) (fun cdv A' outer s H vs Q E hr h => ?_)
  · obtain ⟨A, rs, ow, line, wl, ws, rfl, _⟩ := h
    rfl
  · obtain ⟨A, rs, ow, line, wl, ws, rfl, S, wf, few, hwl, ok, k1, k2⟩ := h
    obtain ⟨fB, fdB, OX_BadLine, IX_BadLine, TY_BadLine, GX_BadLine, BX_BadLine, NX_BadLine⟩ := eB.ex
    have hrX : Room (1 + 1) _ := hr.mono (by decide)
    have hr_has_form_schemas : Room 4 _ := hr.mono (by decide)
    have hr_Schema__read_table : Room 6 _ := hr
    have hr_Schema__read_owner : Room 4 _ := hr.mono (by decide)
    have hr_Schema__read_follow : Room 4 _ := hr.mono (by decide)
    have hu := hu_of hr
    refine ⟨_, (pss_cons (ps_if (pt_not (pt_val (pe_call G_has_form_schemas hr_has_form_schemas rfl m_has_form_schemas k_has_form_schemas b_has_form_schemas .nil pass0 (pa_cons (pv 2) pa_nil))))
      (pss_one (ps_raise rfl (takes_of rfl rfl rfl rfl) (pmk_oex OX_BadLine IX_BadLine TY_BadLine GX_BadLine hrX BX_BadLine .nil pass0 rfl NX_BadLine (pa_cons (pv 1) pa_nil))))
      pss_nil)
    (pss_one (ps_if (pt_cmpR op_eq (pe_ix (ixL K) (pv 2) pe_int (fun _ _ => rfl)) pe_str (nomark _))
      (pss_one (ps_expr (pe_meth (pv 0) TC.cl M_Schema__read_table G_Schema__read_table hr_Schema__read_table b_Schema__read_table .nil (passes_call (takes_of rfl rfl rfl rfl) (fun _ _ _ _ h => h)) (pa_cons (pv 1) (pa_cons (pe_ix (ixL K) (pv 2) pe_int (fun _ _ => rfl)) (pa_cons pe_non (pa_cons (pe_slice (slL K) (pv 2) (po_some pe_int) po_none) pa_nil)))))))
      (pss_one (ps_if (pt_cmpR op_eq (pe_ix (ixL K) (pv 2) pe_int (fun _ _ => rfl)) pe_str (nomark _))
        (pss_one (ps_expr (pe_meth (pv 0) TC.cl M_Schema__read_table G_Schema__read_table hr_Schema__read_table b_Schema__read_table .nil (passes_call (takes_of rfl rfl rfl rfl) (fun _ _ _ _ h => h)) (pa_cons (pv 1) (pa_cons (pe_ix (ixL K) (pv 2) pe_int (fun _ _ => rfl)) (pa_cons (pe_ix (ixL K) (pv 2) pe_int (fun _ _ => rfl)) (pa_cons (pe_slice (slL K) (pv 2) (po_some pe_int) po_none) pa_nil)))))))
        (pss_one (ps_if (pt_cmpR op_eq (pe_ix (ixL K) (pv 2) pe_int (fun _ _ => rfl)) pe_str (nomark _))
          (pss_one (ps_expr (pe_meth (pv 0) TC.cl M_Schema__read_owner G_Schema__read_owner hr_Schema__read_owner b_Schema__read_owner .nil (passes_call (takes_of rfl rfl rfl rfl) (fun _ _ _ _ h => h)) (pa_cons (pv 1) (pa_cons (pe_ix (ixL K) (pv 2) pe_int (fun _ _ => rfl)) (pa_cons (pe_ix (ixL K) (pv 2) pe_int (fun _ _ => rfl)) pa_nil))))))
          (pss_one (ps_expr (pe_meth (pv 0) TC.cl M_Schema__read_follow G_Schema__read_follow hr_Schema__read_follow b_Schema__read_follow .nil (passes_call (takes_of rfl rfl rfl rfl) (fun _ _ _ _ h => h)) (pa_cons (pv 1) (pa_cons (pe_ix (ixL K) (pv 2) pe_int (fun _ _ => rfl)) (pa_cons (pe_ix (ixL K) (pv 2) pe_int (fun _ _ => rfl)) (pa_cons (pe_ix (ixL K) (pv 2) pe_int (fun _ _ => rfl)) pa_nil)))))))))))))), ?_⟩
    have ne := ok.ne
    have wfew := ok.few
    have lt : (tbs rs).length = rs.length := List.length_map _
    have fewT := few.tb
    dsimp only at fewT
    refine q_when (b := !formOk isNm ws) (et_not (et_B (ev_call (ea_cons (ev_var rfl) ea_nil) (fun H1 e1 Q q E => ⟨wl, ws, rfl, SqL.of (e1 _ _ hwl), ok, q⟩)))) (fun b H1 e1 => ?_) (fun b H1 e1 => ?_)
    · refine rz_mk (fs := ["line"]) (vs := [.int line]) (ea_cons (ev_var rfl) ea_nil) rfl (by show 1 ≤ 1000; decide) ((k2 .bad ?_).ex e1)
      unfold rl
      rw [if_neg (by simpa using b)]
    have hf : formOk isNm ws = true := by simpa using b
    have line_is : rl isNm ⟨tbs rs, ow⟩ ws = rlOf ⟨tbs rs, ow⟩ ws := by unfold rl; rw [if_pos hf]
    have hd := head_at ne
    have at_ : ∀ {H2 : Hp} {σ : L2.St} {i : Int} (k : Nat), i = (k : Int) → Ex H H2 → σ[2]? = some (some (.ref wl)) → k < ws.length → Ev (tOp (rIxL K) (tVar 2) (tC (.int i))) σ H2 (.str (ws.getD k "")) := fun {H2 σ i} k hi e2 h2 hk => ev_at k hi (ev_var h2) (SqL.of (e2 _ _ hwl)) hk
    have first : ∀ {H2 : Hp} {σ : L2.St} (z : Str), Ex H H2 → σ[2]? = some (some (.ref wl)) → EvT (tTest (tOp rEq (tOp (rIxL K) (tVar 2) (tC (.int 0))) (tC (.str z)))) σ H2 (decide (ws.headD "" = z)) := fun {H2 σ} z e2 h2 => by
      rw [hd]
      exact et_test (ev_is (ev_op (at_ 0 rfl e2 h2 (by omega)) ev_c (rv_eq rfl)) (congrArg V.bl (str_beq _ _)))
    have behind : ∀ {H2 : Hp} {σ : L2.St} (k : Nat), k ≤ ws.length → Ex H H2 → σ[2]? = some (some (.ref wl)) → EvL (tSl (rSlL K) (tVar 2) (tPart (tC (.int (k : Int)))) tNoPart) σ H2 ((ws.drop k).map V.str) := fun {H2 σ} k hk e2 h2 =>
      el_is (el_sl (lo := some (k : Int)) (hi := none) (ev_var h2) (eo_some ev_c) eo_none (SqL.of (e2 _ _ hwl))) (by rw [cutV_drop _ k (by rw [List.length_map]; exact hk), List.map_drop])
    -- what a table line leaves
    have tabl : ∀ {n : Str} {par : Option Str} {cols : List Str} {cl : Addr} {H2 H3 : Hp}, rlOf ⟨tbs rs, ow⟩ ws = rlTable ⟨tbs rs, ow⟩ n par cols → Ex H H2 → H cl = none → ∀ s', rlTable ⟨tbs rs, ow⟩ n par cols = .inr s' → ∀ H' fa, Fr (mutS A rs) H2 H' → H2 fa = none → SA C H' A (rs ++ [⟨⟨n, par, cols, []⟩, cl, fa⟩]) ow → Q .non H' := fun {n par cols cl H2 H3} hof e2 hcl s' hs H' fa fr hfa SA' => by
      obtain ⟨_, _, _, _, _, _, rfl⟩ := rlTable_ok hs
      exact k1 _ (by rw [line_is, hof]; exact hs) H' _ ((Fr.of e2).trans fr) SA' (by unfold tbs; rw [List.map_append]; rfl) (Kin.snoc hcl (fresh_back e2 hfa))
    refine s_if (first "root" e1 rfl) (fun c H2 e2 => ?_) (fun c2 H2 e2 => ?_)
    · have c := of_decide_eq_true c
      have len : 3 ≤ ws.length := by
        unfold formOk at hf
        rw [if_pos c, Bool.and_eq_true] at hf
        exact of_decide_eq_true hf.1
      have hof : rlOf ⟨tbs rs, ow⟩ ws = rlTable ⟨tbs rs, ow⟩ (ws.getD 1 "") none (ws.drop 2) := by unfold rlOf; rw [if_pos c]
      have e02 := e1.trans e2
      have S2 := S.ex e02
      refine w_drop (w_methS (ev_var rfl) S2 (fun _ _ _ _ _ => rfl) (fun H3 e3 => w_cons (w_ev (ev_var rfl) fun H4 e4 => w_cons (w_ev (at_ 1 rfl ((e02.trans e3).trans e4) rfl (by omega)) fun H5 e5 => w_cons (w_ev ev_c fun H6 e6 => w_cons (w_evl (behind 2 (by omega) ((((e02.trans e3).trans e4).trans e5).trans e6) rfl) fun cl H7 hcl e7 h7 => w_nil ?_))))))
      have e06 := (((e02.trans e3).trans e4).trans e5).trans e6
      have e07 := e06.trans e7
      exact ⟨A, rs, ow, line, ws.getD 1 "", none, cl, ws.drop 2, rfl, S.ex e07, wf, by omega, h7, by rw [List.length_drop]; omega, tabl (H3 := H) hof e07 (fresh_back e06 hcl), fun er her => (k2 er (by rw [line_is, hof]; exact her)).ex e07⟩
    refine s_if (first "table" (e1.trans e2) rfl) (fun c H3 e3 => ?_) (fun c3 H3 e3 => ?_)
    · have c := of_decide_eq_true c
      have c2 := of_decide_eq_false c2
      have len : 4 ≤ ws.length := by
        unfold formOk at hf
        rw [if_neg c2, if_pos c, Bool.and_eq_true] at hf
        exact of_decide_eq_true hf.1
      have hof : rlOf ⟨tbs rs, ow⟩ ws = rlTable ⟨tbs rs, ow⟩ (ws.getD 1 "") (some (ws.getD 2 "")) (ws.drop 3) := by unfold rlOf; rw [if_neg c2, if_pos c]
      have e03 := (e1.trans e2).trans e3
      have S3 := S.ex e03
      refine w_drop (w_methS (ev_var rfl) S3 (fun _ _ _ _ _ => rfl) (fun H4 e4 => w_cons (w_ev (ev_var rfl) fun H5 e5 => w_cons (w_ev (at_ 1 rfl ((e03.trans e4).trans e5) rfl (by omega)) fun H6 e6 => w_cons (w_ev (at_ 2 rfl (((e03.trans e4).trans e5).trans e6) rfl (by omega)) fun H7 e7 => w_cons (w_evl (behind 3 (by omega) ((((e03.trans e4).trans e5).trans e6).trans e7) rfl) fun cl H8 hcl e8 h8 => w_nil ?_))))))
      have e07 := (((e03.trans e4).trans e5).trans e6).trans e7
      have e08 := e07.trans e8
      exact ⟨A, rs, ow, line, ws.getD 1 "", some (ws.getD 2 ""), cl, ws.drop 3, rfl, S.ex e08, wf, by omega, h8, by rw [List.length_drop]; omega, tabl (H3 := H) hof e08 (fresh_back e07 hcl), fun er her => (k2 er (by rw [line_is, hof]; exact her)).ex e08⟩
    have c2 := of_decide_eq_false c2
    have c3 := of_decide_eq_false c3
    have e03 := (e1.trans e2).trans e3
    refine s_if (first "owner" e03 rfl) (fun c H4 e4 => ?_) (fun c4 H4 e4 => ?_)
    · have c := of_decide_eq_true c
      have len : ws.length = 3 := by
        unfold formOk at hf
        rw [if_neg c2, if_neg c3, if_pos c, Bool.and_eq_true] at hf
        exact of_decide_eq_true hf.1
      have hof : rlOf ⟨tbs rs, ow⟩ ws = rlOwner ⟨tbs rs, ow⟩ (ws.getD 1 "") (ws.getD 2 "") := by unfold rlOf; rw [if_neg c2, if_neg c3, if_pos c]
      have e04 := e03.trans e4
      have S4 := S.ex e04
      refine w_drop (w_methS (ev_var rfl) S4 (fun _ _ _ _ _ => rfl) (fun H5 e5 => w_cons (w_ev (ev_var rfl) fun H6 e6 => w_cons (w_ev (at_ 1 rfl ((e04.trans e5).trans e6) rfl (by omega)) fun H7 e7 => w_cons (w_ev (at_ 2 rfl (((e04.trans e5).trans e6).trans e7) rfl (by omega)) fun H8 e8 => w_nil ?_)))))
      have e08 := (((e04.trans e5).trans e6).trans e7).trans e8
      refine ⟨A, rs, ow, line, ws.getD 1 "", ws.getD 2 "", rfl, S.ex e08, wf, few.ow, ws_le ok 2, fun s' hs H' fr SA' => ?_, fun er her => (k2 er (by rw [line_is, hof]; exact her)).ex e08⟩
      have es : s' = ⟨tbs rs, ow ++ [(ws.getD 1 "", ws.getD 2 "")]⟩ := by
        unfold rlOwner at hs
        split at hs
        · cases hs
        · split at hs
          · cases hs
          · split at hs
            · cases hs
            · cases hs; rfl
      subst es
      exact k1 _ (by rw [line_is, hof]; exact hs) H' rs ((Fr.of e08).trans fr) SA' rfl (Kin.refl _ _)
    · have c4 := of_decide_eq_false c4
      have hf2 := hf
      unfold formOk at hf2
      rw [if_neg c2, if_neg c3, if_neg c4] at hf2
      have c5 : ws.headD "" = "follow" := by
        by_cases z : ws.headD "" = "follow"
        · exact z
        · rw [if_neg z] at hf2; cases hf2
      have len : ws.length = 4 := by
        rw [if_pos c5, Bool.and_eq_true] at hf2
        exact of_decide_eq_true hf2.1
      have hof : rlOf ⟨tbs rs, ow⟩ ws = rlFollow ⟨tbs rs, ow⟩ (ws.getD 1 "") (ws.getD 2 "") (ws.getD 3 "") := by unfold rlOf; rw [if_neg c2, if_neg c3, if_neg c4]
      have e04 := e03.trans e4
      have S4 := S.ex e04
      refine w_drop (w_methS (ev_var rfl) S4 (fun _ _ _ _ _ => rfl) (fun H5 e5 => w_cons (w_ev (ev_var rfl) fun H6 e6 => w_cons (w_ev (at_ 1 rfl ((e04.trans e5).trans e6) rfl (by omega)) fun H7 e7 => w_cons (w_ev (at_ 2 rfl (((e04.trans e5).trans e6).trans e7) rfl (by omega)) fun H8 e8 => w_cons (w_ev (at_ 3 rfl ((((e04.trans e5).trans e6).trans e7).trans e8) rfl (by omega)) fun H9 e9 => w_nil ?_))))))
      have e09 := ((((e04.trans e5).trans e6).trans e7).trans e8).trans e9
      refine ⟨A, rs, ow, line, _, _, _, rfl, S.ex e09, wf, fun r hr => few.fo r.t (List.mem_map_of_mem hr), fun s' hs H' fr SA' => ?_, fun er her => (k2 er (by rw [line_is, hof]; exact her)).ex e09⟩
      have es : s' = ⟨(tbs rs).map (addF (ws.getD 1 "") (ws.getD 2 "") (ws.getD 3 "")), ow⟩ := by
        unfold rlFollow at hs
        split at hs
        · cases hs
        · split at hs
          · cases hs
          · split at hs
            · cases hs
            · split at hs
              · cases hs
              · split at hs
                · cases hs; rfl
                · cases hs
      subst es
      exact k1 _ (by rw [line_is, hof]; exact hs) H' _ ((Fr.of e09).trans fr) SA' (tbs_addR _ _ _ _) (Kin.addR _ _ _)
end
end My

namespace My
open PySem PySem.Spec PyProof.Rows L2 Evl
/-! ### a schema is read -/
abbrev nl : Str := "\n"
def linesOf (tx : Str) : List (List Str) := (Txt.split tx nl).map fun l => Txt.split l " "
structure TxOk (tx : Str) : Prop where
  le : tx.length ≤ 90000
  few : (Txt.split tx nl).length ≤ 800
  ln : ∀ l ∈ Txt.split tx nl, l.length ≤ 800
/-- nothing of it stood before -/
structure New (H : Hp) (A : Ad) (rs : List Row) : Prop where
  m : ∀ b ∈ mutS A rs, H b = none
  c : ∀ r ∈ rs, H r.ca = none
def rdT (tx : Str) : (Er × Nat) ⊕ Sm := rd isNm 1 ⟨[], []⟩ (linesOf tx)
def spInitS (C : Addr) (e : ErA) : Sp := fun vs H Q E => ∃ (x dx : Addr) (tx : Str), vs = [.ref x, .str tx] ∧ H x = some (.ins C dx []) ∧ TxOk tx ∧
  (∀ s, rdT tx = .inr s → ∀ H' A rs, A.a = x → A.tx = tx → Fr [x] H H' → SA C H' A rs s.ow → tbs rs = s.tb → WF s.tb → Few 800 s → New H A rs → Q .non H') ∧
  (∀ er k, rdT tx = .inl (er, k) → Rz [x] E (e.cls er) (erFs (k : Int) er) H)
abbrev sInitS : Stmt := inClass (top 43) 3
theorem scInitS : FnScope ["self", "text", "number", "line"] ["self", "text"] (defScope sInitS) := ⟨rfl, rfl, rfl, by decide +kernel, rfl, by decide +kernel, by decide +kernel⟩
structure TRd (mg : Str → Option Value) (C : Addr) : Prop where
  n_enumerate : mg "enumerate" = none
  g_Schema : mg "Schema" = some (.ref C)
theorem split_ws {l : Str} (h : l.length ≤ 800) : WsOk (Txt.split l " ") := by
  have h1 := PyProof.Rows.split_pos l " "
  have h2 := PyProof.Rows.split_le l " "
  exact ⟨h1, by omega, fun w hw => by have := split_part hw; omega⟩
theorem SA.off {C : Addr} {H : Hp} {A : Ad} {rs : List Row} {ow : List (Str × Str)} (S : SA C H A rs ow) {b : Addr} {u : HO} (h : H b = some u) (hu : ∀ k, u ≠ .dK k) : b ∉ mutS A rs := fun z => by
  simp only [mutS, List.mem_cons, List.mem_map] at z
  rcases z with z | z | z | z | ⟨r, hr, z⟩
  · exact ne_kind h S.hp (hu _) z
  · exact ne_kind h S.hc (hu _) z
  · exact ne_kind h S.ho (hu _) z
  · exact ne_kind h S.hf (hu _) z
  · exact ne_kind h (S.fs r hr) (hu _) z.symm
theorem upd_x {H H' : Hp} {x : Addr} {o : HO} (f : Fr [x] H H') : Fr [x] H (upd H' x o) := f.trans (Fr.upd (List.mem_cons_self ..))
section
variable {P : Program} {w : World} {K : PySem.W.Frag} {mg : Str → Option Value} {base : Heap}
theorem ok_initS {C f fL : Addr} {fd fdL : FuncData} {e : ErA} (F : Fun K "__init__" "Schema.__init__" sInitS f fd) (TC : TS0 K C) (T : TRd mg C)
    (M_Schema__read_line : Meth K C "_read_line" fL) (G_Schema__read_line : FnOk P w K mg base (L2.CX P w) 7 fL fdL ["self", "line", "words"] (spLine C e)) (b_Schema__read_line : Binds K fdL ["self", "line", "words"] []) :
    FnOk P w K mg base (L2.CX P w) 8 f fd ["self", "text"] (spInitS C e) := by
  refine F.okX scInitS (fun vs H Q E h => ?_) (fun cdv A' outer s H vs Q E hr h => ?_)
  · obtain ⟨x, dx, tx, rfl, _⟩ := h
    rfl
  · obtain ⟨x, dx, tx, rfl, hx, ok, k1, k2⟩ := h
    have hr_Schema__read_line : Room 7 _ := hr
    refine ⟨_, (pss_cons (ps_fld (pv 0) (pv 1) rfl)
    (pss_cons (ps_fld (pv 0) pe_dnewK rfl)
    (pss_cons (ps_fld (pv 0) pe_dnewK rfl)
    (pss_cons (ps_fld (pv 0) pe_dnewK rfl)
    (pss_cons (ps_fld (pv 0) pe_dnewK rfl)
    (pss_one (ps_for (passes_of rfl) rfl (pi_enumC K rfl (by rfl) T.n_enumerate (bmK K PySem.F.plainAttrs_str PySem.F.slot_str_split PySem.F.type_str_split mt_split (pv 1) (pa_cons pe_str pa_nil)) (by decide) (by decide)) (pg_tup rfl (pgs_cons (pg_name (i := 2) scInitS.nd rfl (Or.inl rfl)) (pgs_cons (pg_name (i := 3) scInitS.nd rfl (Or.inl rfl)) pgs_nil)))
      (pss_one (ps_expr (pe_meth (pv 0) TC.cl M_Schema__read_line G_Schema__read_line hr_Schema__read_line b_Schema__read_line .nil (passes_call (takes_of rfl rfl rfl rfl) (fun _ _ _ _ h => h)) (pa_cons (pv 2) (pa_cons (bmK K PySem.F.plainAttrs_str PySem.F.slot_str_split PySem.F.type_str_split mt_split (pv 3) (pa_cons pe_str pa_nil)) pa_nil)))))))))))), ?_⟩
    refine w_seq (s_fldX TC.cl TC.n1 (by decide) (ev_var rfl) (ev_var rfl) hx (fun H1 e1 => ?_))
    generalize hG1 : upd H1 x _ = G1
    have x1 : G1 x = some (.ins C dx [("text", .str tx)]) := by rw [← hG1]; exact upd_same
    have f1 : Fr [x] H G1 := by rw [← hG1]; exact upd_x (Fr.of e1)
    refine w_seq (s_fldN TC.cl TC.n2 (by show 1 < 1000; decide) (ev_var rfl) x1 (fun p H2 hp e2 h2' => ?_))
    have px : p ≠ x := fun z => by rw [z, x1] at hp; cases hp
    generalize hG2 : upd H2 x _ = G2
    have x2 : G2 x = some (.ins C dx [("text", .str tx), ("_parents", .ref p)]) := by rw [← hG2]; exact upd_same
    have f2 : Fr [x] H G2 := by rw [← hG2]; exact upd_x (f1.trans (Fr.of e2))
    have p2 : G2 p = some (.dK []) := by rw [← hG2, upd_ne px]; exact h2'
    refine w_seq (s_fldN TC.cl TC.n3 (by show 2 < 1000; decide) (ev_var rfl) x2 (fun c H3 hc e3 h3' => ?_))
    have cx : c ≠ x := fun z => by rw [z, x2] at hc; cases hc
    have pc : p ≠ c := fun z => by rw [← z, p2] at hc; cases hc
    generalize hG3 : upd H3 x _ = G3
    have x3 : G3 x = some (.ins C dx [("text", .str tx), ("_parents", .ref p), ("_columns", .ref c)]) := by rw [← hG3]; exact upd_same
    have f3 : Fr [x] H G3 := by rw [← hG3]; exact upd_x (f2.trans (Fr.of e3))
    have p3 : G3 p = some (.dK []) := by rw [← hG3, upd_ne px]; exact e3 _ _ p2
    have c3 : G3 c = some (.dK []) := by rw [← hG3, upd_ne cx]; exact h3'
    refine w_seq (s_fldN TC.cl TC.n4 (by show 3 < 1000; decide) (ev_var rfl) x3 (fun o H4 ho e4 h4' => ?_))
    have ox : o ≠ x := fun z => by rw [z, x3] at ho; cases ho
    have po : p ≠ o := fun z => by rw [← z, p3] at ho; cases ho
    have co : c ≠ o := fun z => by rw [← z, c3] at ho; cases ho
    generalize hG4 : upd H4 x _ = G4
    have x4 : G4 x = some (.ins C dx [("text", .str tx), ("_parents", .ref p), ("_columns", .ref c), ("_owners", .ref o)]) := by rw [← hG4]; exact upd_same
    have f4 : Fr [x] H G4 := by rw [← hG4]; exact upd_x (f3.trans (Fr.of e4))
    have p4 : G4 p = some (.dK []) := by rw [← hG4, upd_ne px]; exact e4 _ _ p3
    have c4 : G4 c = some (.dK []) := by rw [← hG4, upd_ne cx]; exact e4 _ _ c3
    have o4 : G4 o = some (.dK []) := by rw [← hG4, upd_ne ox]; exact h4'
    refine w_seq (s_fldN TC.cl TC.n5 (by show 4 < 1000; decide) (ev_var rfl) x4 (fun fo H5 hfo e5 h5' => ?_))
    have fox : fo ≠ x := fun z => by rw [z, x4] at hfo; cases hfo
    have pfo : p ≠ fo := fun z => by rw [← z, p4] at hfo; cases hfo
    have cfo : c ≠ fo := fun z => by rw [← z, c4] at hfo; cases hfo
    have ofo : o ≠ fo := fun z => by rw [← z, o4] at hfo; cases hfo
    generalize hG5 : upd H5 x _ = G5
    have x5 : G5 x = some (.ins C dx [("text", .str tx), ("_parents", .ref p), ("_columns", .ref c), ("_owners", .ref o), ("_follows", .ref fo)]) := by rw [← hG5]; exact upd_same
    have f5 : Fr [x] H G5 := by rw [← hG5]; exact upd_x (f4.trans (Fr.of e5))
    have p5 : G5 p = some (.dK []) := by rw [← hG5, upd_ne px]; exact e5 _ _ p4
    have c5 : G5 c = some (.dK []) := by rw [← hG5, upd_ne cx]; exact e5 _ _ c4
    have o5 : G5 o = some (.dK []) := by rw [← hG5, upd_ne ox]; exact e5 _ _ o4
    have fo5 : G5 fo = some (.dK []) := by rw [← hG5, upd_ne fox]; exact h5'
    have bx : ∀ {H' : Hp} {b : Addr}, Fr [x] H H' → b ≠ x → H' b = none → H b = none := fun {H' b} f n h => by
      cases z : H b with
      | none => rfl
      | some u => rw [f b u z (by simpa using n)] at h; cases h
    have S0 : SA C G5 ⟨x, dx, p, c, o, fo, tx⟩ [] [] := ⟨x5, p5, c5, o5, fo5, (fun r hr => by cases hr), (fun r hr => by cases hr), by simp [pc, po, pfo, co, cfo, ofo]⟩
    have new0 : New H ⟨x, dx, p, c, o, fo, tx⟩ [] := by
      refine ⟨fun b hb => ?_, fun r hr => by cases hr⟩
      simp only [mutS, List.map_nil, List.mem_cons, List.not_mem_nil, or_false] at hb
      rcases hb with rfl | rfl | rfl | rfl
      · exact bx f1 px hp
      · exact bx f2 cx hc
      · exact bx f3 ox ho
      · exact bx f4 fox hfo
    have lenL : (linesOf tx).length = (Txt.split tx nl).length := List.length_map _
    have fewL := ok.few
    refine s_forEnC (xs := (Txt.split tx nl).map V.str) (c := 1) (el_split (ev_var rfl) ev_c rfl (by have := ok.le; omega))
      (fun q k σ' H' => ∃ rs ow v2 v3, σ' = [some (.ref x), some (.str tx), v2, v3] ∧ Fr [x] H H' ∧ H' q = some (.lst ((Txt.split tx nl).map V.str)) ∧ H q = none ∧ SA C H' ⟨x, dx, p, c, o, fo, tx⟩ rs ow ∧ WF (tbs rs) ∧ Few k ⟨tbs rs, ow⟩ ∧ New H ⟨x, dx, p, c, o, fo, tx⟩ rs ∧ rdT tx = rd isNm (1 + k) ⟨tbs rs, ow⟩ ((linesOf tx).drop k))
      (fun q H6 hq e6 h6 => ⟨[], [], none, none, rfl, f5.trans (Fr.of e6), h6, bx f5 (fun z => by rw [z, x5] at hq; cases hq) hq, S0.ex e6, wf_nil, ⟨Nat.le_refl _, Nat.le_refl _, fun t ht => by cases ht⟩, new0, rfl⟩) (fun q k σ' H' _ pv => ?_) (fun q k y σ' H' H6 hy pv e6 => ?_) (fun q σ' H' pv => ?_)
    · obtain ⟨_, _, _, _, _, _, hq, _⟩ := pv
      exact SqL.of hq
    · obtain ⟨rs, ow, v2, v3, rfl, f, hq, hq0, S, wf, few, new, hrd⟩ := pv
      have hk : k < (Txt.split tx nl).length := by
        have := (List.getElem?_eq_some_iff.mp hy).1
        simpa using this
      have hkL : k < (linesOf tx).length := by rw [lenL]; exact hk
      rw [List.getElem?_map, List.getElem?_eq_getElem hk] at hy
      obtain rfl : y = V.str (Txt.split tx nl)[k] := (Option.some.inj hy).symm
      have ll : (Txt.split tx nl)[k].length ≤ 800 := ok.ln _ (List.getElem_mem hk)
      have hdrop : (linesOf tx).drop k = Txt.split (Txt.split tx nl)[k] " " :: (linesOf tx).drop (k + 1) := by
        rw [List.drop_eq_getElem_cons hkL]
        congr 1
        simp [linesOf]
      rw [hdrop] at hrd
      generalize (Txt.split tx nl)[k] = ln at ll hrd
      have S6 := S.ex e6
      refine w_drop (w_methS (ev_var rfl) S6 (fun _ _ _ _ _ => rfl) (fun H7 e7 => w_cons (w_ev (ev_var rfl) fun H8 e8 => w_cons (w_evl (el_split (a := ln) (b := " ") (ev_var rfl) ev_c rfl (by omega)) fun wl H9 hwl e9 h9 => w_nil ?_))))
      have e69 := (e7.trans e8).trans e9
      have f9 := f.trans (Fr.of (e6.trans e69))
      refine ⟨_, rs, ow, 1 + (k : Int), wl, Txt.split ln " ", rfl, S6.ex e69, wf, few.mono (by omega), h9, split_ws ll, fun s' hs H' rs' fr SA' htb kin => ?_, fun er her => ?_⟩
      · have fresh9 : ∀ b, b ≠ x → H9 b = none → H b = none := fun b nb hb => bx f9 nb hb
        have x9 : H9 x = _ := (S6.ex e69).ins
        have new' : New H ⟨x, dx, p, c, o, fo, tx⟩ rs' := by
          have one : ∀ r ∈ rs', H r.fa = none ∧ H r.ca = none := fun r hr => by
            rcases kin r hr with ⟨r0, h0, e1, e2⟩ | ⟨h1, h2⟩
            · rw [e1, e2]
              exact ⟨new.m _ (mut_r h0), new.c r0 h0⟩
            · have n1 : r.ca ≠ x := fun z => by rw [z, x9] at h1; cases h1
              have n2 : r.fa ≠ x := fun z => by rw [z, x9] at h2; cases h2
              exact ⟨fresh9 _ n2 h2, fresh9 _ n1 h1⟩
          refine ⟨fun b hb => ?_, fun r hr => (one r hr).2⟩
          simp only [mutS, List.mem_cons, List.mem_map] at hb
          rcases hb with z | z | z | z | ⟨r, hr, z⟩
          · rw [z]; exact new.m _ mut_p
          · rw [z]; exact new.m _ mut_c
          · rw [z]; exact new.m _ mut_o
          · rw [z]; exact new.m _ mut_f
          · rw [← z]; exact (one r hr).1
        have few' := rl_few few hs
        refine ⟨rs', s'.ow, _, _, rfl, ?_, fr q _ (e69 _ _ (e6 _ _ hq)) ((S6.ex e69).off (e69 _ _ (e6 _ _ hq)) (fun k z => nomatch z)), hq0, SA', by rw [htb]; exact rl_wf wf hs, by rw [htb]; exact few', new', ?_⟩
        · intro b u hb nb
          refine fr b u (f9 b u hb nb) (fun z => ?_)
          rw [new.m b z] at hb
          cases hb
        · rw [hrd]
          conv => lhs; unfold rd
          rw [hs, htb]
          rfl
      · have go : rdT tx = .inl (er, 1 + k) := by
          rw [hrd]
          unfold rd
          rw [her]
        have q := k2 er (1 + k) go
        intro d l H' hd fr hl hq
        refine q d l H' ?_ ?_ hl ?_
        · exact fr_back f9 (fun b hb => by obtain rfl : b = x := (by simpa using hb); exact ⟨_, (S6.ex e69).ins⟩) hd
        · intro b u hb nb
          refine fr b u (f9 b u hb nb) (fun z => ?_)
          rw [new.m b z] at hb
          cases hb
        · have cast : ((1 + k : Nat) : Int) = 1 + (k : Int) := by omega
          rw [cast]
          exact hq
    · obtain ⟨rs, ow, v2, v3, rfl, f, hq, hq0, S, wf, few, new, hrd⟩ := pv
      rw [List.length_map, ← lenL, List.drop_length] at hrd
      rw [List.length_map] at few
      exact k1 ⟨tbs rs, ow⟩ hrd H' _ rs rfl rfl f S rfl wf (few.mono fewL) new
/-- the class's own read -/
def spRead (C : Addr) (e : ErA) : Sp := fun vs H Q E => ∃ (tx : Str), vs = [.str tx] ∧ TxOk tx ∧
  (∀ s, rdT tx = .inr s → ∀ H' A rs, A.tx = tx → H A.a = none → Ex H H' → SA C H' A rs s.ow → tbs rs = s.tb → WF s.tb → Few 800 s → New H A rs → Q (.ref A.a) H') ∧
  (∀ er k, rdT tx = .inl (er, k) → Rz [] E (e.cls er) (erFs (k : Int) er) H)
abbrev sRead : Stmt := inClass (top 43) 4
theorem scRead : FnScope ["text"] ["text"] (defScope sRead) := ⟨rfl, rfl, rfl, by decide +kernel, rfl, by decide +kernel, by decide +kernel⟩
theorem ok_read {C f fN : Addr} {fd fdN : FuncData} {e : ErA} (F : Fun K "read" "Schema.read" sRead f fd) (T : TRd mg C)
    (M_Schema : Mk K C fN) (I_Schema : FnOk P w K mg base (L2.CX P w) 8 fN fdN ["self", "text"] (spInitS C e)) (bI_Schema : Binds K fdN ["self", "text"] []) :
    FnOk P w K mg base (L2.CX P w) 10 f fd ["text"] (spRead C e) := by
  refine F.okX scRead (fun vs H Q E h => ?_) (fun cdv A' outer s H vs Q E hr h => ?_)
  · obtain ⟨tx, rfl, _⟩ := h
    rfl
  · obtain ⟨tx, rfl, ok, k1, k2⟩ := h
    have hr_Schema : Room (8 + 1) _ := hr
    refine ⟨_, (pss_one (ps_ret (pe_make M_Schema I_Schema hr_Schema (by rfl) T.g_Schema bI_Schema .nil (passes_call (takes_of rfl rfl rfl rfl) (fun _ _ _ _ h => h)) (pa_cons (pv 0) pa_nil)))), ?_⟩
    refine w_ret (w_cons (w_ev (ev_var rfl) fun H1 e1 => w_nil (fun x dx hx hdx ne => ?_)))
    have eN : Ex H1 (upd (upd H1 dx (.own x)) x (.ins C dx [])) := (Ex.new hdx).trans (Ex.new (by rw [upd_ne ne.symm]; exact hx))
    have back : ∀ {H' : Hp}, Fr [x] (upd (upd H1 dx (.own x)) x (.ins C dx [])) H' → Ex H H' := fun {H'} f b u hb => f b u (eN _ _ (e1 _ _ hb)) (fun z => by
      obtain rfl : b = x := by simpa using z
      rw [e1 _ _ hb] at hx
      cases hx)
    refine ⟨x, dx, tx, rfl, upd_same, ok, fun s' hs H' A rs ea et f SA' htb wf few new => ⟨rfl, ?_⟩, fun er k h => ?_⟩
    · subst ea
      exact k1 s' hs H' A rs et (fresh_back e1 hx) (back f) SA' htb wf few ⟨fun b hb => fresh_back (e1.trans eN) (new.m b hb), fun r hr => fresh_back (e1.trans eN) (new.c r hr)⟩
    · intro d l H' hd f hl hq
      refine k2 er k h d l H' (fresh_back (e1.trans eN) hd) (Fr.of (back f)) hl hq
end
end My

namespace My
open PySem PySem.Spec PyProof.Rows L2 Evl
/-! ### what the law is told of an error -/
def erWord : Er → Str
  | .bad => "BadLine"
  | .dup _ => "DuplicateName"
  | .unk _ => "UnknownName"
  | .many => "TooMany"
def erTup (line : Int) : Er → List V
  | .bad => [.str "BadLine", .int line]
  | .dup n => [.str "DuplicateName", .int line, .str n]
  | .unk n => [.str "UnknownName", .int line, .str n]
  | .many => [.str "TooMany", .int line]
/-- what is written of the four classes -/
structure ErOk (K : PySem.W.Frag) (AE : Addr) (C : Addr) : Prop where
  xf : XfC K C
  xc : ExcC K C
  kA : PySem.W.kitOne K (.ref C) (.ref AE) = some true
  nl : PySem.W.findIn K (.ref C) "line" = some none
  nn : PySem.W.findIn K (.ref C) "name" = some none
def spNamed (e : ErA) : SpE := fun a C d vs H Q _ => ∃ (er : Er) (line : Int) (l : List (Str × V)), vs = [.ref a, .str (erWord er)] ∧ C = e.cls er ∧ H d = some (.xd l) ∧ (∀ q ∈ erFs line er, l.lookup q.1 = some q.2) ∧
  ∀ p H', H p = none → Ex H H' → H' p = some (.tup (erTup line er)) → Q (.ref p) H'
abbrev sNamed : Stmt := top 47
theorem scNamed : FnScope ["error", "word"] ["error", "word"] (defScope sNamed) := ⟨rfl, rfl, rfl, by decide +kernel, rfl, by decide +kernel, by decide +kernel⟩
structure TNm (mg : Str → Option Value) (AE : Addr) : Prop where
  n_isinstance : mg "isinstance" = none
  n_int : mg "int" = none
  n_bool : mg "bool" = none
structure TXm (mg : Str → Option Value) (AE : Addr) : Prop where
  g_AgreeError : mg "AgreeError" = some (.ref AE)
section
variable {K : PySem.W.Frag} {CU a dd : Addr} {σ : L2.St} {H : Hp} {te : TE} {f : Str} {v : V} {fs : List (Str × V)}
theorem ev_xf2 (h : Ev te σ H (.ref a)) (hd : H dd = some (.xd fs)) (l : fs.lookup f = some v) : Ev (tXf a (.ref CU) (some dd) CU f te) σ H v := fun H1 e Q q =>
  h H1 e _ fun H2 e2 => ⟨rfl, rfl, dd, fs, v, rfl, (e.trans e2) _ _ hd, l, q H2 e2⟩
theorem ev_isE2 {c : V} {cv : Value} {b : Bool} (h : Ev te σ H (.ref a)) (C : ExcC K CU) (hd : H dd = some (.xd fs)) (hc : ClsV c cv) (k : PySem.W.kitOne K (.ref CU) cv = some b) : Ev (tCB (rIsE2 K a (.ref CU) (some dd)) (tCons te (tCons (tC c) tNil))) σ H (.bl b) := fun H1 e Q q =>
  h H1 e _ fun H2 e2 => ⟨CU, dd, c, cv, b, fs, rfl, rfl, C, rfl, hc, (e.trans e2) _ _ hd, k, q H2 e2⟩
end
theorem er_line {line : Int} {er : Er} : (("line" : Str), V.int line) ∈ erFs line er := by cases er <;> exact List.mem_cons_self ..
section
variable {P : Program} {w : World} {K : PySem.W.Frag} {mg : Str → Option Value} {base : Heap}
theorem ok_named {f AE : Addr} {fd : FuncData} {e : ErA} (F : Fun K "_law_get_named" "_law_get_named" sNamed f fd) (T : TNm mg AE) (TX : TXm mg AE) (ok : ∀ er, ErOk K AE (e.cls er)) :
    FnE P w K mg base 2 f fd ["error", "word"] (spNamed e) := by
  refine My.Fun.okE F scNamed (fun a C d vs H Q E h => ?_) (fun cdv A outer s H vs Q E a oe C d hr hz hf h => ?_)
  · obtain ⟨er, line, l, rfl, _⟩ := h
    rfl
  · obtain ⟨er, line, l, rfl, rfl, hd, hl, k⟩ := h
    have okE := ok er
    have XF := okE.xf
    have NO_line := okE.nl
    have NO_name := okE.nn
    have hp : ∀ {X : Cx}, X.pn = [(a, oe)] → (a, oe) ∈ X.pn := fun h => by rw [h]; exact List.mem_cons_self ..
    have hp := hp (X := cxE P w K mg base ["error", "word"] "_law_get_named" (defScope sNamed) f cdv A outer s H E (a, oe)) rfl
    refine ⟨_, (pss_cons (ps_if (PW.pt (pw_or (pt_not (pt_val (pe_callB (call_isEP hp hz hf) (by rfl) T.n_isinstance (by decide +kernel) (pa_cons (pv 0) (pa_cons (pe_cls rfl TX.g_AgreeError) pa_nil))))) (pw_or (pt_not (pt_val (pe_callB (isiK K) (by rfl) T.n_isinstance (by decide +kernel) (pa_cons (pe_xfP XF NO_line hp hz hf (pv 0)) (pa_cons (pe_ty (n := "int") (by rfl) T.n_int (by decide +kernel)) pa_nil))))) (pw_or1 (pt_val (pe_callB (isiK K) (by rfl) T.n_isinstance (by decide +kernel) (pa_cons (pe_xfP XF NO_line hp hz hf (pv 0)) (pa_cons (pe_ty (n := "bool") (by rfl) T.n_bool (by decide +kernel)) pa_nil))))))))
      (pss_one (ps_ret (pe_tup (pa_cons (pv 1) (pa_cons pe_str pa_nil)))))
      pss_nil)
    (pss_cons (ps_if (pt_cmpR (inSeq K) (pv 1) (pe_tup (pa_cons pe_str (pa_cons pe_str (pa_cons pe_str pa_nil)))) (by rfl))
      (pss_one (ps_ret (pe_tup (pa_cons (pv 1) (pa_cons (pe_xfP XF NO_line hp hz hf (pv 0)) pa_nil)))))
      pss_nil)
    (pss_one (ps_ret (pe_tup (pa_cons (pv 1) (pa_cons (pe_xfP XF NO_line hp hz hf (pv 0)) (pa_cons (pe_xfP XF NO_name hp hz hf (pv 0)) pa_nil)))))))), ?_⟩
    have l1 := hl _ er_line
    refine q_when (b := false) (et_or (a := false) (et_not (a := true) (et_B (ev_isE2 (ev_var rfl) okE.xc hd (.own AE) okE.kA))) (fun _ => et_or (a := false) (et_not (a := true) (et_B (ev_isT (T := "int") (ev_xf2 (ev_var rfl) hd l1) (fun H'' e'' => .base (.int line)) (by rfl)))) (fun _ => et_B (ev_isT (T := "int") (ev_xf2 (ev_var rfl) hd l1) (fun H'' e'' => .base (.int line)) (by rfl))))) (fun hb => absurd hb (by decide)) (fun _ H1 e1 => ?_)
    have hd1 := e1 _ _ hd
    have three : EvU (tTup (tCons (tC (.str "BadLine")) (tCons (tC (.str "WrongCount")) (tCons (tC (.str "TooMany")) tNil)))) (L2.start ["error", "word"] [.ref a, .str (erWord er)]) H1 [.str "BadLine", .str "WrongCount", .str "TooMany"] := eu_tup (ea_cons ev_c (ea_cons ev_c (ea_cons ev_c ea_nil))) (by show 3 ≤ 100000; decide)
    have two : ∀ {H2 : Hp}, Ex H1 H2 → EvU (tTup (tCons (tVar 1) (tCons (tXf a (.ref (e.cls er)) (some d) (e.cls er) "line" (tVar 0)) tNil))) (L2.start ["error", "word"] [.ref a, .str (erWord er)]) H2 [.str (erWord er), .int line] := fun {H2} e2 => eu_tup (ea_cons (ev_var rfl) (ea_cons (ev_xf2 (ev_var rfl) (e2 _ _ hd1) l1) ea_nil)) (by show 2 ≤ 100000; decide)
    have thr : ∀ {H2 : Hp} {n : Str}, Ex H1 H2 → l.lookup ("name" : Str) = some (V.str n) → EvU (tTup (tCons (tVar 1) (tCons (tXf a (.ref (e.cls er)) (some d) (e.cls er) "line" (tVar 0)) (tCons (tXf a (.ref (e.cls er)) (some d) (e.cls er) "name" (tVar 0)) tNil)))) (L2.start ["error", "word"] [.ref a, .str (erWord er)]) H2 [.str (erWord er), .int line, .str n] := fun {H2 n} e2 hn => eu_tup (ea_cons (ev_var rfl) (ea_cons (ev_xf2 (ev_var rfl) (e2 _ _ hd1) l1) (ea_cons (ev_xf2 (ev_var rfl) (e2 _ _ hd1) hn) ea_nil))) (by show 3 ≤ 100000; decide)
    refine q_when (b := inV (.str (erWord er)) [.str "BadLine", .str "WrongCount", .str "TooMany"]) (et_test (ev_inU (ev_var rfl) three rfl rfl)) (fun hb H2 e2 => ?_) (fun hb H2 e2 => ?_)
    · refine s_retU (two e2) (fun p H3 hp3 e3 h3 => k p H3 (fresh_back (e1.trans e2) hp3) ((e1.trans e2).trans e3) ?_)
      cases er with
      | bad => exact h3
      | many => exact h3
      | dup n => exact absurd hb ((by decide +kernel : ¬ inV (V.str "DuplicateName") [.str "BadLine", .str "WrongCount", .str "TooMany"] = true))
      | unk n => exact absurd hb ((by decide +kernel : ¬ inV (V.str "UnknownName") [.str "BadLine", .str "WrongCount", .str "TooMany"] = true))
    · cases er with
      | bad => exact absurd hb (by decide +kernel)
      | many => exact absurd hb (by decide +kernel)
      | dup n => exact s_retU (thr e2 (hl ("name", .str n) (List.mem_cons_of_mem _ (List.mem_cons_self ..)))) (fun p H3 hp3 e3 h3 => k p H3 (fresh_back (e1.trans e2) hp3) ((e1.trans e2).trans e3) h3)
      | unk n => exact s_retU (thr e2 (hl ("name", .str n) (List.mem_cons_of_mem _ (List.mem_cons_self ..)))) (fun p H3 hp3 e3 h3 => k p H3 (fresh_back (e1.trans e2) hp3) ((e1.trans e2).trans e3) h3)
/-- the law's reading of a text, and what it is told -/
def spTold (K : PySem.W.Frag) : Sp := fun vs H Q _ => ∃ tx : Str, vs = [.str tx] ∧ TxOk tx ∧ (∀ s, rdT tx = .inr s → ∀ H', Ex H H' → Q .non H') ∧
  (∀ er (k : Nat), rdT tx = .inl (er, k) → ∀ p H', H p = none → Ex H H' → H' p = some (.tup (erTup (k : Int) er)) → Q (.ref p) H')
structure TTd (mg : Str → Option Value) (C : Addr) (e : ErA) : Prop where
  g_Schema : mg "Schema" = some (.ref C)
  g_BadLine : mg "BadLine" = some (.ref e.CB)
  g_DuplicateName : mg "DuplicateName" = some (.ref e.CD)
  g_UnknownName : mg "UnknownName" = some (.ref e.CU)
  g_TooMany : mg "TooMany" = some (.ref e.CM)
/-- a clause fits its own class alone -/
structure ErX (K : PySem.W.Frag) (e : ErA) : Prop where
  yes : ∀ er er', e.cls er = e.cls er' → PySem.W.exmOne K (.ref (e.cls er)) (.ref (e.cls er')) = some true
  no : ∀ er er', e.cls er ≠ e.cls er' → PySem.W.exmOne K (.ref (e.cls er)) (.ref (e.cls er')) = some false
  ap : e.CB ≠ e.CD ∧ e.CB ≠ e.CU ∧ e.CB ≠ e.CM ∧ e.CD ≠ e.CU ∧ e.CD ≠ e.CM ∧ e.CU ≠ e.CM
theorem CF.exmK {A D C : Addr} (hD : CF K A D) (hC : CF K A C) (hA : C ≠ A) : PySem.W.exmOne K (.ref D) (.ref C) = some (decide (D = C)) := by
  by_cases z : D = C
  · subst z
    rw [decide_eq_true rfl]
    exact hD.exm
  · have q := hD.kit hC hA
    unfold PySem.W.kitOne at q
    rw [if_neg (by rw [beq_ref z]; exact Bool.false_ne_true)] at q
    unfold PySem.W.exmOne
    rw [hC.sub]
    exact q
theorem w_smS {C : Addr} {sp : Sp} {E : L2.St → XK} {t : TA} {σ : L2.St} {H : Hp} {Q : VK} (k : t σ H fun vs H2 => sp vs H2 Q (E σ)) : tSMethS C sp E (tC (.ref C)) t σ H Q := ⟨rfl, k⟩
end
end My

namespace My
open PySem PySem.Spec PyProof.Rows L2 Evl
/-! ### texts of words -/
/-- no line's end and no space -/
def Pl (w : Str) : Prop := ∀ c ∈ w.cps.toList, c ≠ 10 ∧ c ≠ 32
def rowS (r : List Str) : Str := Txt.join " " r
def txt (rows : List (List Str)) : Str := Txt.join nl (rows.map rowS)
theorem mem_joinL {c : Nat} {S : List Nat} : ∀ {ps : List (List Nat)}, c ∈ TL.joinL S ps → c ∈ S ∨ ∃ p ∈ ps, c ∈ p
  | [], h => by cases h
  | [p], h => .inr ⟨p, List.mem_cons_self .., h⟩
  | p :: q :: r, h => by
    rcases List.mem_append.mp (show c ∈ p ++ (S ++ TL.joinL S (q :: r)) from h) with h | h
    · exact .inr ⟨p, List.mem_cons_self .., h⟩
    · rcases List.mem_append.mp h with h | h
      · exact .inl h
      · rcases mem_joinL h with z | ⟨x, hx, hc⟩
        · exact .inl z
        · exact .inr ⟨x, List.mem_cons_of_mem _ hx, hc⟩
theorem row_no10 {r : List Str} (h : ∀ w ∈ r, Pl w) : 10 ∉ (rowS r).cps.toList := fun z => by
  unfold rowS at z
  rw [TL.join_eq] at z
  have z : 10 ∈ TL.tl (Str.join " " r) := z
  rw [TL.tl_join] at z
  rcases mem_joinL z with q | ⟨p, hp, hc⟩
  · exact absurd q (by decide +kernel)
  · obtain ⟨w, hw, rfl⟩ := List.mem_map.mp hp
    exact (h w hw 10 hc).1 rfl
theorem row_split {r : List Str} (ne : r ≠ []) (h : ∀ w ∈ r, Pl w) : Txt.split (rowS r) " " = r :=
  TL.split_join (y := " ") (s := 32) (S := []) (by decide +kernel) (by decide +kernel) ne fun p hp z => (h p hp 32 z).2 rfl
theorem lines_txt {rows : List (List Str)} (ne : rows ≠ []) (hr : ∀ r ∈ rows, r ≠ [] ∧ ∀ w ∈ r, Pl w) : linesOf (txt rows) = rows := by
  unfold linesOf txt
  rw [TL.split_join (y := nl) (s := 10) (S := []) (by decide +kernel) (by decide +kernel) (by simpa using ne) (fun p hp => by
    obtain ⟨r, h, rfl⟩ := List.mem_map.mp hp
    exact row_no10 (hr r h).2), List.map_map]
  conv => rhs; rw [← List.map_id rows]
  exact List.map_congr_left fun r h => row_split (hr r h).1 (hr r h).2
structure Fit (rows : List (List Str)) : Prop where
  ne : rows ≠ []
  few : rows.length ≤ 100
  ok : ∀ r ∈ rows, r ≠ [] ∧ (r.map (·.length)).sum + r.length ≤ 800 ∧ ∀ w ∈ r, Pl w
theorem row_len {r : List Str} (h : (r.map (·.length)).sum + r.length ≤ 800) : (rowS r).length ≤ 800 := by
  have := join_len " " r
  have e : (" " : Str).length = 1 := rfl
  rw [e] at this
  unfold rowS
  omega
theorem Fit.lines {rows : List (List Str)} (f : Fit rows) : linesOf (txt rows) = rows := lines_txt f.ne fun r h => ⟨(f.ok r h).1, (f.ok r h).2.2⟩
theorem Fit.sum {rows : List (List Str)} (f : Fit rows) : ((rows.map rowS).map (·.length)).sum + (rows.map rowS).length * nl.length ≤ 90000 := by
  have h1 : ∀ x ∈ (rows.map rowS).map (·.length), x ≤ 800 := fun x hx => by
    obtain ⟨y, hy, rfl⟩ := List.mem_map.mp hx
    obtain ⟨r, hr, rfl⟩ := List.mem_map.mp hy
    exact row_len (f.ok r hr).2.1
  have h2 := sum_le h1
  have e : nl.length = 1 := rfl
  have h3 := f.few
  rw [List.length_map, List.length_map] at h2
  rw [List.length_map, e]
  omega
theorem Fit.tx {rows : List (List Str)} (f : Fit rows) : TxOk (txt rows) := by
  have sp : Txt.split (txt rows) nl = rows.map rowS := by
    unfold txt
    exact TL.split_join (y := nl) (s := 10) (S := []) (by decide +kernel) (by decide +kernel) (by simpa using f.ne) (fun p hp => by
      obtain ⟨r, h, rfl⟩ := List.mem_map.mp hp
      exact row_no10 (f.ok r h).2.2)
  refine ⟨?_, ?_, fun l hl => ?_⟩
  · have := join_len nl (rows.map rowS)
    have := f.sum
    unfold txt
    omega
  · rw [sp, List.length_map]
    have := f.few
    omega
  · rw [sp] at hl
    obtain ⟨r, hr, rfl⟩ := List.mem_map.mp hl
    exact row_len (f.ok r hr).2.1
theorem rowS_glue (a b : Str) (r : List Str) : rowS ((a ++ " " ++ b) :: r) = rowS (a :: b :: r) := by
  unfold rowS
  rw [TL.join_eq, TL.join_eq]
  cases r with
  | nil => rfl
  | cons c r =>
    show (a ++ " " ++ b) ++ " " ++ Str.join " " (c :: r) = a ++ " " ++ (b ++ " " ++ Str.join " " (c :: r))
    apply TL.ext_tl
    simp only [TL.tl_append, List.append_assoc]
theorem rd_cons (N : Str → Bool) (k : Nat) (s : Sm) (w : List Str) (r : List (List Str)) : rd N k s (w :: r) = match rl N s w with
    | .inl e => .inl (e, k)
    | .inr s' => rd N (k + 1) s' r := by rfl
theorem dupIn_cons (pre : List Str) (c : Str) (r : List Str) : dupIn pre (c :: r) = if c ∈ pre then some c else dupIn (pre ++ [c]) r := by rfl
theorem rd_app (N : Str → Bool) : ∀ (a b : List (List Str)) (k : Nat) (s : Sm), rd N k s (a ++ b) = match rd N k s a with
    | .inl e => .inl e
    | .inr s' => rd N (k + a.length) s' b
  | [], b, k, s => rfl
  | w :: a, b, k, s => by
    show rd N k s (w :: (a ++ b)) = _
    rw [rd_cons, rd_cons]
    cases rl N s w with
    | inl e => rfl
    | inr s' =>
      dsimp only
      rw [rd_app N a b (k + 1) s']
      have e : k + (w :: a).length = k + 1 + a.length := by rw [List.length_cons]; omega
      rw [e]
/-! ### names -/
theorem name_pl {n : Nat} {w : Str} (h : IsName n w) : Pl w := fun c hc => by
  have q := h.sg c hc
  have a : ∀ c ∈ sgL, c ≠ 10 ∧ c ≠ 32 := by decide +kernel
  exact a c q
theorem name_is {n : Nat} {w : Str} (h : IsName n w) (hn : n ≤ 12) : isNm w = true := by
  have h1 := h.pos
  have h2 := h.le
  have v : isVal w = true := by
    unfold isVal
    rw [Bool.and_eq_true, Bool.and_eq_true]
    exact ⟨⟨decide_eq_true (by omega), decide_eq_true (by omega)⟩, List.all_eq_true.mpr fun c hc => decide_eq_true (h.sg c hc)⟩
  unfold isNm
  rw [v, Bool.true_and, Bool.and_eq_true]
  refine ⟨decide_eq_true (by omega), decide_eq_true ?_⟩
  cases e : w.cps.toList with
  | nil =>
    have : w.length = 0 := by
      have := congrArg List.length e
      simpa [Str.length] using this
    omega
  | cons c t => exact h.hd c (by rw [e]; rfl)
theorem pl_root : Pl "root" := by
  have : ∀ c ∈ (Str.ofString "root").cps.toList, c ≠ 10 ∧ c ≠ 32 := by decide +kernel
  exact this
theorem pl_table : Pl "table" := by
  have : ∀ c ∈ (Str.ofString "table").cps.toList, c ≠ 10 ∧ c ≠ 32 := by decide +kernel
  exact this
theorem dupIn_none : ∀ (pre cols : List Str), (pre ++ cols).Nodup → dupIn pre cols = none
  | _, [], _ => rfl
  | pre, c :: r, h => by
    rw [dupIn_cons, if_neg (fun z => (List.nodup_append.mp h).2.2 c z c (List.mem_cons_self ..) rfl)]
    exact dupIn_none (pre ++ [c]) r (by rw [List.append_assoc]; exact h)
theorem dupIn_last {pre cols : List Str} {c : Str} (h : (pre ++ cols).Nodup) (hc : c ∈ pre ++ cols) : dupIn pre (cols ++ [c]) = some c := by
  induction cols generalizing pre with
  | nil =>
    rw [List.nil_append, dupIn_cons, if_pos (by simpa using hc)]
  | cons d r ih =>
    rw [List.cons_append, dupIn_cons, if_neg (fun z => (List.nodup_append.mp h).2.2 d z d (List.mem_cons_self ..) rfl)]
    exact ih (by rw [List.append_assoc]; exact h) (by rw [List.append_assoc]; exact hc)
end My

namespace My
open PySem PySem.Spec PyProof.Rows L2 Evl
/-! ### columns drawn -/
def colsN (ws : List Str) (f n : Nat) : List Str := (List.range n).map fun c => ws.getD ((f + c) % 12) ""
theorem getD_lt {ws : List Str} {k : Nat} (h : k < ws.length) : ws.getD k "" = ws[k] := by rw [List.getD_eq_getElem?_getD, List.getElem?_eq_getElem h]; rfl
theorem getD_mem {ws : List Str} {k : Nat} (h : k < ws.length) : ws.getD k "" ∈ ws := by rw [getD_lt h]; exact List.getElem_mem h
theorem getD_inj {ws : List Str} (nd : ws.Nodup) {i j : Nat} (hi : i < ws.length) (hj : j < ws.length) (h : ws.getD i "" = ws.getD j "") : i = j := by
  rw [getD_lt hi, getD_lt hj] at h
  exact (List.getElem_inj nd).mp h
theorem cols_mem {ws : List Str} {f n : Nat} (l : ws.length = 12) : ∀ x ∈ colsN ws f n, x ∈ ws := fun x hx => by
  obtain ⟨c, _, rfl⟩ := List.mem_map.mp hx
  exact getD_mem (by rw [l]; exact Nat.mod_lt _ (by decide))
theorem cols_nd {ws : List Str} {f n : Nat} (l : ws.length = 12) (nd : ws.Nodup) (h : n ≤ 12) : (colsN ws f n).Nodup := by
  unfold colsN
  rw [List.nodup_iff_pairwise_ne, List.pairwise_map]
  refine List.Pairwise.imp_of_mem ?_ (List.nodup_iff_pairwise_ne.mp List.nodup_range)
  intro a b ha hb hab e
  have ha := List.mem_range.mp ha
  have hb := List.mem_range.mp hb
  have := getD_inj nd (by rw [l]; exact Nat.mod_lt _ (by decide)) (by rw [l]; exact Nat.mod_lt _ (by decide)) e
  omega
theorem cols_len {ws : List Str} {f n : Nat} : (colsN ws f n).length = n := by unfold colsN; rw [List.length_map, List.length_range]
def spCols : Sp := fun vs H Q _ => ∃ (st l nm : Addr) (ws : List Str) (n : Nat), vs = [.ref st, .ref nm, .int (n : Int)] ∧ StAt H st l ∧ H nm = some (.lst (ws.map V.str)) ∧ nm ≠ st ∧ nm ≠ l ∧ ws.length = 12 ∧ n ≤ 12 ∧
  ∀ (f : Nat) (p : Addr) (H' : Hp), Ext st l H H' → StAt H' st l → H p = none → H' p = some (.lst ((colsN ws f n).map V.str)) → Q (.ref p) H'
section
variable {P : Program} {w : World} {K : PySem.W.Frag} {mg : Str → Option Value} {base : Heap}
end
/-! ### lines that name tables -/
theorem rl_root {s : Sm} {n : Str} {c : List Str} (hn : isNm n = true) (hc : c.all isNm = true) (ne : c ≠ []) : rl isNm s ("root" :: n :: c) = rlTable s n none c := by
  obtain ⟨x, t, rfl⟩ : ∃ x t, c = x :: t := by
    cases c with
    | nil => exact absurd rfl ne
    | cons x t => exact ⟨x, t, rfl⟩
  have h : formOk isNm ("root" :: n :: x :: t) = true := by
    unfold formOk
    rw [if_pos (show (("root" : Str) :: n :: x :: t).headD "" = ("root" : Str) from rfl), Bool.and_eq_true]
    refine ⟨decide_eq_true (by simp), ?_⟩
    show (isNm n && (x :: t).all isNm) = true
    rw [hn, hc]
    rfl
  unfold rl
  rw [if_pos h]
  rfl
theorem rl_table {s : Sm} {n p : Str} {c : List Str} (hn : isNm n = true) (hp : isNm p = true) (hc : c.all isNm = true) (ne : c ≠ []) : rl isNm s ("table" :: n :: p :: c) = rlTable s n (some p) c := by
  obtain ⟨x, t, rfl⟩ : ∃ x t, c = x :: t := by
    cases c with
    | nil => exact absurd rfl ne
    | cons x t => exact ⟨x, t, rfl⟩
  have nr : ¬ ("table" : Str) = "root" := by decide +kernel
  have h : formOk isNm ("table" :: n :: p :: x :: t) = true := by
    unfold formOk
    rw [if_neg (by show ¬ ("table" : Str) = "root"; exact nr), if_pos (show (("table" : Str) :: n :: p :: x :: t).headD "" = ("table" : Str) from rfl), Bool.and_eq_true]
    refine ⟨decide_eq_true (by simp), ?_⟩
    show (isNm n && (isNm p && (x :: t).all isNm)) = true
    rw [hn, hp, hc]
    rfl
  unfold rl
  rw [if_pos h]
  unfold rlOf
  rw [if_neg (by show ¬ ("table" : Str) = "root"; exact nr), if_pos (show (("table" : Str) :: n :: p :: x :: t).headD "" = ("table" : Str) from rfl)]
  rfl
end My

namespace My
open PySem PySem.Spec PyProof.Rows L2 Evl
/-! ### what the laws of schemas share -/
structure TM (K : PySem.W.Frag) (mg : Str → Option Value) (x : Str) (ps : List Str) (f : Addr) (fd : FuncData) : Prop where
  m : mg x = some (.ref f)
  k : PySem.W.keepIn K (.ref f) = true
  b : Binds K fd ps []
/-! ### helpers -/
theorem w_lst {t : TA} {σ : L2.St} {H : Hp} {Q : VK} (h : t σ H fun xs H1 => xs.length ≤ sizeLine ∧ ∀ p, H1 p = none → Q (.ref p) (upd H1 p (.lst xs))) : tLst t σ H Q := h
section
variable {K : PySem.W.Frag} {σ : L2.St} {H H' : Hp} {te to : TE} {E : XK} {tx : Str}
theorem ev_told (h : Ev te σ H (.str tx)) (ok : TxOk tx) {s : Sm} (hs : rdT tx = .inr s) : Ev (tCall (spTold K) [] E (tCons te tNil)) σ H .non := fun H1 e Q q =>
  h H1 e _ fun H2 e2 => ⟨tx, rfl, ok, fun _ _ H' e3 => q H' (e2.trans e3), (fun er k z => by rw [hs] at z; cases z)⟩
theorem eu_told (h : Ev te σ H (.str tx)) (ok : TxOk tx) {er : Er} {k : Nat} (hs : rdT tx = .inl (er, k)) : EvU (tCall (spTold K) [] E (tCons te tNil)) σ H (erTup (k : Int) er) := fun H1 e Q q =>
  h H1 e _ fun H2 e2 => ⟨tx, rfl, ok, (fun s z => by rw [hs] at z; cases z), fun er' k' z p H' hp e3 h3 => by
    rw [hs] at z
    cases z
    exact q p H' (fresh_back e2 hp) (e2.trans e3) h3⟩
end
theorem w_appS {K : PySem.W.Frag} {ta te : TE} {D : Ends} {σ : L2.St} {H : Hp} {l : Addr} {xs : List V} (hl : H l = some (.lst xs)) (ha : Ev ta σ H (.ref l))
    (h : ∀ H1, Ex H H1 → te σ H1 fun v H2 => ∃ l' ys v', V.ref l = .ref l' ∧ [v] = [v'] ∧ H2 l' = some (.lst ys) ∧ ys.length < sizeLine ∧ D.nx σ (upd H2 l' (.lst (ys ++ [v'])))) : tDrop (tBM K "list" rAppend ta (tCons te tNil)) D σ H :=
  ha H (Ex.refl H) _ fun H1 e1 => by
    refine ⟨Or.inl ⟨rfl, xs, sq_of (e1 l _ hl)⟩, ?_⟩
    exact h H1 e1
/-- the words ahead of the columns -/
def hdP (n : Str) : Option Str → List Str
  | none => ["root", n]
  | some p => ["table", n, p]
theorem rl_head {s : Sm} {n : Str} {par : Option Str} {c : List Str} (hn : isNm n = true) (hp : ∀ p, par = some p → isNm p = true) (hc : c.all isNm = true) (ne : c ≠ []) : rl isNm s (hdP n par ++ c) = rlTable s n par c := by
  cases par with
  | none => exact rl_root hn hc ne
  | some p => exact rl_table hn (hp p rfl) hc ne
structure Wsx (ws : List Str) : Prop where
  len : ws.length = 12
  nd : ws.Nodup
  ok : ∀ w ∈ ws, IsName 12 w
theorem Wsx.nm {ws : List Str} (w : Wsx ws) {i : Nat} (h : i < 12) : isNm (ws.getD i "") = true := name_is (w.ok _ (getD_mem (by rw [w.len]; exact h))) (by decide)
theorem Wsx.pl {ws : List Str} (w : Wsx ws) {x : Str} (h : x ∈ ws) : Pl x ∧ x.length ≤ 12 := ⟨name_pl (w.ok x h), (w.ok x h).le⟩
theorem hd_pl {ws : List Str} (w : Wsx ws) {n : Str} {par : Option Str} (hn : n ∈ ws) (hp : ∀ p, par = some p → p ∈ ws) : (∀ x ∈ hdP n par, Pl x ∧ x.length ≤ 12) ∧ (hdP n par).length ≤ 3 := by
  cases par with
  | none =>
    refine ⟨fun x hx => ?_, by show 2 ≤ 3; decide⟩
    rcases List.mem_cons.mp hx with rfl | hx
    · exact ⟨pl_root, by decide +kernel⟩
    · obtain rfl : x = n := by simpa using hx
      exact w.pl hn
  | some p =>
    refine ⟨fun x hx => ?_, by show 3 ≤ 3; decide⟩
    rcases List.mem_cons.mp hx with rfl | hx
    · exact ⟨pl_table, by decide +kernel⟩
    · rcases List.mem_cons.mp hx with rfl | hx
      · exact w.pl hn
      · obtain rfl : x = p := by simpa using hx
        exact w.pl (hp _ rfl)
def headS (n : Str) : Option Str → Str
  | none => "root " ++ n
  | some p => "table " ++ n ++ " " ++ p
theorem head_row (n : Str) (par : Option Str) (c : List Str) : rowS (headS n par :: c) = rowS (hdP n par ++ c) := by
  have r : ("root " : Str) = "root" ++ " " := by decide +kernel
  have t : ("table " : Str) = "table" ++ " " := by decide +kernel
  cases par with
  | none =>
    unfold headS hdP
    rw [r, rowS_glue]
    rfl
  | some p =>
    unfold headS hdP
    rw [t, rowS_glue, rowS_glue]
    rfl
theorem name_ok {n : Nat} {w : Str} (h : IsName n w) : PyData.strOk w = true := by
  unfold PyData.strOk
  rw [Array.all_eq_true']
  intro c hc
  have q := h.sg c (Array.mem_toList_iff.mpr hc)
  have a : ∀ c ∈ sgL, decide (c < 0x110000) = true := by decide +kernel
  exact a c q
theorem st_upd {st l p : Addr} {H : Hp} {o : HO} (S : StAt H st l) (h : p ≠ st ∧ p ≠ l) : StAt (upd H p o) st l := by
  obtain ⟨n, cs, b, c, d, h1, h2, h3⟩ := S
  exact ⟨n, cs, b, c, d, by rw [upd_ne h.1.symm]; exact h1, by rw [upd_ne h.2.symm]; exact h2, h3⟩
section
variable {σ : L2.St} {H : Hp} {ta tb : TE} {K : PySem.W.Frag}
theorem el_catLL {xs zs : List V} (ha : EvL ta σ H xs) (hb : EvL tb σ H zs) (hz : xs.length + zs.length ≤ 100000) : EvL (tOp rCat ta tb) σ H (xs ++ zs) := fun H1 e Q q =>
  ha H1 e _ fun a H2 _ e2 h2 => hb H2 (e.trans e2) _ fun b H3 _ e3 h3 => ⟨a, b, xs, zs, rfl, rfl, e3 _ _ h2, h3, sz_of hz, fun p hp => q p _ (fresh_back (e2.trans e3) hp) ((e2.trans e3).trans (Ex.new hp)) upd_same⟩
theorem el_catLV {xs zs : List V} {b : Addr} (ha : EvL ta σ H xs) (hb : Ev tb σ H (.ref b)) (h : H b = some (.lst zs)) (hz : xs.length + zs.length ≤ 100000) : EvL (tOp rCat ta tb) σ H (xs ++ zs) := fun H1 e Q q =>
  ha H1 e _ fun a H2 _ e2 h2 => hb H2 (e.trans e2) _ fun H3 e3 => ⟨a, b, xs, zs, rfl, rfl, e3 _ _ h2, ((e.trans e2).trans e3) _ _ h, sz_of hz, fun p hp => q p _ (fresh_back (e2.trans e3) hp) ((e2.trans e3).trans (Ex.new hp)) upd_same⟩
theorem ev_isNonU {xs : List V} (h : EvU ta σ H xs) : Ev (tOp (fun x y H Q => y = V.non ∧ Q (.bl (decide (x = V.non))) H) ta (tC .non)) σ H (.bl false) := fun H1 e Q q =>
  h H1 e _ fun p H2 _ e2 _ => ⟨rfl, q H2 e2⟩
theorem ev_isNon (h : Ev ta σ H .non) : Ev (tOp (fun x y H Q => y = V.non ∧ Q (.bl (decide (x = V.non))) H) ta (tC .non)) σ H (.bl true) := fun H1 e Q q =>
  h H1 e _ fun H2 e2 => ⟨rfl, q H2 e2⟩
end
theorem ev_add {H : Hp} {σ : L2.St} {ta tb : TE} {x y : Str} (ha : Ev ta σ H (.str x)) (hb : Ev tb σ H (.str y)) (h : x.length + y.length ≤ 1000) : Ev (tOp (fun x y H Q => ∃ i j, x = .str i ∧ y = .str j ∧ i.length + j.length ≤ sizeLine ∧ Q (.str (i ++ j)) H) ta tb) σ H (.str (x ++ y)) :=
  ev_op ha hb (rv_val fun H1 _ Q q => ⟨x, y, rfl, rfl, sz_of (by omega), q⟩)
theorem sh_dup {x : Int} {a b : Str} (h1 : PyData.strOk a = true) (h2 : PyData.strOk b = true) : SeqAt.shaped (.tuple [PyData.str a, .int x, .str b]) = true := by
  unfold SeqAt.shaped
  simp [PyData.canLay0, PyData.canLayAll0, PyData.depth, PyData.depthAll, h1, h2]
theorem eq_dup {x : Int} {a b : Str} (h1 : PyData.strOk a = true) (h2 : PyData.strOk b = true) : PyData.eqv (.tuple [PyData.str a, .int x, .str b]) (.tuple [PyData.str a, .int x, .str b]) = true :=
  SeqAt.eqv_refl _ (by simp [PyData.canLay0, PyData.canLayAll0, h1, h2])
theorem cutV_over (xs : List V) (k : Nat) (h : xs.length ≤ k) : cutV xs none (some (k : Int)) = xs := by
  unfold cutV
  have e1 : HT.sIx xs.length 0 none = 0 := rfl
  have e2 : HT.sIx xs.length xs.length (some (k : Int)) = xs.length := by unfold HT.sIx; dsimp only; split <;> omega
  rw [e1, e2]
  simp
end My

namespace My
open PySem PySem.Spec PyProof.Rows L2 Evl
/-! ### what a schema tells -/
abbrev sMCols : Stmt := inClass (top 43) 6
theorem scMCols : FnScope ["self", "table"] ["self", "table"] (defScope sMCols) := ⟨rfl, rfl, rfl, by decide +kernel, rfl, by decide +kernel, by decide +kernel⟩
abbrev sMPar : Stmt := inClass (top 43) 7
theorem scMPar : FnScope ["self", "table"] ["self", "table"] (defScope sMPar) := ⟨rfl, rfl, rfl, by decide +kernel, rfl, by decide +kernel, by decide +kernel⟩
abbrev sMTab : Stmt := inClass (top 43) 5
theorem scMTab : FnScope ["self"] ["self"] (defScope sMTab) := ⟨rfl, rfl, rfl, by decide +kernel, rfl, by decide +kernel, by decide +kernel⟩
def spMCols (C : Addr) (e : ErA) : Sp := fun vs H Q E => ∃ (A : Ad) (rs : List Row) (ow : List (Str × Str)) (n : Str), vs = [.ref A.a, .str n] ∧ SA C H A rs ow ∧
  (∀ r, findR rs n = some r → ∀ p H', H p = none → Ex H H' → H' p = some (.lst (r.t.cols.map V.str)) → Q (.ref p) H') ∧ (known (tbs rs) n = false → Rz [] E (e.cls (.unk n)) (erFs 0 (.unk n)) H)
def spMPar (C : Addr) (e : ErA) : Sp := fun vs H Q E => ∃ (A : Ad) (rs : List Row) (ow : List (Str × Str)) (n : Str), vs = [.ref A.a, .str n] ∧ SA C H A rs ow ∧
  (∀ r, findR rs n = some r → ∀ H', Ex H H' → Q (parV r.t.par) H') ∧ (known (tbs rs) n = false → Rz [] E (e.cls (.unk n)) (erFs 0 (.unk n)) H)
def spMTab (C : Addr) : Sp := fun vs H Q _ => ∃ (A : Ad) (rs : List Row) (ow : List (Str × Str)), vs = [.ref A.a] ∧ SA C H A rs ow ∧
  ∀ p H', H p = none → Ex H H' → H' p = some (.lst (((tbs rs).map (·.nm)).map V.str)) → Q (.ref p) H'
structure TMl (mg : Str → Option Value) : Prop where
  n_list : mg "list" = none
section
variable {P : Program} {w : World} {K : PySem.W.Frag} {mg : Str → Option Value} {base : Heap}
theorem findR_ex {rs : List Row} {n : Str} {b : Bool} (hb : known (tbs rs) n = b) (h : b = true) : ∃ r, findR rs n = some r := by
  subst h
  obtain ⟨r, hr, _⟩ := findR_of hb
  exact ⟨r, hr⟩
theorem ok_mcols {C f fK : Addr} {fd fdK : FuncData} {e : ErA} (F : Fun K "columns" "Schema.columns" sMCols f fd) (TC : TS0 K C) (T : TMl mg)
    (M_Schema__check_known : Meth K C "_check_known" fK) (G_Schema__check_known : FnOk P w K mg base (L2.CX P w) 3 fK fdK ["self", "line", "table"] (spKnown C e)) (b_Schema__check_known : Binds K fdK ["self", "line", "table"] []) :
    FnOk P w K mg base (L2.CX P w) 4 f fd ["self", "table"] (spMCols C e) := by
  refine F.okX scMCols (fun vs H Q E h => ?_) (fun cdv A' outer s H vs Q E hr h => ?_)
  · obtain ⟨A, rs, ow, n, rfl, _⟩ := h
    rfl
  · obtain ⟨A, rs, ow, n, rfl, S, k1, k2⟩ := h
    have hr_Schema__check_known : Room 3 _ := hr
    have hu := hu_of hr
    refine ⟨_, (pss_cons (ps_expr (pe_meth (pv 0) TC.cl M_Schema__check_known G_Schema__check_known hr_Schema__check_known b_Schema__check_known .nil (passes_call (takes_of rfl rfl rfl rfl) (fun _ _ _ _ h => h)) (pa_cons pe_int (pa_cons (pv 1) pa_nil))))
    (pss_one (ps_ret (pe_callTy (listOf K) (by rfl) T.n_list (by decide +kernel) (pa_cons (pe_dget hu (fldK K (pv 0)) (pv 1) (fun _ _ => rfl)) pa_nil))))), ?_⟩
    refine w_seq (w_drop (w_methS (ev_var rfl) S (fun _ _ _ _ _ => rfl) (fun H1 e1 => w_cons (w_ev ev_c fun H2 e2 => w_cons (w_ev (ev_var rfl) fun H3 e3 => w_nil ⟨A, rs, ow, 0, n, rfl, S.ex ((e1.trans e2).trans e3), fun kn H4 e4 => ?_, fun kn => (k2 kn).ex ((e1.trans e2).trans e3)⟩)))))
    obtain ⟨r, hr', hm, en⟩ := findR_of kn
    have e04 := ((e1.trans e2).trans e3).trans e4
    have S4 := S.ex e04
    dsimp only
    exact s_retL (el_listA (ev_rowCol TC S4 hr' (ev_var rfl) (ev_var rfl)) (.inl (SqL.of (S4.cs r hm)))) (fun p H5 hp e5 h5 => k1 r hr' p H5 (fresh_back e04 hp) (e04.trans e5) h5)
theorem ok_mpar {C f fK : Addr} {fd fdK : FuncData} {e : ErA} (F : Fun K "parent_of" "Schema.parent_of" sMPar f fd) (TC : TS0 K C)
    (M_Schema__check_known : Meth K C "_check_known" fK) (G_Schema__check_known : FnOk P w K mg base (L2.CX P w) 3 fK fdK ["self", "line", "table"] (spKnown C e)) (b_Schema__check_known : Binds K fdK ["self", "line", "table"] []) :
    FnOk P w K mg base (L2.CX P w) 4 f fd ["self", "table"] (spMPar C e) := by
  refine F.okX scMPar (fun vs H Q E h => ?_) (fun cdv A' outer s H vs Q E hr h => ?_)
  · obtain ⟨A, rs, ow, n, rfl, _⟩ := h
    rfl
  · obtain ⟨A, rs, ow, n, rfl, S, k1, k2⟩ := h
    have hr_Schema__check_known : Room 3 _ := hr
    have hu := hu_of hr
    refine ⟨_, (pss_cons (ps_expr (pe_meth (pv 0) TC.cl M_Schema__check_known G_Schema__check_known hr_Schema__check_known b_Schema__check_known .nil (passes_call (takes_of rfl rfl rfl rfl) (fun _ _ _ _ h => h)) (pa_cons pe_int (pa_cons (pv 1) pa_nil))))
    (pss_one (ps_ret (pe_dget hu (fldK K (pv 0)) (pv 1) (fun _ _ => rfl))))), ?_⟩
    refine w_seq (w_drop (w_methS (ev_var rfl) S (fun _ _ _ _ _ => rfl) (fun H1 e1 => w_cons (w_ev ev_c fun H2 e2 => w_cons (w_ev (ev_var rfl) fun H3 e3 => w_nil ⟨A, rs, ow, 0, n, rfl, S.ex ((e1.trans e2).trans e3), fun kn H4 e4 => ?_, fun kn => (k2 kn).ex ((e1.trans e2).trans e3)⟩)))))
    obtain ⟨r, hr', hm, en⟩ := findR_of kn
    have e04 := ((e1.trans e2).trans e3).trans e4
    dsimp only
    exact s_ret (ev_rowPar TC (S.ex e04) hr' (ev_var rfl) (ev_var rfl)) (fun H5 e5 => k1 r hr' H5 (e04.trans e5))
theorem ok_mtab {C f : Addr} {fd : FuncData} (F : Fun K "tables" "Schema.tables" sMTab f fd) (TC : TS0 K C) (T : TMl mg) :
    FnOk P w K mg base CX0 1 f fd ["self"] (spMTab C) := by
  refine F.ok scMTab (fun vs H Q E h => ?_) (fun cdv A' outer s H vs Q E hr h => ?_)
  · obtain ⟨A, rs, ow, rfl, _⟩ := h
    rfl
  · obtain ⟨A, rs, ow, rfl, S, k⟩ := h
    refine ⟨_, (pss_one (ps_ret (pe_callTy (call_listD rfl) (by rfl) T.n_list (by decide +kernel) (pa_cons (fldK K (pv 0)) pa_nil)))), ?_⟩
    refine w_ret (w_cb (w_cons (w_ev (ev_sCol TC S (ev_var rfl)) fun H1 e1 => w_nil ⟨A.c, _, rfl, .inl (e1 _ _ S.hc), fun p hp => ?_⟩)))
    refine k p _ (fresh_back e1 hp) (e1.trans (Ex.new hp)) ?_
    rw [upd_same]
    unfold kvR
    rw [List.map_map, List.map_map, List.map_map]
    rfl
end
end My

namespace My
open PySem PySem.Spec PyProof.Rows L2 Evl
/-! ### what reading a handler does, line by line -/
inductive HE where
  | bad
  | dup (n : Str)
  | unk (n : Str)
  | tab (n : Str)
  | cnt
  | many
structure Sc where
  rows : List (Str × Str)
  news : List (Str × Str)
  vals : List Str
structure Dd where
  kind : Str
  row : Str
  table : Str
  under : Option Str
  col : Option Str
  terms : List Str
structure Hs where
  nm : Str
  sc : Sc
  needs : List (Str × Str)
  dl : List Str
  dd : List Dd
def fstOf (xs : List (Str × Str)) (n : Str) : Option Str := (xs.find? fun x => decide (x.1 = n)).map (·.2)
def ckNew (s : Sc) (n : Str) : Bool := decide (n = "me") || (decide (n ∈ s.vals) || (decide (n ∈ s.rows.map (·.1)) || decide (n ∈ s.news.map (·.1))))
def tabOf (s : Sc) (n : Str) : Option Str := fstOf s.rows n
def tabAny (s : Sc) (n : Str) : Option Str := match fstOf s.news n with
  | some t => some t
  | none => fstOf s.rows n
def tmPlain (s : Sc) (t : Str) : Bool := decide (t = "me") || (decide (t ∈ s.vals) || isCon t)
def ckTerm (tb : List Tb) (s : Sc) (t : Str) : Option HE :=
  if tmPlain s t = true then none else
  match tabOf s ((dotS t).headD "") with
  | none => some (.unk ((dotS t).headD ""))
  | some b => if (dotS t).tail = [] then some (.unk ((dotS t).headD "")) else (posErr tb b (dotS t).tail).map .unk
def ckTerms (tb : List Tb) (s : Sc) : List Str → Option HE
  | [] => none
  | t :: r => match ckTerm tb s t with
    | some e => some e
    | none => ckTerms tb s r
def ckUnder (tb : List Tb) (s : Sc) (table under : Str) : Option HE := match tabAny s under with
  | none => some (.unk under)
  | some t => if parOf tb table = some t then none else some (.tab under)
def colsOf (tb : List Tb) (n : Str) : List Str := ((findT tb n).map (·.cols)).getD []
def ckFit (tb : List Tb) (s : Sc) (table : Str) : Option Str → Option HE
  | some u => ckUnder tb s table u
  | none => if parOf tb table = none then none else some (.tab table)
def rdNew (tb : List Tb) (s : Sc) (n table : Str) (under : Option Str) (terms : List Str) : HE ⊕ Sc :=
  if ckNew s n = true then .inl (.dup n) else
  if known tb table = false then .inl (.unk table) else
  match under.bind fun u => if (tabAny s u).isSome = true then none else some u with
  | some u => .inl (.unk u)
  | none => match ckTerms tb s terms with
    | some e => .inl e
    | none => match ckFit tb s table under with
      | some e => .inl e
      | none => if terms.length = (colsOf tb table).length then .inr { s with news := s.news ++ [(n, table)] } else .inl .cnt
def undOf (ws : List Str) : Option Str := if ws.getD 4 "" = "under" then some (ws.getD 5 "") else none
def tmsOf (ws : List Str) : List Str := if ws.getD 4 "" = "under" then ws.drop 7 else ws.drop 5
def rdMove (tb : List Tb) (s : Sc) (n under : Str) : HE ⊕ Str := match tabOf s n with
  | none => .inl (.unk n)
  | some t => match ckUnder tb s t under with
    | some e => .inl e
    | none => .inr t
def rdSet (tb : List Tb) (s : Sc) (n c term : Str) : HE ⊕ Str := match tabOf s n with
  | none => .inl (.unk n)
  | some t => match posErr tb t [c] with
    | some x => .inl (.unk x)
    | none => match ckTerm tb s term with
      | some e => .inl e
      | none => .inr t
def rdEach (tb : List Tb) (s : Sc) (table n c term : Str) : Option HE :=
  if known tb table = false then some (.unk table) else
  match tabAny s n with
  | none => some (.unk n)
  | some above => match posErr tb table [c] with
    | some x => some (.unk x)
    | none => match ckTerm tb s term with
      | some e => some e
      | none => if above ∈ (chainT tb table).drop 1 then none else some (.tab table)
def rdDeed (tb : List Tb) (s : Sc) (ws : List Str) : HE ⊕ (Sc × Dd) :=
  if ws.getD 0 "" = "new" then (rdNew tb s (ws.getD 1 "") (ws.getD 3 "") (undOf ws) (tmsOf ws)).map id fun s' => (s', ⟨"new", ws.getD 1 "", ws.getD 3 "", undOf ws, none, tmsOf ws⟩)
  else if ws.getD 0 "" = "move" then (rdMove tb s (ws.getD 1 "") (ws.getD 3 "")).map id fun t => (s, ⟨"move", ws.getD 1 "", t, some (ws.getD 3 ""), none, []⟩)
  else if ws.getD 0 "" = "set" then (rdSet tb s ((dotS (ws.getD 1 "")).getD 0 "") ((dotS (ws.getD 1 "")).getD 1 "") (ws.getD 3 "")).map id fun t => (s, ⟨"set", (dotS (ws.getD 1 "")).getD 0 "", t, none, some ((dotS (ws.getD 1 "")).getD 1 ""), [ws.getD 3 ""]⟩)
  else if ws.getD 0 "" = "each" then match rdEach tb s (ws.getD 1 "") (ws.getD 3 "") (ws.getD 5 "") (ws.getD 7 "") with
    | some e => .inl e
    | none => .inr (s, ⟨"each", ws.getD 3 "", ws.getD 1 "", none, some (ws.getD 5 ""), [ws.getD 7 ""]⟩)
  else match tabOf s (ws.getD 1 "") with
    | none => .inl (.unk (ws.getD 1 ""))
    | some t => .inr (s, ⟨"take", ws.getD 1 "", t, none, none, []⟩)
def rdPar (tb : List Tb) (s : Sc) (ws : List Str) : HE ⊕ Sc :=
  if ckNew s (ws.getD 1 "") = true then .inl (.dup (ws.getD 1 "")) else
  if ws.getD 0 "" = "value" then .inr { s with vals := s.vals ++ [ws.getD 1 ""] } else
  if known tb (ws.getD 3 "") = false then .inl (.unk (ws.getD 3 "")) else .inr { s with rows := s.rows ++ [(ws.getD 1 "", ws.getD 3 "")] }
def rdEq (tb : List Tb) (s : Sc) (ws : List Str) : Option HE := ckTerms tb s [ws.getD 1 "", ws.getD 3 ""]
/-- the forms of lines -/
def isTerm (w : Str) : Bool := isCon w || (dotS w).all isNm
def fitsW (w p : Str) : Bool :=
  if p = "NAME" then isNm w else
  if p = "NAME.NAME" then decide (Txt.count w "." = 1) && (dotS w).all isNm else
  if p = "TERM" then isTerm w else decide (w = p)
def partsOf (form : Str) (k : Nat) : List Str :=
  if (Txt.split form " ").getLastD "" = ".." then (Txt.split form " ").dropLast ++ List.replicate (k + 1 - (Txt.split form " ").length) ((Txt.split form " ").getD ((Txt.split form " ").length - 2) "") else Txt.split form " "
def formH (ws : List Str) (form : Str) : Bool := decide (ws.length = (partsOf form ws.length).length) && (ws.zip (partsOf form ws.length)).all fun x => fitsW x.1 x.2
def placeOf (fs : List (Int × Str)) (ws : List Str) : Option Int := (fs.find? fun f => formH ws f.2).map (·.1)
def formsH : List (Int × Str) := [(0, "handler NAME"), (1, "row NAME in NAME"), (1, "value NAME"), (2, "need TERM = TERM"), (3, "new NAME in NAME with TERM .."), (3, "new NAME in NAME under NAME with TERM .."), (3, "move NAME under NAME"), (3, "set NAME.NAME = TERM"), (3, "each NAME below NAME sets NAME = TERM"), (3, "take NAME")]
/-- a line of a handler, behind its form -/
def rlH (tb : List Tb) (h : Hs) (ws : List Str) : HE ⊕ Hs :=
  if ws.getD 0 "" = "handler" then .inr { h with nm := ws.getD 1 "" } else
  if ws.getD 0 "" = "row" ∨ ws.getD 0 "" = "value" then match rdPar tb h.sc ws with
    | .inl e => .inl e
    | .inr s => if 3 < s.rows.length ∨ 4 < s.vals.length then .inl .many else .inr { h with sc := s }
  else if ws.getD 0 "" = "need" then match rdEq tb h.sc ws with
    | some e => .inl e
    | none => if 8 < h.needs.length + 1 then .inl .many else .inr { h with needs := h.needs ++ [(ws.getD 1 "", ws.getD 3 "")] }
  else match rdDeed tb h.sc ws with
    | .inl e => .inl e
    | .inr (s, d) => if 8 < h.dd.length + 1 then .inl .many else .inr { h with sc := s, dl := h.dl ++ [Txt.join " " ws], dd := h.dd ++ [d] }
def rdH (tb : List Tb) : Nat → Int → Hs → List (List Str) → (HE × Nat) ⊕ Hs
  | _, _, h, [] => .inr h
  | k, last, h, ws :: r => match placeOf formsH ws with
    | none => .inl (.bad, k)
    | some p => if p < last ∨ decide (p = 0) ≠ decide (k = 1) then .inl (.bad, k) else match rlH tb h ws with
      | .inl e => .inl (e, k)
      | .inr h' => rdH tb (k + 1) p h' r
def hs0 : Hs := ⟨"", ⟨[], [], []⟩, [], [], []⟩
end My

namespace My
open PySem PySem.Spec PyProof.Rows L2 Evl
/-! ### the forms of a handler's lines -/
theorem el_zip {K : PySem.W.Frag} {σ : L2.St} {H : Hp} {ta : TA} {te : TE} {vs : List Nat} {a b : Addr} {xs ys : List V} {i j : Nat} (f : Nat → V) (hn : xs.length = ys.length) (n : xs.length ≤ 40000) (ha : EvA ta σ H [.ref a, .ref b]) (hx : SqL K H a xs) (hy : SqL K H b ys)
    (hw : ∀ x y, wipe (((wipe σ vs).set i (some x)).set j (some y)) vs = wipe σ vs) (he : ∀ k x y H1, Ex H H1 → xs[k]? = some x → ys[k]? = some y → Ev te (((wipe σ vs).set i (some x)).set j (some y)) H1 (f k)) :
    EvL (tLc (iZip K ta) (gTup K 2 (gCons (gName i) (gCons (gName j) gNil))) tYes te vs) σ H ((List.range xs.length).map f) := fun H0 e Q q =>
  ha H0 e _ fun H1 e1 => ⟨a, b, xs, ys, rfl, ex_l (e.trans e1) hx, ex_l (e.trans e1) hy, fun D hD => lc_it (walk_zip (K := K) (a := a) (b := b) (xs := xs) (ys := ys) (n := xs.length) (by omega)) (fun k H' => Ex H1 H' ∧ H' D = some (.lst ((List.range k).map f))) ⟨Ex.new hD, upd_same⟩ (fun k H' _ p => ⟨ex_l ((e.trans e1).trans p.1) hx, ex_l ((e.trans e1).trans p.1) hy⟩) (fun k v H2 H' hk p y => by
    obtain ⟨T, x, z, rfl, hT, rfl, h4, h5⟩ := y
    refine ⟨T, [x, z], rfl, st_of upd_same, rfl, x, _, rfl, z, _, rfl, rfl, hw x z, ?_⟩
    have e2 : Ex H2 (upd H2 T (.tup [x, z])) := Ex.new hT
    refine he k x z _ (((e.trans e1).trans p.1).trans e2) h4 h5 _ (Ex.refl _) _ fun H4 e4 => ⟨_, (e2.trans e4) _ _ p.2, by rw [List.length_map, List.length_range]; exact Nat.lt_of_lt_of_le (Nat.lt_of_lt_of_le hk n) (by decide), ?_, ?_⟩
    · exact Ex.mut ((p.1.trans e2).trans e4) hD
    · rw [upd_same, List.range_succ, List.map_append]
      rfl) (fun H' p => q D H' (fresh_back e1 hD) (e1.trans p.1) p.2)⟩
theorem all_zip {α β : Type} (f : α → β → Bool) (d : α) (d' : β) : ∀ (xs : List α) (ys : List β), xs.length = ys.length → ((List.range xs.length).map fun k => f (xs.getD k d) (ys.getD k d')).all id = (xs.zip ys).all fun x => f x.1 x.2
  | [], [], _ => rfl
  | x :: xs, y :: ys, h => by
    have ih := all_zip f d d' xs ys (by simpa using h)
    rw [List.length_cons, List.range_succ_eq_map, List.map_cons, List.all_cons, List.map_map, List.zip_cons_cons, List.all_cons, ← ih]
    rfl
theorem pi_zipK {X : Cx} (K : PySem.W.Frag) {e e2 : Expr} {ta : TA} {p pos tpos : Pos} {elts : List Expr} {kk : Nat} (hg : Gl X "zip") (hm : X.mg "zip" = none) (ha : PA X [e, e2] ta)
    (hs : starEach [e, e2] X.env = (false, eval e X.env) :: starEach [e2] X.env := by rfl) (hpl : (backTo pos (starEach [e2] X.env)).any (·.1) = false := by rfl) (hK : X.K = K := by rfl) :
    PI X (.Tuple elts kk tpos) (.Call (.Name "zip" p) [e, e2] [] pos) (iZip K ta) := by
  subst hK
  exact pi_zip hg hm ha hs hpl
theorem pg_tupZ {X : Cx} (K : PySem.W.Frag) {es : List Expr} {k : Nat} {t : TGs} {n : Nat} {pos : Pos} (hc : X.calm = true) (h : PGs X es t) (hK : X.K = K := by rfl)
    (hn : (assignEach es X.env).length = n := by rfl) (hst : (assignEach es X.env).findIdx? (·.1) = none := by rfl) : PG X (.Tuple es k pos) (gTup K n t) := by subst hK; exact pg_tup hc h hn hst
abbrev sIsTerm : Stmt := top 29
theorem scIsTerm : FnScope ["word"] ["word"] (defScope sIsTerm) := ⟨rfl, rfl, rfl, by decide +kernel, rfl, by decide +kernel, by decide +kernel⟩
abbrev sFits : Stmt := top 30
theorem scFits : FnScope ["word", "part"] ["word", "part"] (defScope sFits) := ⟨rfl, rfl, rfl, by decide +kernel, rfl, by decide +kernel, by decide +kernel⟩
abbrev sFormH : Stmt := top 31
theorem scFormH : FnScope ["words", "form", "parts", "word", "part"] ["words", "form"] (defScope sFormH) := ⟨rfl, rfl, rfl, by decide +kernel, rfl, by decide +kernel, by decide +kernel⟩
abbrev sPlace : Stmt := top 33
theorem scPlace : FnScope ["line", "words", "forms", "place", "form"] ["line", "words", "forms"] (defScope sPlace) := ⟨rfl, rfl, rfl, by decide +kernel, rfl, by decide +kernel, by decide +kernel⟩
def spTermB : Sp := fun vs H Q _ => ∃ w : Str, vs = [.str w] ∧ w.length ≤ 900 ∧ ∀ H', Ex H H' → Q (.bl (isTerm w)) H'
def spFits : Sp := fun vs H Q _ => ∃ w p : Str, vs = [.str w, .str p] ∧ w.length ≤ 900 ∧ ∀ H', Ex H H' → Q (.bl (fitsW w p)) H'
theorem ev_names {K : PySem.W.Frag} {te : TE} {σ : L2.St} {H : Hp} {E : XK} {w : Str} (h : Ev te σ H (.str w)) (hl : w.length ≤ 900) : Ev (tCall (spAre K) [] E (tCons (tBM K "str" (fun x xs H Q => ∃ a b, x = .str a ∧ xs = [.str b] ∧ (b.length == 0) = false ∧ a.length + 2 ≤ sizeLine ∧ rNewStrs (Txt.split a b) H Q) te (tCons (tC (.str ".")) tNil)) tNil)) σ H (.bl ((dotS w).all isNm)) := by
  have h2 := PyProof.Rows.split_le w "."
  exact ev_callL (el_split (a := w) (b := ".") h ev_c rfl (by omega)) (fun p H2 e2 h2' H3 e3 Q q E => ⟨p, dotS w, rfl, .inl (SqL.of (e3 _ _ h2')), by unfold dotS; omega, fun m hm => by have := split_part (x := w) (y := ".") hm; omega, q⟩)
section
variable {P : Program} {w : World} {K : PySem.W.Frag} {mg : Str → Option Value} {base : Heap}
theorem ok_isterm {f fC fA : Addr} {fd fdC fdA : FuncData} (F : Fun K "_is_term" "_is_term" sIsTerm f fd)
    (G_is_constant : FnOk P w K mg base CX0 2 fC fdC ["word"] (spStrB isCon)) (m_is_constant : mg "is_constant" = some (.ref fC)) (k_is_constant : PySem.W.keepIn K (.ref fC) = true) (b_is_constant : Binds K fdC ["word"] [])
    (G_are_names : FnOk P w K mg base CX0 3 fA fdA ["words"] (spAre K)) (m_are_names : mg "are_names" = some (.ref fA)) (k_are_names : PySem.W.keepIn K (.ref fA) = true) (b_are_names : Binds K fdA ["words"] []) :
    FnOk P w K mg base CX0 4 f fd ["word"] spTermB := by
  refine F.ok scIsTerm (fun vs H Q E h => ?_) (fun cdv A outer s H vs Q E hr h => ?_)
  · obtain ⟨w, rfl, _⟩ := h
    rfl
  · obtain ⟨w, rfl, hw, k⟩ := h
    have hr_are_names : Room 3 _ := hr
    have hr_is_constant : Room 2 _ := hr.mono (by decide)
    refine ⟨_, (pss_one (ps_ret (pe_or (pe_call G_is_constant hr_is_constant rfl m_is_constant k_is_constant b_is_constant .nil pass0 (pa_cons (pv 0) pa_nil)) (pe_one (pe_call G_are_names hr_are_names rfl m_are_names k_are_names b_are_names .nil pass0 (pa_cons (bmK K PySem.F.plainAttrs_str PySem.F.slot_str_split PySem.F.type_str_split mt_split (pv 0) (pa_cons pe_str pa_nil)) pa_nil)))))), ?_⟩
    exact s_ret (v := .bl (isTerm w)) (ev_orV (a := isCon w) (ev_call (ea_cons (ev_var rfl) ea_nil) (fun H1 e1 Q q E => ⟨w, rfl, by omega, q⟩)) (fun _ => ev_names (ev_var rfl) hw)) (fun H1 e1 => k H1 e1)
theorem ok_fits {f fN fA fT : Addr} {fd fdN fdA fdT : FuncData} (F : Fun K "_fits" "_fits" sFits f fd)
    (G_is_name : FnOk P w K mg base CX0 2 fN fdN ["word"] (spStrB isNm)) (m_is_name : mg "is_name" = some (.ref fN)) (k_is_name : PySem.W.keepIn K (.ref fN) = true) (b_is_name : Binds K fdN ["word"] [])
    (G_are_names : FnOk P w K mg base CX0 3 fA fdA ["words"] (spAre K)) (m_are_names : mg "are_names" = some (.ref fA)) (k_are_names : PySem.W.keepIn K (.ref fA) = true) (b_are_names : Binds K fdA ["words"] [])
    (G__is_term : FnOk P w K mg base CX0 4 fT fdT ["word"] spTermB) (m__is_term : mg "_is_term" = some (.ref fT)) (k__is_term : PySem.W.keepIn K (.ref fT) = true) (b__is_term : Binds K fdT ["word"] []) :
    FnOk P w K mg base CX0 5 f fd ["word", "part"] spFits := by
  refine F.ok scFits (fun vs H Q E h => ?_) (fun cdv A outer s H vs Q E hr h => ?_)
  · obtain ⟨w, p, rfl, _⟩ := h
    rfl
  · obtain ⟨w, p, rfl, hw, k⟩ := h
    have hr__is_term : Room 4 _ := hr
    have hr_are_names : Room 3 _ := hr.mono (by decide)
    have hr_is_name : Room 2 _ := hr.mono (by decide)
    refine ⟨_, (pss_cons (ps_if (pt_cmpR op_eq (pv 1) pe_str (nomark _))
      (pss_one (ps_ret (pe_call G_is_name hr_is_name rfl m_is_name k_is_name b_is_name .nil pass0 (pa_cons (pv 0) pa_nil))))
      pss_nil)
    (pss_cons (ps_if (pt_cmpR op_eq (pv 1) pe_str (nomark _))
      (pss_one (ps_ret (pe_and (pe_cmpR op_eq (bmK K PySem.F.plainAttrs_str PySem.F.slot_str_count PySem.F.type_str_count mt_count (pv 0) (pa_cons pe_str pa_nil)) pe_int (nomark _)) (pe_one (pe_call G_are_names hr_are_names rfl m_are_names k_are_names b_are_names .nil pass0 (pa_cons (bmK K PySem.F.plainAttrs_str PySem.F.slot_str_split PySem.F.type_str_split mt_split (pv 0) (pa_cons pe_str pa_nil)) pa_nil))))))
      pss_nil)
    (pss_cons (ps_if (pt_cmpR op_eq (pv 1) pe_str (nomark _))
      (pss_one (ps_ret (pe_call G__is_term hr__is_term rfl m__is_term k__is_term b__is_term .nil pass0 (pa_cons (pv 0) pa_nil))))
      pss_nil)
    (pss_one (ps_ret (pe_cmpR op_eq (pv 0) (pv 1) (nomark _))))))), ?_⟩
    have first : ∀ {H1 : Hp} (z : Str), EvT (tTest (tOp rEq (tVar 1) (tC (.str z)))) (L2.start ["word", "part"] [.str w, .str p]) H1 (decide (p = z)) := fun {H1} z => et_test (ev_is (ev_op (ev_var rfl) ev_c (rv_eq rfl)) (congrArg V.bl (str_beq _ _)))
    have fin : ∀ {b : Bool} {H1 : Hp}, Ex H H1 → fitsW w p = b → Q (.bl b) H1 := fun {b H1} e hb => by rw [← hb]; exact k H1 e
    refine q_when (first "NAME") (fun c H1 e1 => ?_) (fun c1 H1 e1 => ?_)
    · refine s_ret (ev_call (ea_cons (ev_var rfl) ea_nil) (fun H1 e1 Q q E => ⟨w, rfl, by omega, q⟩)) (fun H2 e2 => fin (e1.trans e2) ?_)
      unfold fitsW
      rw [if_pos (of_decide_eq_true c)]
    have c1 := of_decide_eq_false c1
    refine q_when (first "NAME.NAME") (fun c H2 e2 => ?_) (fun c2 H2 e2 => ?_)
    · refine s_ret (ev_andV (a := decide (Txt.count w "." = 1)) (ev_is (ev_op (ev_bmS (ev_var rfl) (ea_cons ev_c ea_nil) fun H1 _ Q q => ⟨w, _, rfl, rfl, q H1 (Ex.refl H1)⟩) ev_c (rv_eq rfl)) (congrArg V.bl (decide_eq_decide.mpr ⟨fun z => V.int.inj z, fun z => congrArg V.int z⟩))) (fun _ => ev_names (ev_var rfl) hw)) (fun H3 e3 => fin ((e1.trans e2).trans e3) ?_)
      unfold fitsW
      rw [if_neg c1, if_pos (of_decide_eq_true c)]
    have c2 := of_decide_eq_false c2
    refine q_when (first "TERM") (fun c H3 e3 => ?_) (fun c3 H3 e3 => ?_)
    · refine s_ret (ev_call (ea_cons (ev_var rfl) ea_nil) (fun H1 e1 Q q E => ⟨w, rfl, hw, q⟩)) (fun H4 e4 => fin (((e1.trans e2).trans e3).trans e4) ?_)
      unfold fitsW
      rw [if_neg c1, if_neg c2, if_pos (of_decide_eq_true c)]
    have c3 := of_decide_eq_false c3
    refine s_ret (ev_is (ev_op (ev_var rfl) (ev_var rfl) (rv_eq rfl)) (congrArg V.bl (str_beq _ _))) (fun H4 e4 => fin (((e1.trans e2).trans e3).trans e4) ?_)
    unfold fitsW
    rw [if_neg c1, if_neg c2, if_neg c3]
end
end My

namespace My
open PySem PySem.Spec PyProof.Rows L2 Evl
/-! ### the form of a line, its place -/
section
variable {σ : L2.St} {H : Hp} {ta tb : TE}
theorem el_repI {x : V} {k : Int} (ha : EvL ta σ H [x]) (hk : Ev tb σ H (.int k)) (h1 : -1000 ≤ k) (h2 : k ≤ 1000) : EvL (tOp rRep ta tb) σ H (List.replicate k.toNat x) := fun H1 e Q q =>
  ha H1 e _ fun p H2 hp e2 h2' => hk H2 (e.trans e2) _ fun H3 e3 => ⟨p, k, [x], rfl, rfl, e3 _ _ h2', by omega, by omega, sz_of (by simp; omega), fun l hl => by
    have ef : (List.replicate k.toNat [x]).flatten = List.replicate k.toNat x := by simp
    rw [ef]
    exact q l _ (fresh_back (e2.trans e3) hl) ((e2.trans e3).trans (Ex.new hl)) upd_same⟩
end
/-- forms of two to a hundred words -/
def FmOk (form : Str) : Prop := form.length ≤ 100 ∧ 2 ≤ (Txt.split form " ").length
def spFormH (K : PySem.W.Frag) : Sp := fun vs H Q _ => ∃ (a : Addr) (ws : List Str) (form : Str), vs = [.ref a, .str form] ∧ SqL K H a (ws.map V.str) ∧ WsOk ws ∧ FmOk form ∧ ∀ H', Ex H H' → Q (.bl (formH ws form)) H'
structure TFh (mg : Str → Option Value) : Prop where
  n_len : mg "len" = none
  n_all : mg "all" = none
  n_zip : mg "zip" = none
def spPlace (K : PySem.W.Frag) (e : ErA) : Sp := fun vs H Q E => ∃ (line : Int) (wl FA : Addr) (ws : List Str) (fs : List (Addr × (Int × Str))), vs = [.int line, .ref wl, .ref FA] ∧ H wl = some (.lst (ws.map V.str)) ∧ WsOk ws ∧ SqT K H FA (fs.map fun f => V.ref f.1) ∧ (∀ f ∈ fs, SqT K H f.1 [.int f.2.1, .str f.2.2] ∧ FmOk f.2.2) ∧ fs.length ≤ 100 ∧
  (∀ p, placeOf (fs.map (·.2)) ws = some p → ∀ H', Ex H H' → Q (.int p) H') ∧ (placeOf (fs.map (·.2)) ws = none → Rz [] E e.CB [("line", .int line)] H)
section
variable {P : Program} {w : World} {K : PySem.W.Frag} {mg : Str → Option Value} {base : Heap}
theorem ws_leD {ws : List Str} (ok : WsOk ws) (k : Nat) : (ws.getD k "").length ≤ 900 := ws_le ok k
theorem ok_formH {f fF : Addr} {fd fdF : FuncData} (F : Fun K "_has_form" "_has_form" sFormH f fd) (T : TFh mg)
    (G__fits : FnOk P w K mg base CX0 5 fF fdF ["word", "part"] spFits) (m__fits : mg "_fits" = some (.ref fF)) (k__fits : PySem.W.keepIn K (.ref fF) = true) (b__fits : Binds K fdF ["word", "part"] []) :
    FnOk P w K mg base CX0 6 f fd ["words", "form"] (spFormH K) := by
  refine F.ok scFormH (fun vs H Q E h => ?_) (fun cdv A outer s H vs Q E hr h => ?_)
  · obtain ⟨a, ws, form, rfl, _⟩ := h
    rfl
  · obtain ⟨a, ws, form, rfl, ha, ok, fo, k⟩ := h
    have hr__fits : Room 5 _ := hr
    refine ⟨_, (pss_cons (ps_set (i := 2) scFormH.nd rfl (Or.inl rfl) (bmK K PySem.F.plainAttrs_str PySem.F.slot_str_split PySem.F.type_str_split mt_split (pv 1) (pa_cons pe_str pa_nil)))
    (pss_cons (ps_if (pt_cmpR op_eq (pe_ix (ixL K) (pv 2) (pe_un un_neg pe_int) (fun _ _ => rfl)) pe_str (nomark _))
      (pss_one (ps_set (i := 2) scFormH.nd rfl (Or.inl rfl) (pe_op op_cat (pe_slice (slL K) (pv 2) po_none (po_some (pe_un un_neg pe_int))) (pe_op op_rep (pe_lst (pa_cons (pe_ix (ixL K) (pv 2) (pe_un un_neg pe_int) (fun _ _ => rfl)) pa_nil)) (pe_op op_add (pe_op op_sub (pe_callB (lenSeq K) (by rfl) T.n_len (by decide +kernel) (pa_cons (pv 0) pa_nil)) (pe_callB (lenSeq K) (by rfl) T.n_len (by decide +kernel) (pa_cons (pv 2) pa_nil))) pe_int)))))
      pss_nil)
    (pss_one (ps_ret (pe_and (pe_cmpR op_eq (pe_callB (lenSeq K) (by rfl) T.n_len (by decide +kernel) (pa_cons (pv 0) pa_nil)) (pe_callB (lenSeq K) (by rfl) T.n_len (by decide +kernel) (pa_cons (pv 2) pa_nil)) (nomark _)) (pe_one (pe_callB (allK K rfl) (by rfl) T.n_all (by decide +kernel) (pa_cons (pe_lc (own := [("word", 3), ("part", 4)]) (g := gTup K 2 (gCons (gName 3) (gCons (gName 4) gNil))) (by rfl) scFormH.nd (pi_zipK K (by rfl) T.n_zip (pa_cons (pv 0) (pa_cons (pv 2) pa_nil))) (blkOk_by (own := [("word", 3), ("part", 4)]) (N := ["words", "form", "parts", "word", "part"]) (sc := defScope sFormH) (by decide +kernel)) (fun _ _ _ _ _ => (pg_tupZ K rfl (pgs_cons (pg_name (i := 3) scFormH.nd rfl (Or.inl rfl)) (pgs_cons (pg_name (i := 4) scFormH.nd rfl (Or.inl rfl)) pgs_nil)))) (fun _ _ _ _ _ => pts_nil) (fun _ _ _ _ _ => (pe_call G__fits hr__fits rfl m__fits k__fits b__fits .nil pass0 (pa_cons (pv 3) (pa_cons (pv 4) pa_nil))))) pa_nil)))))))), ?_⟩
    have hl := PyProof.Rows.split_le form " "
    obtain ⟨f1, f2⟩ := fo
    have o2 := ok.few
    generalize hps : Txt.split form " " = ps at hl f2
    -- behind the two rows that make the parts
    refine q_asgL (xs := ps.map V.str) (el_is (el_split (a := form) (b := " ") (ev_var rfl) ev_c rfl (by omega)) (by rw [hps])) (fun p H1 hp e1 h1 => ?_)
    have sp1 : SqL K H1 p (ps.map V.str) := SqL.of h1
    have last : ∀ {σ : L2.St} {H2 : Hp}, Ex H1 H2 → σ[2]? = some (some (.ref p)) → Ev (tOp (rIxL K) (tVar 2) (tUn (rU fun i => .int (-i)) (tC (.int 1)))) σ H2 (.str (ps.getLastD "")) := fun {σ H2} e2 h => by
      refine ev_op (ev_var h) (ev_un ev_c ru_neg) (rv_ixL (ex_l e2 sp1) ?_)
      obtain ⟨ini, la, rfl⟩ : ∃ ini la, ps = ini ++ [la] := ⟨ps.dropLast, ps.getLast (fun z => by rw [z] at f2; simp at f2), (List.dropLast_concat_getLast _).symm⟩
      rw [List.map_append, List.getLastD_concat]
      exact atI_last _ _
    have prev : ∀ {σ : L2.St} {H2 : Hp}, Ex H1 H2 → σ[2]? = some (some (.ref p)) → Ev (tOp (rIxL K) (tVar 2) (tUn (rU fun i => .int (-i)) (tC (.int 2)))) σ H2 (.str (ps.getD (ps.length - 2) "")) := fun {σ H2} e2 h => by
      refine ev_op (ev_var h) (ev_un ev_c ru_neg) (rv_ixL (ex_l e2 sp1) ?_)
      unfold atI ixN
      rw [List.length_map, if_neg (by omega), if_pos (by omega)]
      show (ps.map V.str)[_]? = _
      rw [show ((-2 : Int) + (ps.length : Int)).toNat = ps.length - 2 by omega]
      exact getD_at (by omega)
    refine w_seq (w_abs (fun σ' H' => ∃ q, σ' = [some (.ref a), some (.str form), some (.ref q), none, none] ∧ Ex H H' ∧ H' q = some (.lst ((partsOf form ws.length).map V.str))) (fun D' kD => ?_) (fun σ' H2 z => ?_))
    · refine s_if (b := decide (ps.getLastD "" = "..")) (et_test (ev_is (ev_op (last (Ex.refl _) rfl) ev_c (rv_eq rfl)) (congrArg V.bl (str_beq _ _)))) (fun c H2 e2 => ?_) (fun c H2 e2 => kD _ H2 ⟨p, rfl, e1.trans e2, ?_⟩)
      · refine s_asgL (el_catLL (xs := ps.dropLast.map V.str) (zs := List.replicate ((ws.length : Int) - (ps.length : Int) + 1).toNat (.str (ps.getD (ps.length - 2) ""))) (el_is (el_sl (lo := none) (hi := some (-1)) (ev_var rfl) eo_none (eo_some (ev_un ev_c ru_neg)) (ex_l e2 sp1)) (by rw [cutV_init, List.map_dropLast]))
          (el_repI (el_lst (ea_cons (prev e2 rfl) ea_nil) (by show 1 ≤ 100000; decide)) (ev_op (ev_op (ev_is (ev_lenA (ev_var rfl) (.inl (ex_l (e1.trans e2) ha))) (by rw [List.length_map])) (ev_is (ev_lenA (ev_var rfl) (.inl (ex_l e2 sp1))) (by rw [List.length_map])) rv_I0) ev_c rv_I0) (by omega) (by omega)) (by simp; omega)) (fun q H3 hq e3 h3 => kD _ H3 ⟨q, rfl, (e1.trans e2).trans e3, ?_⟩)
        rw [h3]
        unfold partsOf
        rw [hps, if_pos (of_decide_eq_true c), List.map_append, List.map_replicate, show ((ws.length : Int) - (ps.length : Int) + 1).toNat = ws.length + 1 - ps.length by omega]
      · rw [e2 _ _ h1]
        unfold partsOf
        rw [hps, if_neg (of_decide_eq_false c)]
    obtain ⟨q, rfl, e2, hq⟩ := z
    have lp : (partsOf form ws.length).length ≤ 2000 := by
      unfold partsOf
      rw [hps]
      split
      · rw [List.length_append, List.length_dropLast, List.length_replicate]; omega
      · omega
    have ha2 := ex_l e2 ha
    have sq2 : SqL K H2 q ((partsOf form ws.length).map V.str) := SqL.of hq
    refine s_ret (v := .bl (formH ws form)) (ev_andV (a := decide (ws.length = (partsOf form ws.length).length)) (ev_is (ev_op (ev_lenA (ev_var rfl) (.inl ha2)) (ev_lenA (ev_var rfl) (.inl sq2)) (rv_eq rfl)) (by rw [List.length_map, List.length_map]; exact congrArg V.bl (decide_eq_decide.mpr ⟨fun z => by injection z with z; omega, fun z => congrArg (fun n : Nat => V.int (n : Int)) z⟩))) (fun hb => ?_)) (fun H3 e3 => k H3 (e2.trans e3))
    have el := of_decide_eq_true hb
    rw [← all_zip fitsW "" "" ws (partsOf form ws.length) el]
    refine ev_all (el_is (el_zip (K := K) (xs := ws.map V.str) (ys := (partsOf form ws.length).map V.str) (fun k => V.bl (fitsW (ws.getD k "") ((partsOf form ws.length).getD k ""))) (by rw [List.length_map, List.length_map]; exact el) (by rw [List.length_map]; omega) (ea_cons (ev_var rfl) (ea_cons (ev_var rfl) ea_nil)) ha2 sq2 (fun _ _ => rfl) (fun k x y H3 e3 hx hy => ?_)) (by rw [List.length_map, List.map_map]; rfl))
    have hk : k < ws.length := by
      have := (List.getElem?_eq_some_iff.mp hx).1
      simpa using this
    rw [getD_at hk] at hx
    rw [getD_at (by omega)] at hy
    cases hx
    cases hy
    exact ev_call (ea_cons (ev_var rfl) (ea_cons (ev_var rfl) ea_nil)) (fun H4 e4 Q q E => ⟨_, _, rfl, ws_leD ok k, q⟩)
theorem ok_place {f fF : Addr} {fd fdF : FuncData} {e : ErA} (F : Fun K "place_of" "place_of" sPlace f fd) (eB : EX P w K mg base "BadLine" ["line"] e.CB)
    (G_has_form_forms : FnOk P w K mg base CX0 6 fF fdF ["words", "form"] (spFormH K)) (m_has_form_forms : mg "has_form_forms" = some (.ref fF)) (k_has_form_forms : PySem.W.keepIn K (.ref fF) = true) (b_has_form_forms : Binds K fdF ["words", "form"] []) :
    FnOk P w K mg base (L2.CX P w) 7 f fd ["line", "words", "forms"] (spPlace K e) := by
  refine F.okX scPlace (fun vs H Q E h => ?_) (fun cdv A outer s H vs Q E hr h => ?_)
  · obtain ⟨line, wl, FA, ws, fs, rfl, _⟩ := h
    rfl
  · obtain ⟨line, wl, FA, ws, fs, rfl, hwl, ok, hF, hf, few, k1, k2⟩ := h
    obtain ⟨fB, fdB, OX_BadLine, IX_BadLine, TY_BadLine, GX_BadLine, BX_BadLine, NX_BadLine⟩ := eB.ex
    have hrX : Room (1 + 1) _ := hr.mono (by decide)
    have hr_has_form_forms : Room 6 _ := hr
    have hu := hu_of hr
    refine ⟨_, (pss_cons (ps_for (passes_of rfl) rfl (pi_any K 2 (pv 2)) (pg_tup rfl (pgs_cons (pg_name (i := 3) scPlace.nd rfl (Or.inl rfl)) (pgs_cons (pg_name (i := 4) scPlace.nd rfl (Or.inl rfl)) pgs_nil)))
      (pss_one (ps_if (pt_val (pe_call G_has_form_forms hr_has_form_forms rfl m_has_form_forms k_has_form_forms b_has_form_forms .nil pass0 (pa_cons (pv 1) (pa_cons (pv 4) pa_nil))))
        (pss_one (ps_ret (pv 3)))
        pss_nil)))
    (pss_one (ps_raise rfl (takes_of rfl rfl rfl rfl) (pmk_oex OX_BadLine IX_BadLine TY_BadLine GX_BadLine hrX BX_BadLine .nil pass0 rfl NX_BadLine (pa_cons (pv 0) pa_nil))))), ?_⟩
    refine q_forA (H0 := H) (a := FA) (xs := fs.map fun f => V.ref f.1) rfl (.inr hF) (fun k σ' H' => ∃ v3 v4, σ' = [some (.int line), some (.ref wl), some (.ref FA), v3, v4] ∧ Ex H H' ∧ placeOf (fs.map (·.2)) ws = placeOf ((fs.map (·.2)).drop k) ws) ⟨none, none, rfl, Ex.refl H, rfl⟩ (fun k σ' H' _ p => by obtain ⟨_, _, _, e, _⟩ := p; exact e) (fun k x σ' H' hx p => ?_) (fun σ' H' p => ?_)
    · obtain ⟨v3, v4, rfl, e1, hd⟩ := p
      have hk : k < fs.length := by
        have := (List.getElem?_eq_some_iff.mp hx).1
        simpa using this
      rw [List.getElem?_map, List.getElem?_eq_getElem hk] at hx
      obtain rfl : x = V.ref fs[k].1 := (Option.some.inj hx).symm
      obtain ⟨t1, t2⟩ := hf fs[k] (List.getElem_mem hk)
      refine ⟨_, _, rfl, ex_t e1 t1, rfl, _, _, rfl, _, _, rfl, rfl, ?_⟩
      rw [List.drop_eq_getElem_cons (by rw [List.length_map]; exact hk), List.getElem_map] at hd
      generalize fs[k].2 = fk at t1 t2 hd
      refine s_when (b := formH ws fk.2) (et_B (ev_call (ea_cons (ev_var rfl) (ea_cons (ev_var rfl) ea_nil)) (fun H1 e2 Q q E => ⟨wl, ws, fk.2, rfl, SqL.of ((e1.trans e2) _ _ hwl), ok, t2, q⟩))) (fun b H1 e2 => ?_) (fun b H1 e2 => ?_)
      · refine s_ret (ev_var rfl) (fun H2 e3 => k1 fk.1 ?_ H2 ((e1.trans e2).trans e3))
        rw [hd]
        unfold placeOf
        rw [List.find?_cons, b]
        rfl
      · refine ⟨_, _, rfl, e1.trans e2, ?_⟩
        rw [hd]
        conv => lhs; unfold placeOf
        rw [List.find?_cons, b]
        rfl
    · obtain ⟨v3, v4, rfl, e1, hd⟩ := p
      refine rz_mk (fs := ["line"]) (vs := [.int line]) (ea_cons (ev_var rfl) ea_nil) rfl (by show 1 ≤ 1000; decide) ((k2 ?_).ex e1)
      rw [hd, List.drop_of_length_le (by simp)]
      rfl
end
end My

namespace My
open PySem PySem.Spec PyProof.Rows L2 Evl
/-! ### the names that a handler defines -/
structure HA extends ErA where
  (CT CW : Addr)
def HA.clsH (e : HA) : HE → Addr
  | .bad => e.CB
  | .dup _ => e.CD
  | .unk _ => e.CU
  | .tab _ => e.CT
  | .cnt => e.CW
  | .many => e.CM
def heFs (line : Int) : HE → List (Str × V)
  | .bad => [("line", .int line)]
  | .dup n => [("line", .int line), ("name", .str n)]
  | .unk n => [("line", .int line), ("name", .str n)]
  | .tab n => [("line", .int line), ("name", .str n)]
  | .cnt => [("line", .int line)]
  | .many => [("line", .int line)]
structure XA where
  (x dx r n v : Addr)
def mutX (X : XA) : List Addr := [X.r, X.n, X.v]
structure HX (CS C : Addr) (H : Hp) (X : XA) (A : Ad) (rs : List Row) (ow : List (Str × Str)) (s : Sc) : Prop where
  ins : H X.x = some (.ins CS X.dx [("schema", .ref A.a), ("_rows", .ref X.r), ("_new_rows", .ref X.n), ("_values", .ref X.v)])
  hr : H X.r = some (.dK (kvS s.rows))
  hn : H X.n = some (.dK (kvS s.news))
  hv : H X.v = some (.lst (s.vals.map V.str))
  ne : X.r ≠ X.n
  sa : SA C H A rs ow
  wf : WF (tbs rs)
  few : rs.length ≤ 900
  ap : ∀ b ∈ mutX X, b ∉ mutS A rs ∧ ∀ r ∈ rs, r.ca ≠ b
  kr : ∀ x ∈ s.rows, known (tbs rs) x.2 = true
  kn : ∀ x ∈ s.news, known (tbs rs) x.2 = true
/-- few of each -/
def Sm9 (s : Sc) : Prop := s.rows.length ≤ 100 ∧ s.news.length ≤ 100 ∧ s.vals.length ≤ 100
structure TS2 (K : PySem.W.Frag) (CS : Addr) : Prop where
  cl : Cls K CS
  n1 : NoAttr K CS "schema"
  n2 : NoAttr K CS "_rows"
  n3 : NoAttr K CS "_new_rows"
  n4 : NoAttr K CS "_values"
theorem SA.put {C : Addr} {H : Hp} {A : Ad} {rs : List Row} {ow : List (Str × Str)} {b : Addr} {o : HO} (S : SA C H A rs ow) (h1 : b ∉ mutS A rs) (h2 : ∀ r ∈ rs, r.ca ≠ b) (h3 : A.a ≠ b) : SA C (upd H b o) A rs ow := by
  have n : ∀ c, c ∈ mutS A rs → c ≠ b := fun c hc e => h1 (e ▸ hc)
  exact ⟨by rw [upd_ne h3]; exact S.ins, by rw [upd_ne (n _ mut_p)]; exact S.hp, by rw [upd_ne (n _ mut_c)]; exact S.hc, by rw [upd_ne (n _ mut_o)]; exact S.ho, by rw [upd_ne (n _ mut_f)]; exact S.hf, fun r hr => by rw [upd_ne (h2 r hr)]; exact S.cs r hr, fun r hr => by rw [upd_ne (n _ (mut_r hr))]; exact S.fs r hr, S.ne⟩
section
variable {K : PySem.W.Frag} {CS C : Addr} {H H' : Hp} {X : XA} {A : Ad} {rs : List Row} {ow : List (Str × Str)} {s : Sc} {σ : L2.St} {te : TE}
theorem HX.ex (e : Ex H H') (h : HX CS C H X A rs ow s) : HX CS C H' X A rs ow s := ⟨e _ _ h.ins, e _ _ h.hr, e _ _ h.hn, e _ _ h.hv, h.ne, h.sa.ex e, h.wf, h.few, h.ap, h.kr, h.kn⟩
theorem ev_xSch (T : TS2 K CS) (S : HX CS C H X A rs ow s) (h : Ev te σ H (.ref X.x)) : Ev (tFld K te "schema") σ H (.ref A.a) := ev_fldX T.cl T.n1 h S.ins rfl
theorem ev_xRow (T : TS2 K CS) (S : HX CS C H X A rs ow s) (h : Ev te σ H (.ref X.x)) : Ev (tFld K te "_rows") σ H (.ref X.r) := ev_fldX T.cl T.n2 h S.ins rfl
theorem ev_xNew (T : TS2 K CS) (S : HX CS C H X A rs ow s) (h : Ev te σ H (.ref X.x)) : Ev (tFld K te "_new_rows") σ H (.ref X.n) := ev_fldX T.cl T.n3 h S.ins rfl
theorem ev_xVal (T : TS2 K CS) (S : HX CS C H X A rs ow s) (h : Ev te σ H (.ref X.x)) : Ev (tFld K te "_values") σ H (.ref X.v) := ev_fldX T.cl T.n4 h S.ins rfl
theorem w_methX {m : Str} {sp : Sp} {dvs : List V} {E : XK} {t : TA} {Q : VK} (h : Ev te σ H (.ref X.x)) (S : HX CS C H X A rs ow s) (no : ∀ a b c d : V, List.lookup m [(("schema" : Str), a), ("_rows", b), ("_new_rows", c), ("_values", d)] = none)
    (k : ∀ H1, Ex H H1 → t σ H1 fun vs H2 => sp (.ref X.x :: (vs ++ dvs)) H2 Q E) : tMeth CS m sp dvs E te t σ H Q :=
  h H (Ex.refl H) _ fun H1 e1 => ⟨X.x, X.dx, _, rfl, (S.ex e1).ins, no _ _ _ _, k H1 e1⟩
theorem kvS_snoc (xs : List (Str × Str)) (n t : Str) : kvS xs ++ [(.inr n, .str t)] = kvS (xs ++ [(n, t)]) := by unfold kvS; rw [List.map_append]; rfl
theorem HX.putR (S : HX CS C H X A rs ow s) {n t : Str} (k : known (tbs rs) t = true) : HX CS C (upd H X.r (.dK (kvS (s.rows ++ [(n, t)])))) X A rs ow { s with rows := s.rows ++ [(n, t)] } := by
  have m : X.r ∈ mutX X := List.mem_cons_self ..
  refine ⟨?_, upd_same, by rw [upd_ne S.ne.symm]; exact S.hn, ?_, S.ne, S.sa.put (S.ap _ m).1 (S.ap _ m).2 (ne_kind S.sa.ins S.hr (fun z => nomatch z)), S.wf, S.few, S.ap, fun x hx => ?_, S.kn⟩
  · rw [upd_ne (ne_kind S.ins S.hr (fun z => nomatch z))]; exact S.ins
  · rw [upd_ne (ne_kind S.hv S.hr (fun z => nomatch z))]; exact S.hv
  · rcases List.mem_append.mp hx with z | z
    · exact S.kr x z
    · obtain rfl : x = (n, t) := by simpa using z
      exact k
theorem HX.putN (S : HX CS C H X A rs ow s) {n t : Str} (k : known (tbs rs) t = true) : HX CS C (upd H X.n (.dK (kvS (s.news ++ [(n, t)])))) X A rs ow { s with news := s.news ++ [(n, t)] } := by
  have m : X.n ∈ mutX X := List.mem_cons_of_mem _ (List.mem_cons_self ..)
  refine ⟨?_, by rw [upd_ne S.ne]; exact S.hr, upd_same, ?_, S.ne, S.sa.put (S.ap _ m).1 (S.ap _ m).2 (ne_kind S.sa.ins S.hn (fun z => nomatch z)), S.wf, S.few, S.ap, S.kr, fun x hx => ?_⟩
  · rw [upd_ne (ne_kind S.ins S.hn (fun z => nomatch z))]; exact S.ins
  · rw [upd_ne (ne_kind S.hv S.hn (fun z => nomatch z))]; exact S.hv
  · rcases List.mem_append.mp hx with z | z
    · exact S.kn x z
    · obtain rfl : x = (n, t) := by simpa using z
      exact k
theorem HX.putV (S : HX CS C H X A rs ow s) {n : Str} : HX CS C (upd H X.v (.lst ((s.vals ++ [n]).map V.str))) X A rs ow { s with vals := s.vals ++ [n] } := by
  have m : X.v ∈ mutX X := List.mem_cons_of_mem _ (List.mem_cons_of_mem _ (List.mem_cons_self ..))
  refine ⟨?_, ?_, ?_, upd_same, S.ne, S.sa.put (S.ap _ m).1 (S.ap _ m).2 (ne_kind S.sa.ins S.hv (fun z => nomatch z)), S.wf, S.few, S.ap, S.kr, S.kn⟩
  · rw [upd_ne (ne_kind S.ins S.hv (fun z => nomatch z))]; exact S.ins
  · rw [upd_ne (ne_kind S.hr S.hv (fun z => nomatch z))]; exact S.hr
  · rw [upd_ne (ne_kind S.hn S.hv (fun z => nomatch z))]; exact S.hn
end
theorem val_fst {xs : List (Str × Str)} {n : Str} : valV (kvS xs) (.inr n) = (fstOf xs n).map V.str := by
  rw [val_kvS]
  unfold fstOf
  rw [Option.map_map]
  rfl
theorem fst_none {xs : List (Str × Str)} {n : Str} (h : n ∉ xs.map (·.1)) : valV (kvS xs) (.inr n) = none := by
  have q := has_kvS (xs := xs) (n := n)
  rw [decide_eq_false h] at q
  cases z : valV (kvS xs) (.inr n) with
  | none => rfl
  | some v => rw [z] at q; cases q
theorem fst_mem {xs : List (Str × Str)} {n t : Str} (h : fstOf xs n = some t) : ∃ x ∈ xs, x.2 = t := by
  unfold fstOf at h
  cases z : xs.find? fun x => decide (x.1 = n) with
  | none => rw [z] at h; cases h
  | some x => rw [z] at h; exact ⟨x, List.mem_of_find?_eq_some z, Option.some.inj h⟩
theorem ckNew_at {s : Sc} {n : Str} (h : ckNew s n = false) : n ≠ "me" ∧ n ∉ s.vals ∧ n ∉ s.rows.map (·.1) ∧ n ∉ s.news.map (·.1) := by
  unfold ckNew at h
  simpa using h
section
variable (CS C : Addr) (e : HA)
/-- S: what a method of the names asks of the heap -/
def spRowsX (CS C : Addr) : Sp := fun vs H Q _ => ∃ X A rs ow s, vs = [.ref X.x] ∧ HX CS C H X A rs ow s ∧ ∀ p as H', H p = none → Ex H H' → H' p = some (.lst (as.map V.ref)) → Paired (fun (t : Addr) (q : Str × Str) => H' t = some (.tup [.str q.1, .str q.2])) as s.rows → Q (.ref p) H'
def spValsX (CS C : Addr) : Sp := fun vs H Q _ => ∃ X A rs ow s, vs = [.ref X.x] ∧ HX CS C H X A rs ow s ∧ ∀ p H', H p = none → Ex H H' → H' p = some (.lst (s.vals.map V.str)) → Q (.ref p) H'
def spDefR (CS C : Addr) : Sp := fun vs H Q _ => ∃ X A rs ow s n t, vs = [.ref X.x, .str n, .str t] ∧ HX CS C H X A rs ow s ∧ Sm9 s ∧ n ∉ s.rows.map (·.1) ∧ known (tbs rs) t = true ∧ ∀ H', Fr (mutX X) H H' → HX CS C H' X A rs ow { s with rows := s.rows ++ [(n, t)] } → Q .non H'
def spDefN (CS C : Addr) : Sp := fun vs H Q _ => ∃ X A rs ow s n t, vs = [.ref X.x, .str n, .str t] ∧ HX CS C H X A rs ow s ∧ Sm9 s ∧ n ∉ s.news.map (·.1) ∧ known (tbs rs) t = true ∧ ∀ H', Fr (mutX X) H H' → HX CS C H' X A rs ow { s with news := s.news ++ [(n, t)] } → Q .non H'
def spCkNew (CS C : Addr) (e : HA) : Sp := fun vs H Q E => ∃ X A rs ow s line n, vs = [.ref X.x, .int line, .str n] ∧ HX CS C H X A rs ow s ∧ (ckNew s n = false → ∀ H', Ex H H' → Q .non H') ∧ (ckNew s n = true → Rz [] E (e.clsH (.dup n)) (heFs line (.dup n)) H)
def spCkTab (CS C : Addr) (e : HA) : Sp := fun vs H Q E => ∃ X A rs ow s line n, vs = [.ref X.x, .int line, .str n] ∧ HX CS C H X A rs ow s ∧ (known (tbs rs) n = true → ∀ H', Ex H H' → Q .non H') ∧ (known (tbs rs) n = false → Rz [] E (e.clsH (.unk n)) (heFs line (.unk n)) H)
def spTabOf (CS C : Addr) (e : HA) : Sp := fun vs H Q E => ∃ X A rs ow s line n, vs = [.ref X.x, .int line, .str n] ∧ HX CS C H X A rs ow s ∧ (∀ t, tabOf s n = some t → ∀ H', Ex H H' → Q (.str t) H') ∧ (tabOf s n = none → Rz [] E (e.clsH (.unk n)) (heFs line (.unk n)) H)
def spTabAny (CS C : Addr) (e : HA) : Sp := fun vs H Q E => ∃ X A rs ow s line n, vs = [.ref X.x, .int line, .str n] ∧ HX CS C H X A rs ow s ∧ (∀ t, tabAny s n = some t → ∀ H', Ex H H' → Q (.str t) H') ∧ (tabAny s n = none → Rz [] E (e.clsH (.unk n)) (heFs line (.unk n)) H)
def spTerm (CS C : Addr) (e : HA) : Sp := fun vs H Q E => ∃ X A rs ow s line t, vs = [.ref X.x, .int line, .str t] ∧ HX CS C H X A rs ow s ∧ t.length ≤ 900 ∧ (ckTerm (tbs rs) s t = none → ∀ H', Ex H H' → Q .non H') ∧ (∀ er, ckTerm (tbs rs) s t = some er → Rz [] E (e.clsH er) (heFs line er) H)
end
abbrev sXRows : Stmt := inClass (top 35) 1
theorem scXRows : FnScope ["self"] ["self"] (defScope sXRows) := ⟨rfl, rfl, rfl, by decide +kernel, rfl, by decide +kernel, by decide +kernel⟩
abbrev sXVals : Stmt := inClass (top 35) 2
theorem scXVals : FnScope ["self"] ["self"] (defScope sXVals) := ⟨rfl, rfl, rfl, by decide +kernel, rfl, by decide +kernel, by decide +kernel⟩
abbrev sXDefR : Stmt := inClass (top 35) 3
theorem scXDefR : FnScope ["self", "name", "table"] ["self", "name", "table"] (defScope sXDefR) := ⟨rfl, rfl, rfl, by decide +kernel, rfl, by decide +kernel, by decide +kernel⟩
abbrev sXDefN : Stmt := inClass (top 35) 4
theorem scXDefN : FnScope ["self", "name", "table"] ["self", "name", "table"] (defScope sXDefN) := ⟨rfl, rfl, rfl, by decide +kernel, rfl, by decide +kernel, by decide +kernel⟩
abbrev sXCkNew : Stmt := inClass (top 35) 7
theorem scXCkNew : FnScope ["self", "line", "name"] ["self", "line", "name"] (defScope sXCkNew) := ⟨rfl, rfl, rfl, by decide +kernel, rfl, by decide +kernel, by decide +kernel⟩
abbrev sXCkTab : Stmt := inClass (top 35) 8
theorem scXCkTab : FnScope ["self", "line", "table"] ["self", "line", "table"] (defScope sXCkTab) := ⟨rfl, rfl, rfl, by decide +kernel, rfl, by decide +kernel, by decide +kernel⟩
abbrev sXTabOf : Stmt := inClass (top 35) 9
theorem scXTabOf : FnScope ["self", "line", "name"] ["self", "line", "name"] (defScope sXTabOf) := ⟨rfl, rfl, rfl, by decide +kernel, rfl, by decide +kernel, by decide +kernel⟩
abbrev sXTabAny : Stmt := inClass (top 35) 10
theorem scXTabAny : FnScope ["self", "line", "name"] ["self", "line", "name"] (defScope sXTabAny) := ⟨rfl, rfl, rfl, by decide +kernel, rfl, by decide +kernel, by decide +kernel⟩
abbrev sXTerm : Stmt := inClass (top 35) 11
theorem scXTerm : FnScope ["self", "line", "term", "name", "position", "table"] ["self", "line", "term"] (defScope sXTerm) := ⟨rfl, rfl, rfl, by decide +kernel, rfl, by decide +kernel, by decide +kernel⟩
section
variable {P : Program} {w : World} {K : PySem.W.Frag} {mg : Str → Option Value} {base : Heap}
theorem ok_xrows {CS C f : Addr} {fd : FuncData} (F : Fun K "row_parameters" "Scope.row_parameters" sXRows f fd) (TC : TS2 K CS) (T : TMl mg) : FnOk P w K mg base CX0 1 f fd ["self"] (spRowsX CS C) := by
  refine F.ok scXRows (fun vs H Q E h => ?_) (fun cdv A' outer s H vs Q E hr h => ?_)
  · obtain ⟨X, A, rs, ow, s, rfl, _⟩ := h
    rfl
  · obtain ⟨X, A, rs, ow, sc, rfl, S, k⟩ := h
    have hu := hu_of hr
    refine ⟨_, (pss_one (ps_ret (LiI.pe_listItems (by rfl) (fldK K (pv 0)) (by rfl) T.n_list boot_list))), ?_⟩
    refine w_ret ?_
    refine (ev_xRow TC S (ev_var rfl)) H (Ex.refl H) _ (fun H1 e1 => (⟨X.r, _, rfl, (S.ex e1).hr, fun H' p ts kp hp hts hns hl hpr => k p ts H' (fresh_back e1 hp) (e1.trans kp) hl ?_⟩ : LiI.rItemsL _ _ _))
    clear hl hp hts hns
    revert hpr
    generalize sc.rows = rows
    intro hpr
    induction rows generalizing ts with
    | nil => cases hpr; exact .nil
    | cons r rows ih =>
      cases hpr with
      | cons h t => exact .cons h (ih _ t)
theorem ok_xvals {CS C f : Addr} {fd : FuncData} (F : Fun K "value_parameters" "Scope.value_parameters" sXVals f fd) (TC : TS2 K CS) (T : TMl mg) : FnOk P w K mg base CX0 1 f fd ["self"] (spValsX CS C) := by
  refine F.ok scXVals (fun vs H Q E h => ?_) (fun cdv A' outer s H vs Q E hr h => ?_)
  · obtain ⟨X, A, rs, ow, s, rfl, _⟩ := h
    rfl
  · obtain ⟨X, A, rs, ow, sc, rfl, S, k⟩ := h
    refine ⟨_, (pss_one (ps_ret (pe_callTy (listOf K) (by rfl) T.n_list (by decide +kernel) (pa_cons (fldK K (pv 0)) pa_nil)))), ?_⟩
    exact s_retL (el_listA (ev_xVal TC S (ev_var rfl)) (.inl (SqL.of S.hv))) (fun p H5 hp e5 h5 => k p H5 hp e5 h5)
theorem ok_xdefr {CS C f : Addr} {fd : FuncData} (F : Fun K "define_row" "Scope.define_row" sXDefR f fd) (TC : TS2 K CS) : FnOk P w K mg base CX0 1 f fd ["self", "name", "table"] (spDefR CS C) := by
  refine F.ok scXDefR (fun vs H Q E h => ?_) (fun cdv A' outer s H vs Q E hr h => ?_)
  · obtain ⟨X, A, rs, ow, s, n, t, rfl, _⟩ := h
    rfl
  · obtain ⟨X, A, rs, ow, sc, n, t, rfl, S, sm, nn, kt, k⟩ := h
    have hu := hu_of hr
    refine ⟨_, (pss_one (ps_dput hu (fldK K (pv 0)) (pv 1) (pv 2) rfl)), ?_⟩
    refine s_dput (k := .inr n) (v := .str t) (ev_var rfl) (ev_xRow TC S (ev_var rfl)) (ev_var rfl) S.hr (by unfold kvS; rw [List.length_map]; have := sm.1; omega) (fun H1 e1 => ?_)
    rw [putK_new _ (fst_none nn), kvS_snoc]
    exact k _ ((Fr.of e1).trans (Fr.upd (List.mem_cons_self ..))) ((S.ex e1).putR kt)
theorem ok_xdefn {CS C f : Addr} {fd : FuncData} (F : Fun K "define_new_row" "Scope.define_new_row" sXDefN f fd) (TC : TS2 K CS) : FnOk P w K mg base CX0 1 f fd ["self", "name", "table"] (spDefN CS C) := by
  refine F.ok scXDefN (fun vs H Q E h => ?_) (fun cdv A' outer s H vs Q E hr h => ?_)
  · obtain ⟨X, A, rs, ow, s, n, t, rfl, _⟩ := h
    rfl
  · obtain ⟨X, A, rs, ow, sc, n, t, rfl, S, sm, nn, kt, k⟩ := h
    have hu := hu_of hr
    refine ⟨_, (pss_one (ps_dput hu (fldK K (pv 0)) (pv 1) (pv 2) rfl)), ?_⟩
    refine s_dput (k := .inr n) (v := .str t) (ev_var rfl) (ev_xNew TC S (ev_var rfl)) (ev_var rfl) S.hn (by unfold kvS; rw [List.length_map]; have := sm.2.1; omega) (fun H1 e1 => ?_)
    rw [putK_new _ (fst_none nn), kvS_snoc]
    exact k _ ((Fr.of e1).trans (Fr.upd (List.mem_cons_of_mem _ (List.mem_cons_self ..)))) ((S.ex e1).putN kt)
theorem ok_xcknew {CS C f : Addr} {fd : FuncData} {e : HA} (F : Fun K "check_new" "Scope.check_new" sXCkNew f fd) (TC : TS2 K CS) (eD : EX P w K mg base "DuplicateName" ["line", "name"] e.CD) : FnOk P w K mg base (L2.CX P w) 3 f fd ["self", "line", "name"] (spCkNew CS C e) := by
  refine F.okX scXCkNew (fun vs H Q E h => ?_) (fun cdv A' outer s H vs Q E hr h => ?_)
  · obtain ⟨X, A, rs, ow, s, line, n, rfl, _⟩ := h
    rfl
  · obtain ⟨X, A, rs, ow, sc, line, n, rfl, S, k1, k2⟩ := h
    obtain ⟨fD, fdD, OX_DuplicateName, IX_DuplicateName, TY_DuplicateName, GX_DuplicateName, BX_DuplicateName, NX_DuplicateName⟩ := eD.ex
    have hrX : Room (1 + 1) _ := hr
    have hu := hu_of hr
    refine ⟨_, (pss_one (ps_if (PW.pt (pw_or (pt_cmpR op_eq (pv 2) pe_str (nomark _)) (pw_or (pt_cmpR (inSeq K) (pv 2) (fldK K (pv 0)) (by rfl)) (pw_or (pt_cmp (pc_din hu (pv 2) (fldK K (pv 0)))) (pw_or1 (pt_cmp (pc_din hu (pv 2) (fldK K (pv 0)))))))))
      (pss_one (ps_raise rfl (takes_of rfl rfl rfl rfl) (pmk_oex OX_DuplicateName IX_DuplicateName TY_DuplicateName GX_DuplicateName hrX BX_DuplicateName .nil pass0 rfl NX_DuplicateName (pa_cons (pv 1) (pa_cons (pv 2) pa_nil)))))
      pss_nil)), ?_⟩
    refine s_when (b := ckNew sc n) (et_or (a := decide (n = "me")) (et_test (ev_is (ev_op (ev_var rfl) ev_c (rv_eq rfl)) (congrArg V.bl (str_beq _ _)))) (fun _ => et_or (a := decide (n ∈ sc.vals)) (et_test (ev_op (ev_var rfl) (ev_xVal TC S (ev_var rfl)) (rv_inStr (.inl (SqL.of S.hv))))) (fun _ => et_or (a := decide (n ∈ sc.rows.map (·.1))) (et_din (k := .inr n) (ev_var rfl) (ev_xRow TC S (ev_var rfl)) S.hr has_kvS) (fun _ => et_din (k := .inr n) (ev_var rfl) (ev_xNew TC S (ev_var rfl)) S.hn has_kvS)))) (fun b H1 e1 => ?_) (fun b H1 e1 => k1 b H1 e1)
    exact rz_mk (fs := ["line", "name"]) (vs := [.int line, .str n]) (ea_cons (ev_var rfl) (ea_cons (ev_var rfl) ea_nil)) rfl (by show 2 ≤ 1000; decide) ((k2 b).ex e1)
theorem ok_xcktab {CS C f fT : Addr} {fd fdT : FuncData} {e : HA} (F : Fun K "check_table" "Scope.check_table" sXCkTab f fd) (TC : TS2 K CS) (TC1 : TS0 K C) (eU : EX P w K mg base "UnknownName" ["line", "name"] e.CU)
    (M_Schema_tables : Meth K C "tables" fT) (G_Schema_tables : FnOk P w K mg base CX0 1 fT fdT ["self"] (spMTab C)) (b_Schema_tables : Binds K fdT ["self"] []) : FnOk P w K mg base (L2.CX P w) 3 f fd ["self", "line", "table"] (spCkTab CS C e) := by
  refine F.okX scXCkTab (fun vs H Q E h => ?_) (fun cdv A' outer s H vs Q E hr h => ?_)
  · obtain ⟨X, A, rs, ow, s, line, n, rfl, _⟩ := h
    rfl
  · obtain ⟨X, A, rs, ow, sc, line, n, rfl, S, k1, k2⟩ := h
    obtain ⟨fU, fdU, OX_UnknownName, IX_UnknownName, TY_UnknownName, GX_UnknownName, BX_UnknownName, NX_UnknownName⟩ := eU.ex
    have hrX : Room (1 + 1) _ := hr
    have hr_Schema_tables : Room 1 _ := hr.mono (by decide)
    have hu := hu_of hr
    refine ⟨_, (pss_one (ps_if (pt_cmpR (notInSeq K) (pv 2) (pe_meth0 (fldK K (pv 0)) TC1.cl M_Schema_tables G_Schema_tables hr_Schema_tables b_Schema_tables .nil pass0) (by rfl))
      (pss_one (ps_raise rfl (takes_of rfl rfl rfl rfl) (pmk_oex OX_UnknownName IX_UnknownName TY_UnknownName GX_UnknownName hrX BX_UnknownName .nil pass0 rfl NX_UnknownName (pa_cons (pv 1) (pa_cons (pv 2) pa_nil)))))
      pss_nil)), ?_⟩
    refine s_when (b := decide (n ∉ (tbs rs).map (·.nm))) (et_test (ev_opL (xs := ((tbs rs).map (·.nm)).map V.str) (ev_var rfl) (fun H1 e1 Q q => w_methS (ev_xSch TC (S.ex e1) (ev_var rfl)) (S.sa.ex e1) (fun _ _ _ _ _ => rfl) (fun H2 e2 => w_nil ⟨A, rs, ow, rfl, S.sa.ex (e1.trans e2), fun p H3 hp e3 h3 => q p H3 (fresh_back e2 hp) (e2.trans e3) h3⟩)) (fun p H5 h5 e5 => rv_niStr (.inl (SqL.of h5))))) (fun b H1 e1 => ?_) (fun b H1 e1 => k1 (decide_eq_true (by simpa using of_decide_eq_false b)) H1 e1)
    exact rz_mk (fs := ["line", "name"]) (vs := [.int line, .str n]) (ea_cons (ev_var rfl) (ea_cons (ev_var rfl) ea_nil)) rfl (by show 2 ≤ 1000; decide) ((k2 (decide_eq_false (of_decide_eq_true b))).ex e1)
theorem ok_xtabof {CS C f : Addr} {fd : FuncData} {e : HA} (F : Fun K "table_of" "Scope.table_of" sXTabOf f fd) (TC : TS2 K CS) (eU : EX P w K mg base "UnknownName" ["line", "name"] e.CU) : FnOk P w K mg base (L2.CX P w) 3 f fd ["self", "line", "name"] (spTabOf CS C e) := by
  refine F.okX scXTabOf (fun vs H Q E h => ?_) (fun cdv A' outer s H vs Q E hr h => ?_)
  · obtain ⟨X, A, rs, ow, s, line, n, rfl, _⟩ := h
    rfl
  · obtain ⟨X, A, rs, ow, sc, line, n, rfl, S, k1, k2⟩ := h
    obtain ⟨fU, fdU, OX_UnknownName, IX_UnknownName, TY_UnknownName, GX_UnknownName, BX_UnknownName, NX_UnknownName⟩ := eU.ex
    have hrX : Room (1 + 1) _ := hr
    have hu := hu_of hr
    refine ⟨_, (pss_cons (ps_if (pt_cmp (pc_dnotin hu (pv 2) (fldK K (pv 0))))
      (pss_one (ps_raise rfl (takes_of rfl rfl rfl rfl) (pmk_oex OX_UnknownName IX_UnknownName TY_UnknownName GX_UnknownName hrX BX_UnknownName .nil pass0 rfl NX_UnknownName (pa_cons (pv 1) (pa_cons (pv 2) pa_nil)))))
      pss_nil)
    (pss_one (ps_ret (pe_dget hu (fldK K (pv 0)) (pv 2) (fun _ _ => rfl))))), ?_⟩
    have hv : valV (kvS sc.rows) (.inr n) = (tabOf sc n).map V.str := val_fst
    refine q_when (b := !(tabOf sc n).isSome) (et_dni (k := .inr n) (ev_var rfl) (ev_xRow TC S (ev_var rfl)) S.hr (by rw [hv, Option.isSome_map])) (fun b H1 e1 => ?_) (fun b H1 e1 => ?_)
    · refine rz_mk (fs := ["line", "name"]) (vs := [.int line, .str n]) (ea_cons (ev_var rfl) (ea_cons (ev_var rfl) ea_nil)) rfl (by show 2 ≤ 1000; decide) ((k2 ?_).ex e1)
      cases z : tabOf sc n with
      | none => rfl
      | some t => rw [z] at b; cases b
    · cases z : tabOf sc n with
      | none => rw [z] at b; cases b
      | some t => exact s_ret (v := .str t) (ev_dget (k := .inr n) (ev_xRow TC (S.ex e1) (ev_var rfl)) (ev_var rfl) (S.ex e1).hr (by rw [hv, z]; rfl)) (fun H2 e2 => k1 t z H2 (e1.trans e2))
theorem ok_xtabany {CS C f fO : Addr} {fd fdO : FuncData} {e : HA} (F : Fun K "table_of_any" "Scope.table_of_any" sXTabAny f fd) (TC : TS2 K CS)
    (M_Scope_table_of : Meth K CS "table_of" fO) (G_Scope_table_of : FnOk P w K mg base (L2.CX P w) 3 fO fdO ["self", "line", "name"] (spTabOf CS C e)) (b_Scope_table_of : Binds K fdO ["self", "line", "name"] []) : FnOk P w K mg base (L2.CX P w) 4 f fd ["self", "line", "name"] (spTabAny CS C e) := by
  refine F.okX scXTabAny (fun vs H Q E h => ?_) (fun cdv A' outer s H vs Q E hr h => ?_)
  · obtain ⟨X, A, rs, ow, s, line, n, rfl, _⟩ := h
    rfl
  · obtain ⟨X, A, rs, ow, sc, line, n, rfl, S, k1, k2⟩ := h
    have hr_Scope_table_of : Room 3 _ := hr
    have hu := hu_of hr
    refine ⟨_, (pss_cons (ps_if (pt_cmp (pc_din hu (pv 2) (fldK K (pv 0))))
      (pss_one (ps_ret (pe_dget hu (fldK K (pv 0)) (pv 2) (fun _ _ => rfl))))
      pss_nil)
    (pss_one (ps_ret (pe_meth (pv 0) TC.cl M_Scope_table_of G_Scope_table_of hr_Scope_table_of b_Scope_table_of .nil (passes_call (takes_of rfl rfl rfl rfl) (fun _ _ _ _ h => h)) (pa_cons (pv 1) (pa_cons (pv 2) pa_nil)))))), ?_⟩
    have hv : valV (kvS sc.news) (.inr n) = (fstOf sc.news n).map V.str := val_fst
    refine q_when (b := (fstOf sc.news n).isSome) (et_din (k := .inr n) (ev_var rfl) (ev_xNew TC S (ev_var rfl)) S.hn (by rw [hv, Option.isSome_map])) (fun b H1 e1 => ?_) (fun b H1 e1 => ?_)
    · cases z : fstOf sc.news n with
      | none => rw [z] at b; cases b
      | some t => exact s_ret (v := .str t) (ev_dget (k := .inr n) (ev_xNew TC (S.ex e1) (ev_var rfl)) (ev_var rfl) (S.ex e1).hn (by rw [hv, z]; rfl)) (fun H2 e2 => k1 t (by unfold tabAny; rw [z]) H2 (e1.trans e2))
    · have z : fstOf sc.news n = none := by
        cases z : fstOf sc.news n with
        | none => rfl
        | some t => rw [z] at b; cases b
      have ea : tabAny sc n = tabOf sc n := by unfold tabAny; rw [z]; rfl
      rw [ea] at k1 k2
      refine w_ret (w_methX (ev_var rfl) (S.ex e1) (fun _ _ _ _ => rfl) (fun H2 e2 => w_cons (w_ev (ev_var rfl) fun H3 e3 => w_cons (w_ev (ev_var rfl) fun H4 e4 => w_nil ⟨X, A, rs, ow, sc, line, n, rfl, S.ex (((e1.trans e2).trans e3).trans e4), fun t ht H5 e5 => k1 t ht H5 ((((e1.trans e2).trans e3).trans e4).trans e5), fun hn => (k2 hn).ex (((e1.trans e2).trans e3).trans e4)⟩))))
end
end My

namespace My
open PySem PySem.Spec PyProof.Rows L2 Evl
/-! ### terms, parameters -/
theorem dot_cons (t : Str) : ∃ n pos, dotS t = n :: pos := by
  have := PyProof.Rows.split_pos t "."
  unfold dotS
  cases h : Txt.split t "." with
  | nil => rw [h] at this; simp at this
  | cons n pos => exact ⟨n, pos, rfl⟩
theorem ckTerm_go {tb : List Tb} {s : Sc} {t n : Str} {pos : List Str} (hp : tmPlain s t = false) (hd : dotS t = n :: pos) : ckTerm tb s t = match tabOf s n with
    | none => some (.unk n)
    | some b => if pos = [] then some (.unk n) else (posErr tb b pos).map .unk := by
  unfold ckTerm
  rw [if_neg (by rw [hp]; exact Bool.false_ne_true), hd]
  rfl
theorem isEmpty_nil {α : Type} (xs : List α) (f : α → V) : (!(xs.map f).isEmpty) = !xs.isEmpty := by cases xs <;> rfl
def spEqX (CS C : Addr) (e : HA) : Sp := fun vs H Q E => ∃ X A rs ow s line wl ws, vs = [.ref X.x, .int line, .ref wl] ∧ HX CS C H X A rs ow s ∧ H wl = some (.lst (ws.map V.str)) ∧ WsOk ws ∧ 4 ≤ ws.length ∧
  (rdEq (tbs rs) s ws = none → ∀ p H', H p = none → Ex H H' → H' p = some (.tup [.str (ws.getD 1 ""), .str (ws.getD 3 "")]) → Q (.ref p) H') ∧ (∀ er, rdEq (tbs rs) s ws = some er → Rz [] E (e.clsH er) (heFs line er) H)
def spParX (CS C : Addr) (e : HA) : Sp := fun vs H Q E => ∃ X A rs ow s line wl ws, vs = [.ref X.x, .int line, .ref wl] ∧ HX CS C H X A rs ow s ∧ Sm9 s ∧ H wl = some (.lst (ws.map V.str)) ∧ WsOk ws ∧ 2 ≤ ws.length ∧ (ws.getD 0 "" ≠ "value" → 4 ≤ ws.length) ∧
  (∀ s', rdPar (tbs rs) s ws = .inr s' → ∀ H', Fr (mutX X) H H' → HX CS C H' X A rs ow s' → Q .non H') ∧ (∀ er, rdPar (tbs rs) s ws = .inl er → Rz [] E (e.clsH er) (heFs line er) H)
def spCkPar (CS C : Addr) (e : HA) : Sp := fun vs H Q E => ∃ X A rs ow s line, vs = [.int line, .ref X.x] ∧ HX CS C H X A rs ow s ∧
  (¬ (3 < s.rows.length ∨ 4 < s.vals.length) → ∀ H', Ex H H' → Q .non H') ∧ (3 < s.rows.length ∨ 4 < s.vals.length → Rz [] E (e.clsH .many) (heFs line .many) H)
abbrev sXEq : Stmt := inClass (top 35) 6
theorem scXEq : FnScope ["self", "line", "words"] ["self", "line", "words"] (defScope sXEq) := ⟨rfl, rfl, rfl, by decide +kernel, rfl, by decide +kernel, by decide +kernel⟩
abbrev sXPar : Stmt := inClass (top 35) 5
theorem scXPar : FnScope ["self", "line", "words"] ["self", "line", "words"] (defScope sXPar) := ⟨rfl, rfl, rfl, by decide +kernel, rfl, by decide +kernel, by decide +kernel⟩
abbrev sCkPar : Stmt := top 39
theorem scCkPar : FnScope ["line", "scope"] ["line", "scope"] (defScope sCkPar) := ⟨rfl, rfl, rfl, by decide +kernel, rfl, by decide +kernel, by decide +kernel⟩
structure TCp (K : PySem.W.Frag) (mg : Str → Option Value) (CH : Addr) : Prop where
  g_Handler : mg "Handler" = some (.ref CH)
  n_len : mg "len" = none
  rd : ClX.CRead K CH (.type "type")
  c1 : ∃ u, ClX.CVal K CH (.type "type") "MOST_ROWS" (.int 3) u
  c2 : ∃ u, ClX.CVal K CH (.type "type") "MOST_VALUES" (.int 4) u
section
variable {P : Program} {w : World} {K : PySem.W.Frag} {mg : Str → Option Value} {base : Heap}
theorem ok_xterm {CS C f fC fO fP : Addr} {fd fdC fdO fdP : FuncData} {e : HA} (F : Fun K "check_term" "Scope.check_term" sXTerm f fd) (TC : TS2 K CS) (TC1 : TS0 K C) (eU : EX P w K mg base "UnknownName" ["line", "name"] e.CU)
    (G_is_constant : FnOk P w K mg base CX0 2 fC fdC ["word"] (spStrB isCon)) (m_is_constant : mg "is_constant" = some (.ref fC)) (k_is_constant : PySem.W.keepIn K (.ref fC) = true) (b_is_constant : Binds K fdC ["word"] [])
    (M_Scope_table_of : Meth K CS "table_of" fO) (G_Scope_table_of : FnOk P w K mg base (L2.CX P w) 3 fO fdO ["self", "line", "name"] (spTabOf CS C e)) (b_Scope_table_of : Binds K fdO ["self", "line", "name"] [])
    (M_Schema_check_position : Meth K C "check_position" fP) (G_Schema_check_position : FnOk P w K mg base (L2.CX P w) 3 fP fdP ["self", "line", "table", "names"] (spPos C e.toErA)) (b_Schema_check_position : Binds K fdP ["self", "line", "table", "names"] []) :
    FnOk P w K mg base (L2.CX P w) 4 f fd ["self", "line", "term"] (spTerm CS C e) := by
  refine F.okX scXTerm (fun vs H Q E h => ?_) (fun cdv A' outer s H vs Q E hr h => ?_)
  · obtain ⟨X, A, rs, ow, s, line, t, rfl, _⟩ := h
    rfl
  · obtain ⟨X, A, rs, ow, sc, line, t, rfl, S, lt, k1, k2⟩ := h
    obtain ⟨fU, fdU, OX_UnknownName, IX_UnknownName, TY_UnknownName, GX_UnknownName, BX_UnknownName, NX_UnknownName⟩ := eU.ex
    have hrX : Room (1 + 1) _ := hr.mono (by decide)
    have hr_is_constant : Room 2 _ := hr.mono (by decide)
    have hr_Scope_table_of : Room 3 _ := hr
    have hr_Schema_check_position : Room 3 _ := hr
    have hu := hu_of hr
    refine ⟨_, (pss_cons (ps_if (PW.pt (pw_or (pt_cmpR op_eq (pv 2) pe_str (nomark _)) (pw_or (pt_cmpR (inSeq K) (pv 2) (fldK K (pv 0)) (by rfl)) (pw_or1 (pt_val (pe_call G_is_constant hr_is_constant rfl m_is_constant k_is_constant b_is_constant .nil pass0 (pa_cons (pv 2) pa_nil)))))))
      (pss_one ps_retN)
      pss_nil)
    (pss_cons (ps_asg (bmK K PySem.F.plainAttrs_str PySem.F.slot_str_split PySem.F.type_str_split mt_split (pv 2) (pa_cons pe_str pa_nil)) (pg_star K rfl (pg_name (i := 3) scXTerm.nd rfl (Or.inl rfl)) (pg_name (i := 4) scXTerm.nd rfl (Or.inl rfl))))
    (pss_cons (ps_set (i := 5) scXTerm.nd rfl (Or.inl rfl) (pe_meth (pv 0) TC.cl M_Scope_table_of G_Scope_table_of hr_Scope_table_of b_Scope_table_of .nil (passes_call (takes_of rfl rfl rfl rfl) (fun _ _ _ _ h => h)) (pa_cons (pv 1) (pa_cons (pv 3) pa_nil))))
    (pss_cons (ps_if (pt_not (truK K (pv 4)))
      (pss_one (ps_raise rfl (takes_of rfl rfl rfl rfl) (pmk_oex OX_UnknownName IX_UnknownName TY_UnknownName GX_UnknownName hrX BX_UnknownName .nil pass0 rfl NX_UnknownName (pa_cons (pv 1) (pa_cons (pv 3) pa_nil)))))
      pss_nil)
    (pss_one (ps_expr (pe_meth (fldK K (pv 0)) TC1.cl M_Schema_check_position G_Schema_check_position hr_Schema_check_position b_Schema_check_position .nil (passes_call (takes_of rfl rfl rfl rfl) (fun _ _ _ _ h => h)) (pa_cons (pv 1) (pa_cons (pv 5) (pa_cons (pv 4) pa_nil)))))))))), ?_⟩
    refine q_when (b := tmPlain sc t) (et_or (a := decide (t = "me")) (et_test (ev_is (ev_op (ev_var rfl) ev_c (rv_eq rfl)) (congrArg V.bl (str_beq _ _)))) (fun _ => et_or (a := decide (t ∈ sc.vals)) (et_test (ev_op (ev_var rfl) (ev_xVal TC S (ev_var rfl)) (rv_inStr (.inl (SqL.of S.hv))))) (fun _ => et_B (ev_call (ea_cons (ev_var rfl) ea_nil) (fun H1 e1 Q q E => ⟨t, rfl, by omega, q⟩))))) (fun b H1 e1 => ?_) (fun b H1 e1 => ?_)
    · exact k1 (by unfold ckTerm; rw [if_pos b]) H1 e1
    obtain ⟨n, pos, hd⟩ := dot_cons t
    have go := ckTerm_go (tb := tbs rs) b hd
    have lp := PyProof.Rows.split_le t "."
    refine w_seq ((el_split (a := t) (b := ".") (ev_var rfl) ev_c rfl (by omega)) H1 (Ex.refl H1) _ fun p H2 hp e2 h2 => ?_)
    rw [show Txt.split t "." = n :: pos from hd] at h2
    refine ⟨p, .str n, pos.map V.str, rfl, SqL.of h2, fun q hq => ?_⟩
    have e02 : Ex H (upd H2 q (.lst (pos.map V.str))) := (e1.trans e2).trans (Ex.new hq)
    have hq2 : (upd H2 q (.lst (pos.map V.str))) q = some (.lst (pos.map V.str)) := upd_same
    generalize upd H2 q (.lst (pos.map V.str)) = H3 at e02 hq2
    have S3 := S.ex e02
    dsimp only
    refine w_seq (w_asg (w_methX (ev_var rfl) S3 (fun _ _ _ _ => rfl) (fun H4 e4 => w_cons (w_ev (ev_var rfl) fun H5 e5 => w_cons (w_ev (ev_var rfl) fun H6 e6 => w_nil ⟨X, A, rs, ow, sc, line, n, rfl, S3.ex ((e4.trans e5).trans e6), fun tab ht H7 e7 => ?_, fun hn => ?_⟩)))))
    rotate_left
    · refine ((k2 (.unk n) ?_).ex (((e02.trans e4).trans e5).trans e6))
      rw [go, hn]
    rw [ht] at go
    dsimp only at go
    have e37 := ((e4.trans e5).trans e6).trans e7
    have e07 := e02.trans e37
    have hq7 := e37 _ _ hq2
    have S7 := S.ex e07
    have kt : known (tbs rs) tab = true := by
      obtain ⟨x, hx, rfl⟩ := fst_mem ht
      exact S.kr x hx
    dsimp only
    refine q_when (b := !(!(pos.map V.str).isEmpty)) (et_not (et_truL (ev_var rfl) hq7)) (fun b H8 e8 => ?_) (fun b H8 e8 => ?_)
    · refine rz_mk (fs := ["line", "name"]) (vs := [.int line, .str n]) (ea_cons (ev_var rfl) (ea_cons (ev_var rfl) ea_nil)) rfl (by show 2 ≤ 1000; decide) ((k2 (.unk n) ?_).ex (e07.trans e8))
      rw [go, if_pos]
      cases pos with
      | nil => rfl
      | cons a l => cases b
    have ne : pos ≠ [] := by
      rintro rfl
      cases b
    rw [if_neg ne] at go
    have e08 := e07.trans e8
    have S8 := S.ex e08
    have lpos : 1 ≤ pos.length := by
      cases pos with
      | nil => exact absurd rfl ne
      | cons a l => simp
    have lpos2 : pos.length ≤ 1000 := by
      have : (Txt.split t ".").length = pos.length + 1 := by rw [show Txt.split t "." = n :: pos from hd]; rfl
      omega
    refine w_drop (w_methS (ev_xSch TC S8 (ev_var rfl)) S8.sa (fun _ _ _ _ _ => rfl) (fun H9 e9 => w_cons (w_ev (ev_var rfl) fun H10 e10 => w_cons (w_ev (ev_var rfl) fun H11 e11 => w_cons (w_ev (ev_var rfl) fun H12 e12 => w_nil ⟨A, rs, ow, line, tab, q, pos, rfl, S8.sa.ex (((e9.trans e10).trans e11).trans e12), S.wf, kt, ((((e8.trans e9).trans e10).trans e11).trans e12) _ _ hq7, lpos, lpos2, fun hn H13 e13 => ?_, fun c hc => ?_⟩)))))
    · exact k1 (by rw [go, hn]; rfl) H13 (((((e08.trans e9).trans e10).trans e11).trans e12).trans e13)
    · exact (k2 (.unk c) (by rw [go, hc]; rfl)).ex ((((e08.trans e9).trans e10).trans e11).trans e12)
theorem ok_xeq {CS C f fT : Addr} {fd fdT : FuncData} {e : HA} (F : Fun K "read_equation" "Scope.read_equation" sXEq f fd) (TC : TS2 K CS)
    (M_Scope_check_term : Meth K CS "check_term" fT) (G_Scope_check_term : FnOk P w K mg base (L2.CX P w) 4 fT fdT ["self", "line", "term"] (spTerm CS C e)) (b_Scope_check_term : Binds K fdT ["self", "line", "term"] []) :
    FnOk P w K mg base (L2.CX P w) 5 f fd ["self", "line", "words"] (spEqX CS C e) := by
  refine F.okX scXEq (fun vs H Q E h => ?_) (fun cdv A' outer s H vs Q E hr h => ?_)
  · obtain ⟨X, A, rs, ow, s, line, wl, ws, rfl, _⟩ := h
    rfl
  · obtain ⟨X, A, rs, ow, sc, line, wl, ws, rfl, S, hwl, ok, len, k1, k2⟩ := h
    have hr_Scope_check_term : Room 4 _ := hr
    have hu := hu_of hr
    refine ⟨_, (pss_cons (ps_expr (pe_meth (pv 0) TC.cl M_Scope_check_term G_Scope_check_term hr_Scope_check_term b_Scope_check_term .nil (passes_call (takes_of rfl rfl rfl rfl) (fun _ _ _ _ h => h)) (pa_cons (pv 1) (pa_cons (pe_ix (ixL K) (pv 2) pe_int (fun _ _ => rfl)) pa_nil))))
    (pss_cons (ps_expr (pe_meth (pv 0) TC.cl M_Scope_check_term G_Scope_check_term hr_Scope_check_term b_Scope_check_term .nil (passes_call (takes_of rfl rfl rfl rfl) (fun _ _ _ _ h => h)) (pa_cons (pv 1) (pa_cons (pe_ix (ixL K) (pv 2) pe_int (fun _ _ => rfl)) pa_nil))))
    (pss_one (ps_ret (pe_tup (pa_cons (pe_ix (ixL K) (pv 2) pe_int (fun _ _ => rfl)) (pa_cons (pe_ix (ixL K) (pv 2) pe_int (fun _ _ => rfl)) pa_nil))))))), ?_⟩
    have at_ : ∀ {H2 : Hp} {σ : L2.St} {i : Int} (k : Nat), i = (k : Int) → Ex H H2 → σ[2]? = some (some (.ref wl)) → k < ws.length → Ev (tOp (rIxL K) (tVar 2) (tC (.int i))) σ H2 (.str (ws.getD k "")) := fun {H2 σ i} k hi e2 h2 hk => ev_at k hi (ev_var h2) (SqL.of (e2 _ _ hwl)) hk
    have go : rdEq (tbs rs) sc ws = match ckTerm (tbs rs) sc (ws.getD 1 "") with
        | some er => some er
        | none => ckTerm (tbs rs) sc (ws.getD 3 "") := by
      unfold rdEq ckTerms
      cases ckTerm (tbs rs) sc (ws.getD 1 "") with
      | some er => rfl
      | none =>
        unfold ckTerms
        cases ckTerm (tbs rs) sc (ws.getD 3 "") <;> rfl
    refine w_seq (w_drop (w_methX (ev_var rfl) S (fun _ _ _ _ => rfl) (fun H1 e1 => w_cons (w_ev (ev_var rfl) fun H2 e2 => w_cons (w_ev (at_ 1 rfl (e1.trans e2) rfl (by omega)) fun H3 e3 => w_nil ⟨X, A, rs, ow, sc, line, ws.getD 1 "", rfl, S.ex ((e1.trans e2).trans e3), ws_le ok 1, fun hn H4 e4 => ?_, fun er her => (k2 er (by rw [go, her])).ex ((e1.trans e2).trans e3)⟩)))))
    rw [hn] at go
    dsimp only at go
    have e04 := ((e1.trans e2).trans e3).trans e4
    have S4 := S.ex e04
    dsimp only
    refine w_seq (w_drop (w_methX (ev_var rfl) S4 (fun _ _ _ _ => rfl) (fun H5 e5 => w_cons (w_ev (ev_var rfl) fun H6 e6 => w_cons (w_ev (at_ 3 rfl ((e04.trans e5).trans e6) rfl (by omega)) fun H7 e7 => w_nil ⟨X, A, rs, ow, sc, line, ws.getD 3 "", rfl, S4.ex ((e5.trans e6).trans e7), ws_le ok 3, fun hn2 H8 e8 => ?_, fun er her => (k2 er (by rw [go, her])).ex (((e04.trans e5).trans e6).trans e7)⟩)))))
    have e08 := (((e04.trans e5).trans e6).trans e7).trans e8
    dsimp only
    exact s_retU (eu_tup (ea_cons (at_ 1 rfl e08 rfl (by omega)) (ea_cons (at_ 3 rfl e08 rfl (by omega)) ea_nil)) (by show 2 ≤ 100000; decide)) (fun p H9 hp e9 h9 => k1 (by rw [go, hn2]) p H9 (fresh_back e08 hp) (e08.trans e9) h9)
end
end My

namespace My
open PySem PySem.Spec PyProof.Rows L2 Evl
section
variable {P : Program} {w : World} {K : PySem.W.Frag} {mg : Str → Option Value} {base : Heap}
theorem ok_xpar {CS C f fN fT fD : Addr} {fd fdN fdT fdD : FuncData} {e : HA} (F : Fun K "read_parameter" "Scope.read_parameter" sXPar f fd) (TC : TS2 K CS)
    (M_Scope_check_new : Meth K CS "check_new" fN) (G_Scope_check_new : FnOk P w K mg base (L2.CX P w) 3 fN fdN ["self", "line", "name"] (spCkNew CS C e)) (b_Scope_check_new : Binds K fdN ["self", "line", "name"] [])
    (M_Scope_check_table : Meth K CS "check_table" fT) (G_Scope_check_table : FnOk P w K mg base (L2.CX P w) 3 fT fdT ["self", "line", "table"] (spCkTab CS C e)) (b_Scope_check_table : Binds K fdT ["self", "line", "table"] [])
    (M_Scope_define_row : Meth K CS "define_row" fD) (G_Scope_define_row : FnOk P w K mg base CX0 1 fD fdD ["self", "name", "table"] (spDefR CS C)) (b_Scope_define_row : Binds K fdD ["self", "name", "table"] []) :
    FnOk P w K mg base (L2.CX P w) 4 f fd ["self", "line", "words"] (spParX CS C e) := by
  refine F.okX scXPar (fun vs H Q E h => ?_) (fun cdv A' outer s H vs Q E hr h => ?_)
  · obtain ⟨X, A, rs, ow, s, line, wl, ws, rfl, _⟩ := h
    rfl
  · obtain ⟨X, A, rs, ow, sc, line, wl, ws, rfl, S, sm, hwl, ok, l2, l4, k1, k2⟩ := h
    have hr_Scope_check_new : Room 3 _ := hr
    have hr_Scope_check_table : Room 3 _ := hr
    have hr_Scope_define_row : Room 1 _ := hr.mono (by decide)
    have hu := hu_of hr
    refine ⟨_, (pss_cons (ps_expr (pe_meth (pv 0) TC.cl M_Scope_check_new G_Scope_check_new hr_Scope_check_new b_Scope_check_new .nil (passes_call (takes_of rfl rfl rfl rfl) (fun _ _ _ _ h => h)) (pa_cons (pv 1) (pa_cons (pe_ix (ixL K) (pv 2) pe_int (fun _ _ => rfl)) pa_nil))))
    (pss_one (ps_if (pt_cmpR op_eq (pe_ix (ixL K) (pv 2) pe_int (fun _ _ => rfl)) pe_str (nomark _))
      (pss_one (ps_expr (bmK K PySem.F.plainAttrs_list PySem.F.slot_list_append PySem.F.type_list_append mt_append (fldK K (pv 0)) (pa_cons (pe_ix (ixL K) (pv 2) pe_int (fun _ _ => rfl)) pa_nil))))
      (pss_cons (ps_expr (pe_meth (pv 0) TC.cl M_Scope_check_table G_Scope_check_table hr_Scope_check_table b_Scope_check_table .nil (passes_call (takes_of rfl rfl rfl rfl) (fun _ _ _ _ h => h)) (pa_cons (pv 1) (pa_cons (pe_ix (ixL K) (pv 2) pe_int (fun _ _ => rfl)) pa_nil))))
      (pss_one (ps_expr (pe_meth (pv 0) TC.cl M_Scope_define_row G_Scope_define_row hr_Scope_define_row b_Scope_define_row .nil pass0 (pa_cons (pe_ix (ixL K) (pv 2) pe_int (fun _ _ => rfl)) (pa_cons (pe_ix (ixL K) (pv 2) pe_int (fun _ _ => rfl)) pa_nil))))))))), ?_⟩
    have at_ : ∀ {H2 : Hp} {σ : L2.St} {i : Int} (k : Nat), i = (k : Int) → Ex H H2 → σ[2]? = some (some (.ref wl)) → k < ws.length → Ev (tOp (rIxL K) (tVar 2) (tC (.int i))) σ H2 (.str (ws.getD k "")) := fun {H2 σ i} k hi e2 h2 hk => ev_at k hi (ev_var h2) (SqL.of (e2 _ _ hwl)) hk
    refine w_seq (w_drop (w_methX (ev_var rfl) S (fun _ _ _ _ => rfl) (fun H1 e1 => w_cons (w_ev (ev_var rfl) fun H2 e2 => w_cons (w_ev (at_ 1 rfl (e1.trans e2) rfl (by omega)) fun H3 e3 => w_nil ⟨X, A, rs, ow, sc, line, ws.getD 1 "", rfl, S.ex ((e1.trans e2).trans e3), fun hn H4 e4 => ?_, fun hn => (k2 (.dup (ws.getD 1 "")) (by unfold rdPar; rw [if_pos hn])).ex ((e1.trans e2).trans e3)⟩)))))
    have e04 := ((e1.trans e2).trans e3).trans e4
    have S4 := S.ex e04
    obtain ⟨_, n2, n3, _⟩ := ckNew_at hn
    dsimp only
    refine s_if (b := decide (ws.getD 0 "" = "value")) (et_test (ev_is (ev_op (at_ 0 rfl e04 rfl (by omega)) ev_c (rv_eq rfl)) (congrArg V.bl (str_beq _ _)))) (fun c H5 e5 => ?_) (fun c H5 e5 => ?_)
    · have c := of_decide_eq_true c
      have e05 := e04.trans e5
      have S5 := S.ex e05
      refine s_app S5.hv (ev_xVal TC S5 (ev_var rfl)) (at_ 1 rfl e05 rfl (by omega)) (by rw [List.length_map]; have := sm.2.2; omega) (fun H6 e6 => ?_)
      have q : sc.vals.map V.str ++ [.str (ws.getD 1 "")] = (sc.vals ++ [ws.getD 1 ""]).map V.str := by rw [List.map_append]; rfl
      rw [q]
      exact k1 _ (by unfold rdPar; rw [if_neg (by rw [hn]; exact Bool.false_ne_true), if_pos c]) _ ((Fr.of (e05.trans e6)).trans (Fr.upd (List.mem_cons_of_mem _ (List.mem_cons_of_mem _ (List.mem_cons_self ..))))) ((S5.ex e6).putV)
    · have c := of_decide_eq_false c
      have len := l4 c
      have e05 := e04.trans e5
      have S5 := S.ex e05
      have go : rdPar (tbs rs) sc ws = if known (tbs rs) (ws.getD 3 "") = false then .inl (.unk (ws.getD 3 "")) else .inr { sc with rows := sc.rows ++ [(ws.getD 1 "", ws.getD 3 "")] } := by
        unfold rdPar
        rw [if_neg (by rw [hn]; exact Bool.false_ne_true), if_neg c]
      refine w_seq (w_drop (w_methX (ev_var rfl) S5 (fun _ _ _ _ => rfl) (fun H6 e6 => w_cons (w_ev (ev_var rfl) fun H7 e7 => w_cons (w_ev (at_ 3 rfl ((e05.trans e6).trans e7) rfl (by omega)) fun H8 e8 => w_nil ⟨X, A, rs, ow, sc, line, ws.getD 3 "", rfl, S5.ex ((e6.trans e7).trans e8), fun kt H9 e9 => ?_, fun kt => (k2 (.unk (ws.getD 3 "")) (by rw [go, if_pos kt])).ex (((e05.trans e6).trans e7).trans e8)⟩)))))
      have e09 := (((e05.trans e6).trans e7).trans e8).trans e9
      have S9 := S.ex e09
      rw [if_neg (by rw [kt]; exact fun z => nomatch z)] at go
      dsimp only
      refine w_drop (w_methX (ev_var rfl) S9 (fun _ _ _ _ => rfl) (fun H10 e10 => w_cons (w_ev (at_ 1 rfl (e09.trans e10) rfl (by omega)) fun H11 e11 => w_cons (w_ev (at_ 3 rfl ((e09.trans e10).trans e11) rfl (by omega)) fun H12 e12 => w_nil ⟨X, A, rs, ow, sc, ws.getD 1 "", ws.getD 3 "", rfl, S9.ex ((e10.trans e11).trans e12), sm, n3, kt, fun H13 fr S13 => ?_⟩))))
      exact k1 _ go H13 ((Fr.of (((e09.trans e10).trans e11).trans e12)).trans fr) S13
theorem paired_len {α β : Type} {R : α → β → Prop} {xs : List α} {ys : List β} (h : Paired R xs ys) : xs.length = ys.length := Paired.length h
theorem ok_ckpar {CS C CH f fR fV : Addr} {fd fdR fdV : FuncData} {e : HA} (F : Fun K "check_parameters" "check_parameters" sCkPar f fd) (TC : TS2 K CS) (T : TCp K mg CH) (eM : EX P w K mg base "TooMany" ["line"] e.CM)
    (M_Scope_row_parameters : Meth K CS "row_parameters" fR) (G_Scope_row_parameters : FnOk P w K mg base CX0 1 fR fdR ["self"] (spRowsX CS C)) (b_Scope_row_parameters : Binds K fdR ["self"] [])
    (M_Scope_value_parameters : Meth K CS "value_parameters" fV) (G_Scope_value_parameters : FnOk P w K mg base CX0 1 fV fdV ["self"] (spValsX CS C)) (b_Scope_value_parameters : Binds K fdV ["self"] []) :
    FnOk P w K mg base (L2.CX P w) 3 f fd ["line", "scope"] (spCkPar CS C e) := by
  refine F.okX scCkPar (fun vs H Q E h => ?_) (fun cdv A' outer s H vs Q E hr h => ?_)
  · obtain ⟨X, A, rs, ow, s, line, rfl, _⟩ := h
    rfl
  · obtain ⟨X, A, rs, ow, sc, line, rfl, S, k1, k2⟩ := h
    obtain ⟨fM, fdM, OX_TooMany, IX_TooMany, TY_TooMany, GX_TooMany, BX_TooMany, NX_TooMany⟩ := eM.ex
    have hrX : Room (1 + 1) _ := hr
    have hr_Scope_row_parameters : Room 1 _ := hr.mono (by decide)
    have hr_Scope_value_parameters : Room 1 _ := hr.mono (by decide)
    have hu := hu_of hr
    obtain ⟨u1, C1⟩ := T.c1
    obtain ⟨u2, C2⟩ := T.c2
    refine ⟨_, (pss_one (ps_if (PW.pt (pw_or (pt_cmpR op_gt (pe_callB (lenSeq K) (by rfl) T.n_len (by decide +kernel) (pa_cons (pe_meth0 (pv 1) TC.cl M_Scope_row_parameters G_Scope_row_parameters hr_Scope_row_parameters b_Scope_row_parameters .nil pass0) pa_nil)) (cvalK K (pe_cls rfl T.g_Handler)) (nomark _)) (pw_or1 (pt_cmpR op_gt (pe_callB (lenSeq K) (by rfl) T.n_len (by decide +kernel) (pa_cons (pe_meth0 (pv 1) TC.cl M_Scope_value_parameters G_Scope_value_parameters hr_Scope_value_parameters b_Scope_value_parameters .nil pass0) pa_nil)) (cvalK K (pe_cls rfl T.g_Handler)) (nomark _)))))
      (pss_one (ps_raise rfl (takes_of rfl rfl rfl rfl) (pmk_oex OX_TooMany IX_TooMany TY_TooMany GX_TooMany hrX BX_TooMany .nil pass0 rfl NX_TooMany (pa_cons (pv 0) pa_nil))))
      pss_nil)), ?_⟩
    refine s_when (b := decide (3 < sc.rows.length) || decide (4 < sc.vals.length)) (et_or (et_test (ev_is (ev_op (x := .int (sc.rows.length : Int)) (fun H1 e1 Q q => w_methX (ev_var rfl) (S.ex e1) (fun _ _ _ _ => rfl) (fun H2 e2 => w_nil ⟨X, A, rs, ow, sc, rfl, S.ex (e1.trans e2), fun p as H3 hp e3 h3 pr => ⟨p, _, rfl, .inl (SqL.of h3), by rw [List.length_map, paired_len pr]; exact q H3 (e2.trans e3)⟩⟩)) (ev_cval ev_c T.rd C1) rv_I0) (congrArg V.bl (decide_eq_decide.mpr ⟨fun z => by omega, fun z => by omega⟩))))
      (fun _ => et_test (ev_is (ev_op (x := .int (sc.vals.length : Int)) (fun H1 e1 Q q => w_methX (ev_var rfl) (S.ex e1) (fun _ _ _ _ => rfl) (fun H2 e2 => w_nil ⟨X, A, rs, ow, sc, rfl, S.ex (e1.trans e2), fun p H3 hp e3 h3 => ⟨p, _, rfl, .inl (SqL.of h3), by rw [List.length_map]; exact q H3 (e2.trans e3)⟩⟩)) (ev_cval ev_c T.rd C2) rv_I0) (congrArg V.bl (decide_eq_decide.mpr ⟨fun z => by omega, fun z => by omega⟩))))) (fun b H1 e1 => ?_) (fun b H1 e1 => k1 (by simpa using b) H1 e1)
    exact rz_mk (fs := ["line"]) (vs := [.int line]) (ea_cons (ev_var rfl) ea_nil) rfl (by show 1 ≤ 1000; decide) ((k2 (by simpa using b)).ex e1)
end
end My

namespace My
open PySem PySem.Spec PyProof.Rows L2 Evl
/-! ### lines that change the base -/
def DdAt (CD : Addr) (H : Hp) (d : Addr) (x : Dd) : Prop := ∃ dx q, H d = some (.ins CD dx [("kind", .str x.kind), ("row", .str x.row), ("table", .str x.table), ("under", parV x.under), ("column", parV x.col), ("terms", .ref q)]) ∧ H q = some (.tup (x.terms.map V.str))
structure TS3 (K : PySem.W.Frag) (CD : Addr) : Prop where
  cl : Cls K CD
  n1 : NoAttr K CD "kind"
  n2 : NoAttr K CD "row"
  n3 : NoAttr K CD "table"
  n4 : NoAttr K CD "under"
  n5 : NoAttr K CD "column"
  n6 : NoAttr K CD "terms"
def spInitD (CD : Addr) : Sp := fun vs H Q _ => ∃ (x dx tl : Addr) (d : Dd), vs = [.ref x, .str d.kind, .str d.row, .str d.table, parV d.under, parV d.col, .ref tl] ∧ H x = some (.ins CD dx []) ∧ H tl = some (.lst (d.terms.map V.str)) ∧ ∀ H', Fr [x] H H' → DdAt CD H' x d → Q .non H'
abbrev sInitD : Stmt := inClass (top 11) 0
theorem scInitD : FnScope ["self", "kind", "row", "table", "under", "column", "terms"] ["self", "kind", "row", "table", "under", "column", "terms"] (defScope sInitD) := ⟨rfl, rfl, rfl, by decide +kernel, rfl, by decide +kernel, by decide +kernel⟩
structure TDi (mg : Str → Option Value) : Prop where
  n_tuple : mg "tuple" = none
def spUnder (CS C : Addr) (e : HA) : Sp := fun vs H Q E => ∃ X A rs ow s line table under, vs = [.ref X.x, .int line, .str table, .str under] ∧ HX CS C H X A rs ow s ∧ known (tbs rs) table = true ∧
  (ckUnder (tbs rs) s table under = none → ∀ H', Ex H H' → Q .non H') ∧ (∀ er, ckUnder (tbs rs) s table under = some er → Rz [] E (e.clsH er) (heFs line er) H)
abbrev sUnder : Stmt := top 12
theorem scUnder : FnScope ["scope", "line", "table", "under"] ["scope", "line", "table", "under"] (defScope sUnder) := ⟨rfl, rfl, rfl, by decide +kernel, rfl, by decide +kernel, by decide +kernel⟩
/-- what the form of a line tells -/
structure DOk (ws : List Str) : Prop where
  l2 : 2 ≤ ws.length
  new : ws.getD 0 "" = "new" → 6 ≤ ws.length ∧ (ws.getD 4 "" = "under" → 8 ≤ ws.length)
  move : ws.getD 0 "" = "move" → 4 ≤ ws.length
  set : ws.getD 0 "" = "set" → 4 ≤ ws.length ∧ (dotS (ws.getD 1 "")).length = 2
  each : ws.getD 0 "" = "each" → 8 ≤ ws.length
def spDeed (CS C CD : Addr) (e : HA) (p : List Str → Prop) : Sp := fun vs H Q E => ∃ X A rs ow s line wl ws, vs = [.ref X.x, .int line, .ref wl] ∧ HX CS C H X A rs ow s ∧ Sm9 s ∧ H wl = some (.lst (ws.map V.str)) ∧ WsOk ws ∧ DOk ws ∧ p ws ∧
  (∀ s' d, rdDeed (tbs rs) s ws = .inr (s', d) → ∀ a H', H a = none → Fr (mutX X) H H' → HX CS C H' X A rs ow s' → DdAt CD H' a d → Q (.ref a) H') ∧ (∀ er, rdDeed (tbs rs) s ws = .inl er → Rz [] E (e.clsH er) (heFs line er) H)
section
variable {P : Program} {w : World} {K : PySem.W.Frag} {mg : Str → Option Value} {base : Heap}
theorem ok_initD {CD f : Addr} {fd : FuncData} (F : Fun K "__init__" "Deed.__init__" sInitD f fd) (TC : TS3 K CD) (T : TDi mg) : FnOk P w K mg base CX0 1 f fd ["self", "kind", "row", "table", "under", "column", "terms"] (spInitD CD) := by
  refine F.ok scInitD (fun vs H Q E h => ?_) (fun cdv A' outer s H vs Q E hr h => ?_)
  · obtain ⟨x, dx, tl, d, rfl, _⟩ := h
    rfl
  · obtain ⟨x, dx, tl, d, rfl, hx, htl, k⟩ := h
    refine ⟨_, (pss_cons (ps_fld (pv 0) (pv 1) rfl)
    (pss_cons (ps_fld (pv 0) (pv 2) rfl)
    (pss_cons (ps_fld (pv 0) (pv 3) rfl)
    (pss_cons (ps_fld (pv 0) (pv 4) rfl)
    (pss_cons (ps_fld (pv 0) (pv 5) rfl)
    (pss_one (ps_fld (pv 0) (pe_callTy (tupOf K) (by rfl) T.n_tuple (by decide +kernel) (pa_cons (pv 6) pa_nil)) rfl))))))), ?_⟩
    have ne : tl ≠ x := ne_kind htl hx (fun z => nomatch z)
    have stp : ∀ {H1 : Hp} {fs : List (Str × V)} {f : Str} {v : V} {D : Ends} {ta tv : TE} {σ : L2.St}, NoAttr K CD f → fs.length < 1000 → Fr [x] H H1 → H1 x = some (.ins CD dx fs) → Ev tv σ H1 v → Ev ta σ H1 (.ref x) → (∀ H2, Fr [x] H H2 → H2 x = some (.ins CD dx (putF f v fs)) → D.nx σ H2) → sFld K ta tv f D σ H1 := fun {H1 fs f v D ta tv σ} no few fr h1 hv ho kk =>
      s_fldX TC.cl no few hv ho h1 (fun H2 e2 => kk _ (upd_x (fr.trans (Fr.of e2))) upd_same)
    refine w_seq (stp TC.n1 (by decide) (fun b u h _ => h) hx (ev_var rfl) (ev_var rfl) (fun H1 f1 x1 => ?_))
    refine w_seq (stp TC.n2 (by show 1 < 1000; decide) f1 x1 (ev_var rfl) (ev_var rfl) (fun H2 f2 x2 => ?_))
    refine w_seq (stp TC.n3 (by show 2 < 1000; decide) f2 x2 (ev_var rfl) (ev_var rfl) (fun H3 f3 x3 => ?_))
    refine w_seq (stp TC.n4 (by show 3 < 1000; decide) f3 x3 (ev_var rfl) (ev_var rfl) (fun H4 f4 x4 => ?_))
    refine w_seq (stp TC.n5 (by show 4 < 1000; decide) f4 x4 (ev_var rfl) (ev_var rfl) (fun H5 f5 x5 => ?_))
    have htl5 : H5 tl = _ := f5 _ _ htl (by simpa using ne)
    refine w_evu (eu_tupR (ev_var rfl) (SqL.of htl5)) (fun q H6 hq e6 h6 => w_ev (ev_var rfl) fun H7 e7 => ⟨x, CD, dx, _, rfl, (e6.trans e7) _ _ x5, TC.cl, TC.n6, by show 5 < 1000; decide, k _ (upd_x (f5.trans (Fr.of (e6.trans e7)))) ⟨dx, q, upd_same, ?_⟩⟩)
    rw [upd_ne (ne_kind (e7 _ _ h6) ((e6.trans e7) _ _ x5) (fun z => nomatch z))]
    exact e7 _ _ h6
theorem ok_under {CS C f fA fP : Addr} {fd fdA fdP : FuncData} {e : HA} (F : Fun K "_check_under" "_check_under" sUnder f fd) (TC : TS2 K CS) (TC1 : TS0 K C) (eT : EX P w K mg base "WrongTable" ["line", "name"] e.CT)
    (M_Scope_table_of_any : Meth K CS "table_of_any" fA) (G_Scope_table_of_any : FnOk P w K mg base (L2.CX P w) 4 fA fdA ["self", "line", "name"] (spTabAny CS C e)) (b_Scope_table_of_any : Binds K fdA ["self", "line", "name"] [])
    (M_Schema_parent_of : Meth K C "parent_of" fP) (G_Schema_parent_of : FnOk P w K mg base (L2.CX P w) 4 fP fdP ["self", "table"] (spMPar C e.toErA)) (b_Schema_parent_of : Binds K fdP ["self", "table"] []) :
    FnOk P w K mg base (L2.CX P w) 5 f fd ["scope", "line", "table", "under"] (spUnder CS C e) := by
  refine F.okX scUnder (fun vs H Q E h => ?_) (fun cdv A' outer s H vs Q E hr h => ?_)
  · obtain ⟨X, A, rs, ow, s, line, table, under, rfl, _⟩ := h
    rfl
  · obtain ⟨X, A, rs, ow, sc, line, table, under, rfl, S, kt, k1, k2⟩ := h
    obtain ⟨fT, fdT, OX_WrongTable, IX_WrongTable, TY_WrongTable, GX_WrongTable, BX_WrongTable, NX_WrongTable⟩ := eT.ex
    have hrX : Room (1 + 1) _ := hr.mono (by decide)
    have hr_Scope_table_of_any : Room 4 _ := hr
    have hr_Schema_parent_of : Room 4 _ := hr
    have hu := hu_of hr
    refine ⟨_, (pss_one (ps_if (pt_cmpR op_ne (pe_meth (pv 0) TC.cl M_Scope_table_of_any G_Scope_table_of_any hr_Scope_table_of_any b_Scope_table_of_any .nil (passes_call (takes_of rfl rfl rfl rfl) (fun _ _ _ _ h => h)) (pa_cons (pv 1) (pa_cons (pv 3) pa_nil))) (pe_meth (fldK K (pv 0)) TC1.cl M_Schema_parent_of G_Schema_parent_of hr_Schema_parent_of b_Schema_parent_of .nil (passes_call (takes_of rfl rfl rfl rfl) (fun _ _ _ _ h => h)) (pa_cons (pv 2) pa_nil)) (nomark _))
      (pss_one (ps_raise rfl (takes_of rfl rfl rfl rfl) (pmk_oex OX_WrongTable IX_WrongTable TY_WrongTable GX_WrongTable hrX BX_WrongTable .nil pass0 rfl NX_WrongTable (pa_cons (pv 1) (pa_cons (pv 3) pa_nil)))))
      pss_nil)), ?_⟩
    refine w_ifS (w_test (w_op (w_methX (ev_var rfl) S (fun _ _ _ _ => rfl) (fun H1 e1 => w_cons (w_ev (ev_var rfl) fun H2 e2 => w_cons (w_ev (ev_var rfl) fun H3 e3 => w_nil ⟨X, A, rs, ow, sc, line, under, rfl, S.ex ((e1.trans e2).trans e3), fun t ht H4 e4 => ?_, fun hn => ?_⟩))))))
    · have e04 := ((e1.trans e2).trans e3).trans e4
      have S4 := S.ex e04
      refine w_methS (ev_xSch TC S4 (ev_var rfl)) S4.sa (fun _ _ _ _ _ => rfl) (fun H5 e5 => w_cons (w_ev (ev_var rfl) fun H6 e6 => w_nil ⟨A, rs, ow, table, rfl, S4.sa.ex (e5.trans e6), fun r hr1 H7 e7 => ?_, fun kn => ?_⟩))
      · refine (rv_ne (scal_parV t r.t.par)) H7 (Ex.refl _) _ (fun H8 e8 => ⟨_, rfl, ?_⟩)
        have e08 := (((e04.trans e5).trans e6).trans e7).trans e8
        have go : ckUnder (tbs rs) sc table under = if r.t.par = some t then none else some (.tab under) := by
          unfold ckUnder
          rw [ht, parOf_row hr1]
        rw [str_parV]
        by_cases z : r.t.par = some t
        · rw [decide_eq_true z, if_neg (by decide)]
          exact k1 (by rw [go, if_pos z]) H8 e08
        · rw [decide_eq_false z, if_pos (by decide)]
          exact rz_mk (fs := ["line", "name"]) (vs := [.int line, .str under]) (ea_cons (ev_var rfl) (ea_cons (ev_var rfl) ea_nil)) rfl (by show 2 ≤ 1000; decide) ((k2 (.tab under) (by rw [go, if_neg z])).ex e08)
      · rw [kt] at kn
        cases kn
    · exact (k2 (.unk under) (by unfold ckUnder; rw [hn])).ex ((e1.trans e2).trans e3)
end
end My

namespace My
open PySem PySem.Spec PyProof.Rows L2 Evl
/-! ### moves, sets, takes -/
theorem mk_deed {CD dx tl : Addr} {H1 : Hp} {x : Addr} {d : Dd} {vs : List V} {Q : VK} {E : XK} (hv : vs = [.ref x, .str d.kind, .str d.row, .str d.table, parV d.under, parV d.col, .ref tl]) (hx : H1 x = none) (hdx : H1 dx = none) (ne : dx ≠ x) (htl : H1 tl = some (.lst (d.terms.map V.str)))
    (k : ∀ H', Ex H1 H' → DdAt CD H' x d → Q (.ref x) H') : spInitD CD vs (upd (upd H1 dx (.own x)) x (.ins CD dx [])) (fun v H' => v = .non ∧ Q (.ref x) H') E := by
  have eN : Ex H1 (upd (upd H1 dx (.own x)) x (.ins CD dx [])) := (Ex.new hdx).trans (Ex.new (by rw [upd_ne ne.symm]; exact hx))
  exact ⟨x, dx, tl, d, hv, upd_same, eN _ _ htl, fun H' fr dd => ⟨rfl, k H' (fun b u hb => fr b u (eN _ _ hb) (fun z => by
    obtain rfl : b = x := by simpa using z
    rw [hb] at hx
    cases hx)) dd⟩⟩
section
variable {K : PySem.W.Frag} {CS C : Addr} {H : Hp} {X : XA} {A : Ad} {rs : List Row} {ow : List (Str × Str)} {s : Sc} {σ : L2.St} {te ty : TE} {E : XK} {e : HA} {table : Str}
theorem el_slE {tl th : TO} {xs : List V} {lo hi : Option Int} (h : EvL te σ H xs) (h1 : EvO tl σ H lo) (h2 : EvO th σ H hi) : EvL (tSl (rSlL K) te tl th) σ H (cutV xs lo hi) := fun H1 e _ q =>
  h H1 e _ fun a H2 _ e2 ha => h1 H2 (e.trans e2) _ fun H3 e3 => h2 H3 ((e.trans e2).trans e3) _ fun H4 e4 =>
    ⟨a, xs, rfl, SqL.of ((e3.trans e4) _ _ ha), fun p hp => q p _ (fresh_back ((e2.trans e3).trans e4) hp) (((e2.trans e3).trans e4).trans (Ex.new hp)) upd_same⟩
theorem ev_mpar (TC : TS2 K CS) (S : HX CS C H X A rs ow s) {r : Row} (hr : findR rs table = some r) (h : Ev te σ H (.ref X.x)) (hy : Ev ty σ H (.str table)) : Ev (tMeth C "parent_of" (spMPar C e.toErA) [] E (tFld K te "schema") (tCons ty tNil)) σ H (parV r.t.par) := fun H1 e1 Q q =>
  w_methS (ev_xSch TC (S.ex e1) (Ev.mono e1 h)) (S.sa.ex e1) (fun _ _ _ _ _ => rfl) (fun H2 e2 => w_cons (w_ev (Ev.mono (e1.trans e2) hy) fun H3 e3 => w_nil ⟨A, rs, ow, table, rfl, S.sa.ex ((e1.trans e2).trans e3), fun r' hr' H4 e4 => by rw [hr] at hr'; cases hr'; exact q H4 ((e2.trans e3).trans e4), fun kn => by rw [findR_known hr] at kn; cases kn⟩))
theorem el_mcols (TC : TS2 K CS) (S : HX CS C H X A rs ow s) {r : Row} (hr : findR rs table = some r) (h : Ev te σ H (.ref X.x)) (hy : Ev ty σ H (.str table)) : EvL (tMeth C "columns" (spMCols C e.toErA) [] E (tFld K te "schema") (tCons ty tNil)) σ H (r.t.cols.map V.str) := fun H1 e1 Q q =>
  w_methS (ev_xSch TC (S.ex e1) (Ev.mono e1 h)) (S.sa.ex e1) (fun _ _ _ _ _ => rfl) (fun H2 e2 => w_cons (w_ev (Ev.mono (e1.trans e2) hy) fun H3 e3 => w_nil ⟨A, rs, ow, table, rfl, S.sa.ex ((e1.trans e2).trans e3), fun r' hr' p H4 hp e4 h4 => by rw [hr] at hr'; cases hr'; exact q p H4 (fresh_back (e2.trans e3) hp) ((e2.trans e3).trans e4) h4, fun kn => by rw [findR_known hr] at kn; cases kn⟩))
theorem el_mchain (TC : TS2 K CS) (S : HX CS C H X A rs ow s) (hk : known (tbs rs) table = true) (h : Ev te σ H (.ref X.x)) (hy : Ev ty σ H (.str table)) : EvL (tMeth C "chain_of" (spChain C e.toErA) [] E (tFld K te "schema") (tCons ty tNil)) σ H ((chainT (tbs rs) table).map V.str) := fun H1 e1 Q q =>
  w_methS (ev_xSch TC (S.ex e1) (Ev.mono e1 h)) (S.sa.ex e1) (fun _ _ _ _ _ => rfl) (fun H2 e2 => w_cons (w_ev (Ev.mono (e1.trans e2) hy) fun H3 e3 => w_nil ⟨A, rs, ow, table, rfl, S.sa.ex ((e1.trans e2).trans e3), S.wf, Nat.le_trans S.few (by decide), fun _ p H4 hp e4 h4 => q p H4 (fresh_back (e2.trans e3) hp) ((e2.trans e3).trans e4) h4, fun kn => by rw [hk] at kn; cases kn⟩))
theorem ev_lenE {xs : List V} (h : EvL te σ H xs) : Ev (tCB (rLenS K) (tCons te tNil)) σ H (.int (xs.length : Int)) := fun H1 e1 Q q => h H1 e1 _ fun p H2 _ e2 h2 => ⟨p, xs, rfl, .inl (SqL.of h2), q H2 e2⟩
end
theorem row_known {tb : List Tb} {s : Sc} {n t : Str} (kr : ∀ x ∈ s.rows, known tb x.2 = true) (h : tabOf s n = some t) : known tb t = true := by
  obtain ⟨x, hx, rfl⟩ := fst_mem h
  exact kr x hx
structure TDe (mg : Str → Option Value) (CD : Addr) : Prop where
  g_Deed : mg "Deed" = some (.ref CD)
abbrev sMove : Stmt := top 14
theorem scMove : FnScope ["scope", "line", "words", "name", "under", "table"] ["scope", "line", "words"] (defScope sMove) := ⟨rfl, rfl, rfl, by decide +kernel, rfl, by decide +kernel, by decide +kernel⟩
abbrev sSet : Stmt := top 15
theorem scSet : FnScope ["scope", "line", "words", "name", "column", "table"] ["scope", "line", "words"] (defScope sSet) := ⟨rfl, rfl, rfl, by decide +kernel, rfl, by decide +kernel, by decide +kernel⟩
abbrev sEach : Stmt := top 16
theorem scEach : FnScope ["scope", "line", "words", "table", "name", "column", "term", "above"] ["scope", "line", "words"] (defScope sEach) := ⟨rfl, rfl, rfl, by decide +kernel, rfl, by decide +kernel, by decide +kernel⟩
abbrev sTake : Stmt := top 17
theorem scTake : FnScope ["scope", "line", "words"] ["scope", "line", "words"] (defScope sTake) := ⟨rfl, rfl, rfl, by decide +kernel, rfl, by decide +kernel, by decide +kernel⟩
def pMove (ws : List Str) : Prop := ws.getD 0 "" = "move"
def pSet (ws : List Str) : Prop := ws.getD 0 "" = "set"
def pEach (ws : List Str) : Prop := ws.getD 0 "" = "each"
def pNew (ws : List Str) : Prop := ws.getD 0 "" = "new"
def pTake (ws : List Str) : Prop := ws.getD 0 "" ≠ "new" ∧ ws.getD 0 "" ≠ "move" ∧ ws.getD 0 "" ≠ "set" ∧ ws.getD 0 "" ≠ "each"
theorem rd_move {tb : List Tb} {s : Sc} {ws : List Str} (h : pMove ws) : rdDeed tb s ws = (rdMove tb s (ws.getD 1 "") (ws.getD 3 "")).map id fun t => (s, ⟨"move", ws.getD 1 "", t, some (ws.getD 3 ""), none, []⟩) := by
  unfold pMove at h
  unfold rdDeed
  rw [h, if_neg (by decide), if_pos rfl]
theorem rd_set {tb : List Tb} {s : Sc} {ws : List Str} (h : pSet ws) : rdDeed tb s ws = (rdSet tb s ((dotS (ws.getD 1 "")).getD 0 "") ((dotS (ws.getD 1 "")).getD 1 "") (ws.getD 3 "")).map id fun t => (s, ⟨"set", (dotS (ws.getD 1 "")).getD 0 "", t, none, some ((dotS (ws.getD 1 "")).getD 1 ""), [ws.getD 3 ""]⟩) := by
  unfold pSet at h
  unfold rdDeed
  rw [h, if_neg (by decide), if_neg (by decide), if_pos rfl]
theorem rd_each {tb : List Tb} {s : Sc} {ws : List Str} (h : pEach ws) : rdDeed tb s ws = match rdEach tb s (ws.getD 1 "") (ws.getD 3 "") (ws.getD 5 "") (ws.getD 7 "") with
    | some e => .inl e
    | none => .inr (s, ⟨"each", ws.getD 3 "", ws.getD 1 "", none, some (ws.getD 5 ""), [ws.getD 7 ""]⟩) := by
  unfold pEach at h
  unfold rdDeed
  rw [h, if_neg (by decide), if_neg (by decide), if_neg (by decide), if_pos rfl]
  all_goals (cases rdEach tb s (ws.getD 1 "") (ws.getD 3 "") (ws.getD 5 "") (ws.getD 7 "") <;> rfl)
theorem rd_new {tb : List Tb} {s : Sc} {ws : List Str} (h : pNew ws) : rdDeed tb s ws = (rdNew tb s (ws.getD 1 "") (ws.getD 3 "") (undOf ws) (tmsOf ws)).map id fun s' => (s', ⟨"new", ws.getD 1 "", ws.getD 3 "", undOf ws, none, tmsOf ws⟩) := by
  unfold pNew at h
  unfold rdDeed
  rw [h, if_pos rfl]
theorem rd_take {tb : List Tb} {s : Sc} {ws : List Str} (h : pTake ws) : rdDeed tb s ws = match tabOf s (ws.getD 1 "") with
    | none => .inl (.unk (ws.getD 1 ""))
    | some t => .inr (s, ⟨"take", ws.getD 1 "", t, none, none, []⟩) := by
  obtain ⟨h1, h2, h3, h4⟩ := h
  unfold rdDeed
  rw [if_neg h1, if_neg h2, if_neg h3, if_neg h4]
  all_goals (cases tabOf s (ws.getD 1 "") <;> rfl)
section
variable {P : Program} {w : World} {K : PySem.W.Frag} {mg : Str → Option Value} {base : Heap}
theorem ok_move {CS C CD f fO fU fI : Addr} {fd fdO fdU fdI : FuncData} {e : HA} (F : Fun K "_read_move" "_read_move" sMove f fd) (TC : TS2 K CS) (T : TDe mg CD)
    (M_Scope_table_of : Meth K CS "table_of" fO) (G_Scope_table_of : FnOk P w K mg base (L2.CX P w) 3 fO fdO ["self", "line", "name"] (spTabOf CS C e)) (b_Scope_table_of : Binds K fdO ["self", "line", "name"] [])
    (G__check_under : FnOk P w K mg base (L2.CX P w) 5 fU fdU ["scope", "line", "table", "under"] (spUnder CS C e)) (m__check_under : mg "_check_under" = some (.ref fU)) (k__check_under : PySem.W.keepIn K (.ref fU) = true) (b__check_under : Binds K fdU ["scope", "line", "table", "under"] [])
    (M_Deed : Mk K CD fI) (I_Deed : FnOk P w K mg base CX0 1 fI fdI ["self", "kind", "row", "table", "under", "column", "terms"] (spInitD CD)) (bI_Deed : Binds K fdI ["self", "kind", "row", "table", "under", "column", "terms"] []) :
    FnOk P w K mg base (L2.CX P w) 6 f fd ["scope", "line", "words"] (spDeed CS C CD e pMove) := by
  refine F.okX scMove (fun vs H Q E h => ?_) (fun cdv A' outer s H vs Q E hr h => ?_)
  · obtain ⟨X, A, rs, ow, s, line, wl, ws, rfl, _⟩ := h
    rfl
  · obtain ⟨X, A, rs, ow, sc, line, wl, ws, rfl, S, sm, hwl, ok, dk, hp, k1, k2⟩ := h
    have hr_Scope_table_of : Room 3 _ := hr.mono (by decide)
    have hr__check_under : Room 5 _ := hr
    have hr_Deed : Room (1 + 1) _ := hr.mono (by decide)
    have hu := hu_of hr
    refine ⟨_, (pss_cons (ps_par (i := 3) (j := 4) rfl scMove.nd rfl rfl (by decide) rfl rfl (pa_cons (pe_ix (ixL K) (pv 2) pe_int (fun _ _ => rfl)) (pa_cons (pe_ix (ixL K) (pv 2) pe_int (fun _ _ => rfl)) pa_nil)) rfl)
    (pss_cons (ps_set (i := 5) scMove.nd rfl (Or.inl rfl) (pe_meth (pv 0) TC.cl M_Scope_table_of G_Scope_table_of hr_Scope_table_of b_Scope_table_of .nil (passes_call (takes_of rfl rfl rfl rfl) (fun _ _ _ _ h => h)) (pa_cons (pv 1) (pa_cons (pv 3) pa_nil))))
    (pss_cons (ps_expr (pe_call G__check_under hr__check_under rfl m__check_under k__check_under b__check_under .nil (passes_call (takes_of rfl rfl rfl rfl) (fun _ _ _ _ h => h)) (pa_cons (pv 0) (pa_cons (pv 1) (pa_cons (pv 5) (pa_cons (pv 4) pa_nil))))))
    (pss_one (ps_ret (pe_make M_Deed I_Deed hr_Deed (by rfl) T.g_Deed bI_Deed .nil pass0 (pa_cons pe_str (pa_cons (pv 3) (pa_cons (pv 5) (pa_cons (pv 4) (pa_cons pe_non (pa_cons (pe_lst pa_nil) pa_nil)))))))))))), ?_⟩
    have len := dk.move hp
    have go := rd_move (tb := tbs rs) (s := sc) hp
    have at_ : ∀ {H2 : Hp} {σ : L2.St} {i : Int} (k : Nat), i = (k : Int) → Ex H H2 → σ[2]? = some (some (.ref wl)) → k < ws.length → Ev (tOp (rIxL K) (tVar 2) (tC (.int i))) σ H2 (.str (ws.getD k "")) := fun {H2 σ i} k hi e2 h2 hk => ev_at k hi (ev_var h2) (SqL.of (e2 _ _ hwl)) hk
    refine w_seq (w_eva (ea_cons (at_ 1 rfl (Ex.refl _) rfl (by omega)) (ea_cons (at_ 3 rfl (Ex.refl _) rfl (by omega)) ea_nil)) (fun H1 e1 => ⟨_, _, rfl, ?_⟩))
    have S1 := S.ex e1
    dsimp only
    refine w_seq (w_asg (w_methX (ev_var rfl) S1 (fun _ _ _ _ => rfl) (fun H2 e2 => w_cons (w_ev (ev_var rfl) fun H3 e3 => w_cons (w_ev (ev_var rfl) fun H4 e4 => w_nil ⟨X, A, rs, ow, sc, line, ws.getD 1 "", rfl, S1.ex ((e2.trans e3).trans e4), fun t ht H5 e5 => ?_, fun hn => (k2 (.unk (ws.getD 1 "")) (by rw [go]; unfold rdMove; rw [hn]; rfl)).ex (((e1.trans e2).trans e3).trans e4)⟩)))))
    have e05 := (((e1.trans e2).trans e3).trans e4).trans e5
    have S5 := S.ex e05
    have kt := row_known S.kr ht
    dsimp only
    refine w_seq (w_drop (w_call (w_eva (ea_cons (ev_var rfl) (ea_cons (ev_var rfl) (ea_cons (ev_var rfl) (ea_cons (ev_var rfl) ea_nil)))) (fun H6 e6 => ⟨X, A, rs, ow, sc, line, t, ws.getD 3 "", rfl, S5.ex e6, kt, fun hn H7 e7 => ?_, fun er her => (k2 er (by rw [go]; unfold rdMove; rw [ht]; dsimp only; rw [her]; rfl)).ex (e05.trans e6)⟩))))
    have e07 := (e05.trans e6).trans e7
    dsimp only
    refine w_ret (w_cons (w_ev ev_c fun H8 e8 => w_cons (w_ev (ev_var rfl) fun H9 e9 => w_cons (w_ev (ev_var rfl) fun H10 e10 => w_cons (w_ev (ev_var rfl) fun H11 e11 => w_cons (w_ev ev_c fun H12 e12 => w_cons (w_evl (el_lst ea_nil (by decide)) fun tl H13 htl e13 h13 => w_nil (fun x dx hx hdx ne => ?_))))))))
    have e13' := ((((((e07.trans e8).trans e9).trans e10).trans e11).trans e12).trans e13)
    refine mk_deed (d := ⟨"move", ws.getD 1 "", t, some (ws.getD 3 ""), none, []⟩) rfl hx hdx ne h13 (fun H' eH dd => k1 sc _ (by rw [go]; unfold rdMove; rw [ht]; dsimp only; rw [hn]; rfl) x H' (fresh_back e13' hx) (Fr.of (e13'.trans eH)) (S.ex (e13'.trans eH)) dd)
end
end My

namespace My
open PySem PySem.Spec PyProof.Rows L2 Evl
theorem two_of {xs : List Str} (h : xs.length = 2) : xs = [xs.getD 0 "", xs.getD 1 ""] := by
  match xs, h with
  | [a, b], _ => rfl
section
variable {P : Program} {w : World} {K : PySem.W.Frag} {mg : Str → Option Value} {base : Heap}
theorem ok_take {CS C CD f fO fI : Addr} {fd fdO fdI : FuncData} {e : HA} (F : Fun K "_read_take" "_read_take" sTake f fd) (TC : TS2 K CS) (T : TDe mg CD)
    (M_Scope_table_of : Meth K CS "table_of" fO) (G_Scope_table_of : FnOk P w K mg base (L2.CX P w) 3 fO fdO ["self", "line", "name"] (spTabOf CS C e)) (b_Scope_table_of : Binds K fdO ["self", "line", "name"] [])
    (M_Deed : Mk K CD fI) (I_Deed : FnOk P w K mg base CX0 1 fI fdI ["self", "kind", "row", "table", "under", "column", "terms"] (spInitD CD)) (bI_Deed : Binds K fdI ["self", "kind", "row", "table", "under", "column", "terms"] []) :
    FnOk P w K mg base (L2.CX P w) 6 f fd ["scope", "line", "words"] (spDeed CS C CD e pTake) := by
  refine F.okX scTake (fun vs H Q E h => ?_) (fun cdv A' outer s H vs Q E hr h => ?_)
  · obtain ⟨X, A, rs, ow, s, line, wl, ws, rfl, _⟩ := h
    rfl
  · obtain ⟨X, A, rs, ow, sc, line, wl, ws, rfl, S, sm, hwl, ok, dk, hp, k1, k2⟩ := h
    have hr_Scope_table_of : Room 3 _ := hr.mono (by decide)
    have hr_Deed : Room (1 + 1) _ := hr.mono (by decide)
    have hu := hu_of hr
    refine ⟨_, (pss_one (ps_ret (pe_make M_Deed I_Deed hr_Deed (by rfl) T.g_Deed bI_Deed .nil pass0 (pa_cons pe_str (pa_cons (pe_ix (ixL K) (pv 2) pe_int (fun _ _ => rfl)) (pa_cons (pe_meth (pv 0) TC.cl M_Scope_table_of G_Scope_table_of hr_Scope_table_of b_Scope_table_of .nil (passes_call (takes_of rfl rfl rfl rfl) (fun _ _ _ _ h => h)) (pa_cons (pv 1) (pa_cons (pe_ix (ixL K) (pv 2) pe_int (fun _ _ => rfl)) pa_nil))) (pa_cons pe_non (pa_cons pe_non (pa_cons (pe_lst pa_nil) pa_nil))))))))), ?_⟩
    have len := dk.l2
    have go := rd_take (tb := tbs rs) (s := sc) hp
    have at_ : ∀ {H2 : Hp} {σ : L2.St} {i : Int} (k : Nat), i = (k : Int) → Ex H H2 → σ[2]? = some (some (.ref wl)) → k < ws.length → Ev (tOp (rIxL K) (tVar 2) (tC (.int i))) σ H2 (.str (ws.getD k "")) := fun {H2 σ i} k hi e2 h2 hk => ev_at k hi (ev_var h2) (SqL.of (e2 _ _ hwl)) hk
    refine w_ret (w_cons (w_ev ev_c fun H1 e1 => w_cons (w_ev (at_ 1 rfl e1 rfl (by omega)) fun H2 e2 => w_cons (w_methX (ev_var rfl) (S.ex (e1.trans e2)) (fun _ _ _ _ => rfl) (fun H3 e3 => w_cons (w_ev (ev_var rfl) fun H4 e4 => w_cons (w_ev (at_ 1 rfl (((e1.trans e2).trans e3).trans e4) rfl (by omega)) fun H5 e5 => w_nil ⟨X, A, rs, ow, sc, line, ws.getD 1 "", rfl, S.ex ((((e1.trans e2).trans e3).trans e4).trans e5), fun t ht H6 e6 => ?_, fun hn => (k2 (.unk (ws.getD 1 "")) (by rw [go, hn])).ex ((((e1.trans e2).trans e3).trans e4).trans e5)⟩)))))))
    have e06 := ((((e1.trans e2).trans e3).trans e4).trans e5).trans e6
    refine w_cons (w_ev ev_c fun H11 e11 => w_cons (w_ev ev_c fun H12 e12 => w_cons (w_evl (el_lst ea_nil (by decide)) fun tl H13 htl e13 h13 => w_nil (fun x dx hx hdx ne => ?_))))
    have e13' := ((e06.trans e11).trans e12).trans e13
    exact mk_deed (d := ⟨"take", ws.getD 1 "", t, none, none, []⟩) rfl hx hdx ne h13 (fun H' eH dd => k1 sc _ (by rw [go, ht]) x H' (fresh_back e13' hx) (Fr.of (e13'.trans eH)) (S.ex (e13'.trans eH)) dd)
theorem ok_set {CS C CD f fO fP fT fI : Addr} {fd fdO fdP fdT fdI : FuncData} {e : HA} (F : Fun K "_read_set" "_read_set" sSet f fd) (TC : TS2 K CS) (TC1 : TS0 K C) (T : TDe mg CD)
    (M_Scope_table_of : Meth K CS "table_of" fO) (G_Scope_table_of : FnOk P w K mg base (L2.CX P w) 3 fO fdO ["self", "line", "name"] (spTabOf CS C e)) (b_Scope_table_of : Binds K fdO ["self", "line", "name"] [])
    (M_Schema_check_position : Meth K C "check_position" fP) (G_Schema_check_position : FnOk P w K mg base (L2.CX P w) 3 fP fdP ["self", "line", "table", "names"] (spPos C e.toErA)) (b_Schema_check_position : Binds K fdP ["self", "line", "table", "names"] [])
    (M_Scope_check_term : Meth K CS "check_term" fT) (G_Scope_check_term : FnOk P w K mg base (L2.CX P w) 4 fT fdT ["self", "line", "term"] (spTerm CS C e)) (b_Scope_check_term : Binds K fdT ["self", "line", "term"] [])
    (M_Deed : Mk K CD fI) (I_Deed : FnOk P w K mg base CX0 1 fI fdI ["self", "kind", "row", "table", "under", "column", "terms"] (spInitD CD)) (bI_Deed : Binds K fdI ["self", "kind", "row", "table", "under", "column", "terms"] []) :
    FnOk P w K mg base (L2.CX P w) 6 f fd ["scope", "line", "words"] (spDeed CS C CD e pSet) := by
  refine F.okX scSet (fun vs H Q E h => ?_) (fun cdv A' outer s H vs Q E hr h => ?_)
  · obtain ⟨X, A, rs, ow, s, line, wl, ws, rfl, _⟩ := h
    rfl
  · obtain ⟨X, A, rs, ow, sc, line, wl, ws, rfl, S, sm, hwl, ok, dk, hp, k1, k2⟩ := h
    have hr_Scope_table_of : Room 3 _ := hr.mono (by decide)
    have hr_Schema_check_position : Room 3 _ := hr.mono (by decide)
    have hr_Scope_check_term : Room 4 _ := hr.mono (by decide)
    have hr_Deed : Room (1 + 1) _ := hr.mono (by decide)
    have hu := hu_of hr
    refine ⟨_, (pss_cons (ps_asg (bmK K PySem.F.plainAttrs_str PySem.F.slot_str_split PySem.F.type_str_split mt_split (pe_ix (ixL K) (pv 2) pe_int (fun _ _ => rfl)) (pa_cons pe_str pa_nil)) (pg_lst rfl (pgs_cons (pg_name (i := 3) scSet.nd rfl (Or.inl rfl)) (pgs_cons (pg_name (i := 4) scSet.nd rfl (Or.inl rfl)) pgs_nil))))
    (pss_cons (ps_set (i := 5) scSet.nd rfl (Or.inl rfl) (pe_meth (pv 0) TC.cl M_Scope_table_of G_Scope_table_of hr_Scope_table_of b_Scope_table_of .nil (passes_call (takes_of rfl rfl rfl rfl) (fun _ _ _ _ h => h)) (pa_cons (pv 1) (pa_cons (pv 3) pa_nil))))
    (pss_cons (ps_expr (pe_meth (fldK K (pv 0)) TC1.cl M_Schema_check_position G_Schema_check_position hr_Schema_check_position b_Schema_check_position .nil (passes_call (takes_of rfl rfl rfl rfl) (fun _ _ _ _ h => h)) (pa_cons (pv 1) (pa_cons (pv 5) (pa_cons (pe_lst (pa_cons (pv 4) pa_nil)) pa_nil)))))
    (pss_cons (ps_expr (pe_meth (pv 0) TC.cl M_Scope_check_term G_Scope_check_term hr_Scope_check_term b_Scope_check_term .nil (passes_call (takes_of rfl rfl rfl rfl) (fun _ _ _ _ h => h)) (pa_cons (pv 1) (pa_cons (pe_ix (ixL K) (pv 2) pe_int (fun _ _ => rfl)) pa_nil))))
    (pss_one (ps_ret (pe_make M_Deed I_Deed hr_Deed (by rfl) T.g_Deed bI_Deed .nil pass0 (pa_cons pe_str (pa_cons (pv 3) (pa_cons (pv 5) (pa_cons pe_non (pa_cons (pv 4) (pa_cons (pe_lst (pa_cons (pe_ix (ixL K) (pv 2) pe_int (fun _ _ => rfl)) pa_nil)) pa_nil))))))))))))), ?_⟩
    obtain ⟨len, l2⟩ := dk.set hp
    have go := rd_set (tb := tbs rs) (s := sc) hp
    have at_ : ∀ {H2 : Hp} {σ : L2.St} {i : Int} (k : Nat), i = (k : Int) → Ex H H2 → σ[2]? = some (some (.ref wl)) → k < ws.length → Ev (tOp (rIxL K) (tVar 2) (tC (.int i))) σ H2 (.str (ws.getD k "")) := fun {H2 σ i} k hi e2 h2 hk => ev_at k hi (ev_var h2) (SqL.of (e2 _ _ hwl)) hk
    have two := two_of l2
    have lw := ws_le ok 1
    generalize hn0 : (dotS (ws.getD 1 "")).getD 0 "" = n at go two
    generalize hc0 : (dotS (ws.getD 1 "")).getD 1 "" = c at go two
    refine w_seq ((el_split (a := ws.getD 1 "") (b := ".") (at_ 1 rfl (Ex.refl _) rfl (by omega)) ev_c rfl (by omega)) H (Ex.refl H) _ fun p H1 hp1 e1 h1 => ?_)
    rw [show Txt.split (ws.getD 1 "") "." = [n, c] from two] at h1
    refine ⟨p, [.str n, .str c], rfl, SqL.of h1, rfl, _, _, rfl, _, _, rfl, rfl, ?_⟩
    have S1 := S.ex e1
    dsimp only
    refine w_seq (w_asg (w_methX (ev_var rfl) S1 (fun _ _ _ _ => rfl) (fun H2 e2 => w_cons (w_ev (ev_var rfl) fun H3 e3 => w_cons (w_ev (ev_var rfl) fun H4 e4 => w_nil ⟨X, A, rs, ow, sc, line, n, rfl, S1.ex ((e2.trans e3).trans e4), fun t ht H5 e5 => ?_, fun hn => (k2 (.unk n) (by rw [go]; unfold rdSet; rw [hn]; rfl)).ex (((e1.trans e2).trans e3).trans e4)⟩)))))
    have e05 := (((e1.trans e2).trans e3).trans e4).trans e5
    have S5 := S.ex e05
    have kt := row_known S.kr ht
    dsimp only
    refine w_seq (w_drop (w_methS (ev_xSch TC S5 (ev_var rfl)) S5.sa (fun _ _ _ _ _ => rfl) (fun H6 e6 => w_cons (w_ev (ev_var rfl) fun H7 e7 => w_cons (w_ev (ev_var rfl) fun H8 e8 => w_cons (w_evl (el_lst (ea_cons (ev_var rfl) ea_nil) (by show 1 ≤ 100000; decide)) fun nl H9 hnl e9 h9 => w_nil ⟨A, rs, ow, line, t, nl, [c], rfl, S5.sa.ex (((e6.trans e7).trans e8).trans e9), S.wf, kt, h9, Nat.le_refl 1, by show 1 ≤ 1000; decide, fun hpn H10 e10 => ?_, fun z hz => (k2 (.unk z) (by rw [go]; unfold rdSet; rw [ht]; dsimp only; rw [hz]; rfl)).ex ((((e05.trans e6).trans e7).trans e8).trans e9)⟩))))))
    have e10' := ((((e05.trans e6).trans e7).trans e8).trans e9).trans e10
    have S10 := S.ex e10'
    dsimp only
    refine w_seq (w_drop (w_methX (ev_var rfl) S10 (fun _ _ _ _ => rfl) (fun H11 e11 => w_cons (w_ev (ev_var rfl) fun H12 e12 => w_cons (w_ev (at_ 3 rfl ((e10'.trans e11).trans e12) rfl (by omega)) fun H13 e13 => w_nil ⟨X, A, rs, ow, sc, line, ws.getD 3 "", rfl, S10.ex ((e11.trans e12).trans e13), ws_le ok 3, fun htn H14 e14 => ?_, fun er her => (k2 er (by rw [go]; unfold rdSet; rw [ht]; dsimp only; rw [hpn]; dsimp only; rw [her]; rfl)).ex (((e10'.trans e11).trans e12).trans e13)⟩)))))
    have e14' := (((e10'.trans e11).trans e12).trans e13).trans e14
    dsimp only
    refine w_ret (w_cons (w_ev ev_c fun H15 e15 => w_cons (w_ev (ev_var rfl) fun H16 e16 => w_cons (w_ev (ev_var rfl) fun H17 e17 => w_cons (w_ev ev_c fun H18 e18 => w_cons (w_ev (ev_var rfl) fun H19 e19 => w_cons (w_evl (el_lst (ea_cons (at_ 3 rfl (((((e14'.trans e15).trans e16).trans e17).trans e18).trans e19) rfl (by omega)) ea_nil) (by show 1 ≤ 100000; decide)) fun tl H20 htl e20 h20 => w_nil (fun x dx hx hdx ne => ?_))))))))
    have eF := (((((e14'.trans e15).trans e16).trans e17).trans e18).trans e19).trans e20
    exact mk_deed (d := ⟨"set", n, t, none, some c, [ws.getD 3 ""]⟩) rfl hx hdx ne h20 (fun H' eH dd => k1 sc _ (by rw [go]; unfold rdSet; rw [ht]; dsimp only; rw [hpn]; dsimp only; rw [htn]; rfl) x H' (fresh_back eF hx) (Fr.of (eF.trans eH)) (S.ex (eF.trans eH)) dd)
theorem ok_each {CS C CD f fK fO fP fT fH fI : Addr} {fd fdK fdO fdP fdT fdH fdI : FuncData} {e : HA} (F : Fun K "_read_each" "_read_each" sEach f fd) (TC : TS2 K CS) (TC1 : TS0 K C) (T : TDe mg CD) (eT : EX P w K mg base "WrongTable" ["line", "name"] e.CT)
    (M_Scope_check_table : Meth K CS "check_table" fK) (G_Scope_check_table : FnOk P w K mg base (L2.CX P w) 3 fK fdK ["self", "line", "table"] (spCkTab CS C e)) (b_Scope_check_table : Binds K fdK ["self", "line", "table"] [])
    (M_Scope_table_of_any : Meth K CS "table_of_any" fO) (G_Scope_table_of_any : FnOk P w K mg base (L2.CX P w) 4 fO fdO ["self", "line", "name"] (spTabAny CS C e)) (b_Scope_table_of_any : Binds K fdO ["self", "line", "name"] [])
    (M_Schema_check_position : Meth K C "check_position" fP) (G_Schema_check_position : FnOk P w K mg base (L2.CX P w) 3 fP fdP ["self", "line", "table", "names"] (spPos C e.toErA)) (b_Schema_check_position : Binds K fdP ["self", "line", "table", "names"] [])
    (M_Scope_check_term : Meth K CS "check_term" fT) (G_Scope_check_term : FnOk P w K mg base (L2.CX P w) 4 fT fdT ["self", "line", "term"] (spTerm CS C e)) (b_Scope_check_term : Binds K fdT ["self", "line", "term"] [])
    (M_Schema_chain_of : Meth K C "chain_of" fH) (G_Schema_chain_of : FnOk P w K mg base (L2.CX P w) 4 fH fdH ["self", "table"] (spChain C e.toErA)) (b_Schema_chain_of : Binds K fdH ["self", "table"] [])
    (M_Deed : Mk K CD fI) (I_Deed : FnOk P w K mg base CX0 1 fI fdI ["self", "kind", "row", "table", "under", "column", "terms"] (spInitD CD)) (bI_Deed : Binds K fdI ["self", "kind", "row", "table", "under", "column", "terms"] []) :
    FnOk P w K mg base (L2.CX P w) 6 f fd ["scope", "line", "words"] (spDeed CS C CD e pEach) := by
  refine F.okX scEach (fun vs H Q E h => ?_) (fun cdv A' outer s H vs Q E hr h => ?_)
  · obtain ⟨X, A, rs, ow, s, line, wl, ws, rfl, _⟩ := h
    rfl
  · obtain ⟨X, A, rs, ow, sc, line, wl, ws, rfl, S, sm, hwl, ok, dk, hp, k1, k2⟩ := h
    obtain ⟨fT', fdT', OX_WrongTable, IX_WrongTable, TY_WrongTable, GX_WrongTable, BX_WrongTable, NX_WrongTable⟩ := eT.ex
    have hrX : Room (1 + 1) _ := hr.mono (by decide)
    have hr_Scope_check_table : Room 3 _ := hr.mono (by decide)
    have hr_Scope_table_of_any : Room 4 _ := hr.mono (by decide)
    have hr_Schema_check_position : Room 3 _ := hr.mono (by decide)
    have hr_Scope_check_term : Room 4 _ := hr.mono (by decide)
    have hr_Schema_chain_of : Room 4 _ := hr.mono (by decide)
    have hr_Deed : Room (1 + 1) _ := hr.mono (by decide)
    have hu := hu_of hr
    refine ⟨_, (pss_cons (ps_asg (pe_tup (pa_cons (pe_ix (ixL K) (pv 2) pe_int (fun _ _ => rfl)) (pa_cons (pe_ix (ixL K) (pv 2) pe_int (fun _ _ => rfl)) (pa_cons (pe_ix (ixL K) (pv 2) pe_int (fun _ _ => rfl)) (pa_cons (pe_ix (ixL K) (pv 2) pe_int (fun _ _ => rfl)) pa_nil))))) (pg_tup rfl (pgs_cons (pg_name (i := 3) scEach.nd rfl (Or.inl rfl)) (pgs_cons (pg_name (i := 4) scEach.nd rfl (Or.inl rfl)) (pgs_cons (pg_name (i := 5) scEach.nd rfl (Or.inl rfl)) (pgs_cons (pg_name (i := 6) scEach.nd rfl (Or.inl rfl)) pgs_nil))))))
    (pss_cons (ps_expr (pe_meth (pv 0) TC.cl M_Scope_check_table G_Scope_check_table hr_Scope_check_table b_Scope_check_table .nil (passes_call (takes_of rfl rfl rfl rfl) (fun _ _ _ _ h => h)) (pa_cons (pv 1) (pa_cons (pv 3) pa_nil))))
    (pss_cons (ps_set (i := 7) scEach.nd rfl (Or.inl rfl) (pe_meth (pv 0) TC.cl M_Scope_table_of_any G_Scope_table_of_any hr_Scope_table_of_any b_Scope_table_of_any .nil (passes_call (takes_of rfl rfl rfl rfl) (fun _ _ _ _ h => h)) (pa_cons (pv 1) (pa_cons (pv 4) pa_nil))))
    (pss_cons (ps_expr (pe_meth (fldK K (pv 0)) TC1.cl M_Schema_check_position G_Schema_check_position hr_Schema_check_position b_Schema_check_position .nil (passes_call (takes_of rfl rfl rfl rfl) (fun _ _ _ _ h => h)) (pa_cons (pv 1) (pa_cons (pv 3) (pa_cons (pe_lst (pa_cons (pv 5) pa_nil)) pa_nil)))))
    (pss_cons (ps_expr (pe_meth (pv 0) TC.cl M_Scope_check_term G_Scope_check_term hr_Scope_check_term b_Scope_check_term .nil (passes_call (takes_of rfl rfl rfl rfl) (fun _ _ _ _ h => h)) (pa_cons (pv 1) (pa_cons (pv 6) pa_nil))))
    (pss_cons (ps_if (pt_cmpR (notInSeq K) (pv 7) (pe_slice (slL K) (pe_meth (fldK K (pv 0)) TC1.cl M_Schema_chain_of G_Schema_chain_of hr_Schema_chain_of b_Schema_chain_of .nil (passes_call (takes_of rfl rfl rfl rfl) (fun _ _ _ _ h => h)) (pa_cons (pv 3) pa_nil)) (po_some pe_int) po_none) (by rfl))
      (pss_one (ps_raise rfl (takes_of rfl rfl rfl rfl) (pmk_oex OX_WrongTable IX_WrongTable TY_WrongTable GX_WrongTable hrX BX_WrongTable .nil pass0 rfl NX_WrongTable (pa_cons (pv 1) (pa_cons (pv 3) pa_nil)))))
      pss_nil)
    (pss_one (ps_ret (pe_make M_Deed I_Deed hr_Deed (by rfl) T.g_Deed bI_Deed .nil pass0 (pa_cons pe_str (pa_cons (pv 4) (pa_cons (pv 3) (pa_cons pe_non (pa_cons (pv 5) (pa_cons (pe_lst (pa_cons (pv 6) pa_nil)) pa_nil))))))))))))))), ?_⟩
    have len := dk.each hp
    have go := rd_each (tb := tbs rs) (s := sc) hp
    have at_ : ∀ {H2 : Hp} {σ : L2.St} {i : Int} (k : Nat), i = (k : Int) → Ex H H2 → σ[2]? = some (some (.ref wl)) → k < ws.length → Ev (tOp (rIxL K) (tVar 2) (tC (.int i))) σ H2 (.str (ws.getD k "")) := fun {H2 σ i} k hi e2 h2 hk => ev_at k hi (ev_var h2) (SqL.of (e2 _ _ hwl)) hk
    have err : ∀ {er : HE} {H1 : Hp}, Ex H H1 → rdEach (tbs rs) sc (ws.getD 1 "") (ws.getD 3 "") (ws.getD 5 "") (ws.getD 7 "") = some er → Rz [] E (e.clsH er) (heFs line er) H1 := fun {er H1} e1 h => (k2 er (by rw [go, h])).ex e1
    have l7 := ws_le ok 7
    generalize hrd : rdEach (tbs rs) sc (ws.getD 1 "") (ws.getD 3 "") (ws.getD 5 "") (ws.getD 7 "") = rd at go err
    unfold rdEach at hrd
    refine w_seq (w_evu (eu_tup (ea_cons (at_ 1 rfl (Ex.refl _) rfl (by omega)) (ea_cons (at_ 3 rfl (Ex.refl _) rfl (by omega)) (ea_cons (at_ 5 rfl (Ex.refl _) rfl (by omega)) (ea_cons (at_ 7 rfl (Ex.refl _) rfl (by omega)) ea_nil)))) (by show 4 ≤ 100000; decide)) (fun T0 H1 hT0 e1 h1 => ⟨T0, _, rfl, st_of h1, rfl, _, _, rfl, _, _, rfl, _, _, rfl, _, _, rfl, rfl, ?_⟩))
    generalize ws.getD 1 "" = table at go hrd
    generalize ws.getD 3 "" = n at go hrd
    generalize ws.getD 5 "" = c at go hrd
    generalize ws.getD 7 "" = term at go hrd l7
    have S1 := S.ex e1
    dsimp only
    refine w_seq (w_drop (w_methX (ev_var rfl) S1 (fun _ _ _ _ => rfl) (fun H2 e2 => w_cons (w_ev (ev_var rfl) fun H3 e3 => w_cons (w_ev (ev_var rfl) fun H4 e4 => w_nil ⟨X, A, rs, ow, sc, line, table, rfl, S1.ex ((e2.trans e3).trans e4), fun kt H5 e5 => ?_, fun kt => err (((e1.trans e2).trans e3).trans e4) (by rw [← hrd, if_pos kt])⟩)))))
    have e05 := (((e1.trans e2).trans e3).trans e4).trans e5
    have S5 := S.ex e05
    rw [if_neg (by rw [kt]; exact fun z => nomatch z)] at hrd
    dsimp only
    refine w_seq (w_asg (w_methX (ev_var rfl) S5 (fun _ _ _ _ => rfl) (fun H6 e6 => w_cons (w_ev (ev_var rfl) fun H7 e7 => w_cons (w_ev (ev_var rfl) fun H8 e8 => w_nil ⟨X, A, rs, ow, sc, line, n, rfl, S5.ex ((e6.trans e7).trans e8), fun above hab H9 e9 => ?_, fun hn => err (((e05.trans e6).trans e7).trans e8) (by rw [← hrd, hn])⟩)))))
    have e09 := (((e05.trans e6).trans e7).trans e8).trans e9
    have S9 := S.ex e09
    rw [hab] at hrd
    dsimp only at hrd
    dsimp only
    refine w_seq (w_drop (w_methS (ev_xSch TC S9 (ev_var rfl)) S9.sa (fun _ _ _ _ _ => rfl) (fun H10 e10 => w_cons (w_ev (ev_var rfl) fun H11 e11 => w_cons (w_ev (ev_var rfl) fun H12 e12 => w_cons (w_evl (el_lst (ea_cons (ev_var rfl) ea_nil) (by show 1 ≤ 100000; decide)) fun nl H13 hnl e13 h13 => w_nil ⟨A, rs, ow, line, table, nl, [c], rfl, S9.sa.ex (((e10.trans e11).trans e12).trans e13), S.wf, kt, h13, Nat.le_refl 1, by show 1 ≤ 1000; decide, fun hpn H14 e14 => ?_, fun z hz => err ((((e09.trans e10).trans e11).trans e12).trans e13) (er := .unk z) (by rw [← hrd, hz])⟩))))))
    have e14' := ((((e09.trans e10).trans e11).trans e12).trans e13).trans e14
    have S14 := S.ex e14'
    rw [hpn] at hrd
    dsimp only at hrd
    dsimp only
    refine w_seq (w_drop (w_methX (ev_var rfl) S14 (fun _ _ _ _ => rfl) (fun H15 e15 => w_cons (w_ev (ev_var rfl) fun H16 e16 => w_cons (w_ev (ev_var rfl) fun H17 e17 => w_nil ⟨X, A, rs, ow, sc, line, term, rfl, S14.ex ((e15.trans e16).trans e17), l7, fun htn H18 e18 => ?_, fun er her => err (((e14'.trans e15).trans e16).trans e17) (by rw [← hrd, her])⟩)))))
    have e18' := (((e14'.trans e15).trans e16).trans e17).trans e18
    have S18 := S.ex e18'
    rw [htn] at hrd
    dsimp only at hrd
    dsimp only
    have chl : 1 ≤ (chainT (tbs rs) table).length := by
      unfold chainT
      cases (tbs rs).length with
      | zero => exact Nat.le_refl _
      | succ k =>
        unfold chainF
        cases parOf (tbs rs) table with
        | none => exact Nat.le_refl _
        | some p => show 1 ≤ _ + 1; omega
    refine q_when (b := decide (above ∉ (chainT (tbs rs) table).drop 1)) (et_test (ev_opL (xs := ((chainT (tbs rs) table).drop 1).map V.str) (ev_var rfl) (el_is (el_slE (lo := some ((1 : Nat) : Int)) (hi := none) (el_mchain TC S18 kt (ev_var rfl) (ev_var rfl)) (eo_some ev_c) eo_none) (by rw [cutV_drop _ 1 (by rw [List.length_map]; exact chl), List.map_drop])) (fun p H5 h5 e5 => rv_niStr (.inl (SqL.of h5))))) (fun b H19 e19 => ?_) (fun b H19 e19 => ?_)
    · exact rz_mk (fs := ["line", "name"]) (vs := [.int line, .str table]) (ea_cons (ev_var rfl) (ea_cons (ev_var rfl) ea_nil)) rfl (by show 2 ≤ 1000; decide) (err (e18'.trans e19) (er := .tab table) (by rw [← hrd, if_neg (of_decide_eq_true b)]))
    · have b := of_decide_eq_false b
      rw [if_pos (Decidable.of_not_not b)] at hrd
      subst hrd
      have e19' := e18'.trans e19
      refine w_ret (w_cons (w_ev ev_c fun H20 e20 => w_cons (w_ev (ev_var rfl) fun H21 e21 => w_cons (w_ev (ev_var rfl) fun H22 e22 => w_cons (w_ev ev_c fun H23 e23 => w_cons (w_ev (ev_var rfl) fun H24 e24 => w_cons (w_evl (el_lst (ea_cons (ev_var rfl) ea_nil) (by show 1 ≤ 100000; decide)) fun tl H25 htl e25 h25 => w_nil (fun x dx hx hdx ne => ?_))))))))
      have eF := (((((e19'.trans e20).trans e21).trans e22).trans e23).trans e24).trans e25
      exact mk_deed (d := ⟨"each", n, table, none, some c, [term]⟩) rfl hx hdx ne h25 (fun H' eH dd => k1 sc _ go x H' (fresh_back eF hx) (Fr.of (eF.trans eH)) (S.ex (eF.trans eH)) dd)
end
end My

namespace My
open PySem PySem.Spec PyProof.Rows L2 Evl
/-! ### new rows, any line that changes the base -/
abbrev sNew : Stmt := top 13
theorem scNew : FnScope ["scope", "line", "words", "name", "table", "under", "terms", "term"] ["scope", "line", "words"] (defScope sNew) := ⟨rfl, rfl, rfl, by decide +kernel, rfl, by decide +kernel, by decide +kernel⟩
abbrev sDeed : Stmt := top 18
theorem scDeed : FnScope ["scope", "line", "words"] ["scope", "line", "words"] (defScope sDeed) := ⟨rfl, rfl, rfl, by decide +kernel, rfl, by decide +kernel, by decide +kernel⟩
structure TNw (mg : Str → Option Value) (CD : Addr) : Prop where
  n_len : mg "len" = none
  g_Deed : mg "Deed" = some (.ref CD)
theorem parV_non (p : Option Str) : decide (parV p = V.non) = p.isNone := by cases p <;> rfl
theorem ckTerms_drop {tb : List Tb} {s : Sc} {ts : List Str} {k : Nat} (hk : k < ts.length) : ckTerms tb s (ts.drop k) = match ckTerm tb s ts[k] with
    | some e => some e
    | none => ckTerms tb s (ts.drop (k + 1)) := by
  rw [List.drop_eq_getElem_cons hk]
  rfl
theorem HX.alive {CS C : Addr} {H : Hp} {X : XA} {A : Ad} {rs : List Row} {ow : List (Str × Str)} {s : Sc} (S : HX CS C H X A rs ow s) : ∀ b ∈ mutX X, ∃ u, H b = some u := fun b hb => by
  simp only [mutX, List.mem_cons, List.not_mem_nil, or_false] at hb
  rcases hb with rfl | rfl | rfl
  · exact ⟨_, S.hr⟩
  · exact ⟨_, S.hn⟩
  · exact ⟨_, S.hv⟩
theorem HX.off {CS C : Addr} {H : Hp} {X : XA} {A : Ad} {rs : List Row} {ow : List (Str × Str)} {s : Sc} (S : HX CS C H X A rs ow s) {b : Addr} (h : H b = none) : b ∉ mutX X := fun hb => by
  obtain ⟨u, hu⟩ := S.alive b hb
  rw [h] at hu
  cases hu
section
variable {P : Program} {w : World} {K : PySem.W.Frag} {mg : Str → Option Value} {base : Heap}
theorem ok_new {CS C CD f fN fK fO fT fU fP fC fD fI : Addr} {fd fdN fdK fdO fdT fdU fdP fdC fdD fdI : FuncData} {e : HA} (F : Fun K "_read_new" "_read_new" sNew f fd) (TC : TS2 K CS) (TC1 : TS0 K C) (T : TNw mg CD) (eT : EX P w K mg base "WrongTable" ["line", "name"] e.CT) (eW : EX P w K mg base "WrongCount" ["line"] e.CW)
    (M_Scope_check_new : Meth K CS "check_new" fN) (G_Scope_check_new : FnOk P w K mg base (L2.CX P w) 3 fN fdN ["self", "line", "name"] (spCkNew CS C e)) (b_Scope_check_new : Binds K fdN ["self", "line", "name"] [])
    (M_Scope_check_table : Meth K CS "check_table" fK) (G_Scope_check_table : FnOk P w K mg base (L2.CX P w) 3 fK fdK ["self", "line", "table"] (spCkTab CS C e)) (b_Scope_check_table : Binds K fdK ["self", "line", "table"] [])
    (M_Scope_table_of_any : Meth K CS "table_of_any" fO) (G_Scope_table_of_any : FnOk P w K mg base (L2.CX P w) 4 fO fdO ["self", "line", "name"] (spTabAny CS C e)) (b_Scope_table_of_any : Binds K fdO ["self", "line", "name"] [])
    (M_Scope_check_term : Meth K CS "check_term" fT) (G_Scope_check_term : FnOk P w K mg base (L2.CX P w) 4 fT fdT ["self", "line", "term"] (spTerm CS C e)) (b_Scope_check_term : Binds K fdT ["self", "line", "term"] [])
    (G__check_under : FnOk P w K mg base (L2.CX P w) 5 fU fdU ["scope", "line", "table", "under"] (spUnder CS C e)) (m__check_under : mg "_check_under" = some (.ref fU)) (k__check_under : PySem.W.keepIn K (.ref fU) = true) (b__check_under : Binds K fdU ["scope", "line", "table", "under"] [])
    (M_Schema_parent_of : Meth K C "parent_of" fP) (G_Schema_parent_of : FnOk P w K mg base (L2.CX P w) 4 fP fdP ["self", "table"] (spMPar C e.toErA)) (b_Schema_parent_of : Binds K fdP ["self", "table"] [])
    (M_Schema_columns : Meth K C "columns" fC) (G_Schema_columns : FnOk P w K mg base (L2.CX P w) 4 fC fdC ["self", "table"] (spMCols C e.toErA)) (b_Schema_columns : Binds K fdC ["self", "table"] [])
    (M_Scope_define_new_row : Meth K CS "define_new_row" fD) (G_Scope_define_new_row : FnOk P w K mg base CX0 1 fD fdD ["self", "name", "table"] (spDefN CS C)) (b_Scope_define_new_row : Binds K fdD ["self", "name", "table"] [])
    (M_Deed : Mk K CD fI) (I_Deed : FnOk P w K mg base CX0 1 fI fdI ["self", "kind", "row", "table", "under", "column", "terms"] (spInitD CD)) (bI_Deed : Binds K fdI ["self", "kind", "row", "table", "under", "column", "terms"] []) :
    FnOk P w K mg base (L2.CX P w) 6 f fd ["scope", "line", "words"] (spDeed CS C CD e pNew) := by
  refine F.okX scNew (fun vs H Q E h => ?_) (fun cdv A' outer s H vs Q E hr h => ?_)
  · obtain ⟨X, A, rs, ow, s, line, wl, ws, rfl, _⟩ := h
    rfl
  · obtain ⟨X, A, rs, ow, sc, line, wl, ws, rfl, S, sm, hwl, ok, dk, hp, k1, k2⟩ := h
    obtain ⟨fT', fdT', OX_WrongTable, IX_WrongTable, TY_WrongTable, GX_WrongTable, BX_WrongTable, NX_WrongTable⟩ := eT.ex
    obtain ⟨fW', fdW', OX_WrongCount, IX_WrongCount, TY_WrongCount, GX_WrongCount, BX_WrongCount, NX_WrongCount⟩ := eW.ex
    have hrX : Room (1 + 1) _ := hr.mono (by decide)
    have hr_Scope_check_new : Room 3 _ := hr.mono (by decide)
    have hr_Scope_check_table : Room 3 _ := hr.mono (by decide)
    have hr_Scope_table_of_any : Room 4 _ := hr.mono (by decide)
    have hr_Scope_check_term : Room 4 _ := hr.mono (by decide)
    have hr__check_under : Room 5 _ := hr
    have hr_Schema_parent_of : Room 4 _ := hr.mono (by decide)
    have hr_Schema_columns : Room 4 _ := hr.mono (by decide)
    have hr_Scope_define_new_row : Room 1 _ := hr.mono (by decide)
    have hr_Deed : Room (1 + 1) _ := hr.mono (by decide)
    have hu := hu_of hr
    refine ⟨_, (pss_cons (ps_par (i := 3) (j := 4) rfl scNew.nd rfl rfl (by decide) rfl rfl (pa_cons (pe_ix (ixL K) (pv 2) pe_int (fun _ _ => rfl)) (pa_cons (pe_ix (ixL K) (pv 2) pe_int (fun _ _ => rfl)) pa_nil)) rfl)
    (pss_cons (ps_par (i := 5) (j := 6) rfl scNew.nd rfl rfl (by decide) rfl rfl (pa_cons pe_non (pa_cons (pe_slice (slL K) (pv 2) (po_some pe_int) po_none) pa_nil)) rfl)
    (pss_cons (ps_if (pt_cmpR op_eq (pe_ix (ixL K) (pv 2) pe_int (fun _ _ => rfl)) pe_str (nomark _))
      (pss_one (ps_par (i := 5) (j := 6) rfl scNew.nd rfl rfl (by decide) rfl rfl (pa_cons (pe_ix (ixL K) (pv 2) pe_int (fun _ _ => rfl)) (pa_cons (pe_slice (slL K) (pv 2) (po_some pe_int) po_none) pa_nil)) rfl))
      pss_nil)
    (pss_cons (ps_expr (pe_meth (pv 0) TC.cl M_Scope_check_new G_Scope_check_new hr_Scope_check_new b_Scope_check_new .nil (passes_call (takes_of rfl rfl rfl rfl) (fun _ _ _ _ h => h)) (pa_cons (pv 1) (pa_cons (pv 3) pa_nil))))
    (pss_cons (ps_expr (pe_meth (pv 0) TC.cl M_Scope_check_table G_Scope_check_table hr_Scope_check_table b_Scope_check_table .nil (passes_call (takes_of rfl rfl rfl rfl) (fun _ _ _ _ h => h)) (pa_cons (pv 1) (pa_cons (pv 4) pa_nil))))
    (pss_cons (ps_if (pt_cmpR op_notN (pv 5) pe_non (nomark _))
      (pss_one (ps_expr (pe_meth (pv 0) TC.cl M_Scope_table_of_any G_Scope_table_of_any hr_Scope_table_of_any b_Scope_table_of_any .nil (passes_call (takes_of rfl rfl rfl rfl) (fun _ _ _ _ h => h)) (pa_cons (pv 1) (pa_cons (pv 5) pa_nil)))))
      pss_nil)
    (pss_cons (ps_for (passes_of rfl) rfl (piL K (pv 6)) (pg_name (i := 7) scNew.nd rfl (Or.inl rfl))
      (pss_one (ps_expr (pe_meth (pv 0) TC.cl M_Scope_check_term G_Scope_check_term hr_Scope_check_term b_Scope_check_term .nil (passes_call (takes_of rfl rfl rfl rfl) (fun _ _ _ _ h => h)) (pa_cons (pv 1) (pa_cons (pv 7) pa_nil))))))
    (pss_cons (ps_if (pt_cmpR op_notN (pv 5) pe_non (nomark _))
      (pss_one (ps_expr (pe_call G__check_under hr__check_under rfl m__check_under k__check_under b__check_under .nil (passes_call (takes_of rfl rfl rfl rfl) (fun _ _ _ _ h => h)) (pa_cons (pv 0) (pa_cons (pv 1) (pa_cons (pv 4) (pa_cons (pv 5) pa_nil)))))))
      (pss_one (ps_if (pt_cmpR op_notN (pe_meth (fldK K (pv 0)) TC1.cl M_Schema_parent_of G_Schema_parent_of hr_Schema_parent_of b_Schema_parent_of .nil (passes_call (takes_of rfl rfl rfl rfl) (fun _ _ _ _ h => h)) (pa_cons (pv 4) pa_nil)) pe_non (nomark _))
        (pss_one (ps_raise rfl (takes_of rfl rfl rfl rfl) (pmk_oex OX_WrongTable IX_WrongTable TY_WrongTable GX_WrongTable hrX BX_WrongTable .nil pass0 rfl NX_WrongTable (pa_cons (pv 1) (pa_cons (pv 4) pa_nil)))))
        pss_nil)))
    (pss_cons (ps_if (pt_cmpR op_ne (pe_callB (lenSeq K) (by rfl) T.n_len (by decide +kernel) (pa_cons (pv 6) pa_nil)) (pe_callB (lenSeq K) (by rfl) T.n_len (by decide +kernel) (pa_cons (pe_meth (fldK K (pv 0)) TC1.cl M_Schema_columns G_Schema_columns hr_Schema_columns b_Schema_columns .nil (passes_call (takes_of rfl rfl rfl rfl) (fun _ _ _ _ h => h)) (pa_cons (pv 4) pa_nil)) pa_nil)) (nomark _))
      (pss_one (ps_raise rfl (takes_of rfl rfl rfl rfl) (pmk_oex OX_WrongCount IX_WrongCount TY_WrongCount GX_WrongCount hrX BX_WrongCount .nil pass0 rfl NX_WrongCount (pa_cons (pv 1) pa_nil))))
      pss_nil)
    (pss_cons (ps_expr (pe_meth (pv 0) TC.cl M_Scope_define_new_row G_Scope_define_new_row hr_Scope_define_new_row b_Scope_define_new_row .nil pass0 (pa_cons (pv 3) (pa_cons (pv 4) pa_nil))))
    (pss_one (ps_ret (pe_make M_Deed I_Deed hr_Deed (by rfl) T.g_Deed bI_Deed .nil pass0 (pa_cons pe_str (pa_cons (pv 3) (pa_cons (pv 4) (pa_cons (pv 5) (pa_cons pe_non (pa_cons (pv 6) pa_nil))))))))))))))))))), ?_⟩
    obtain ⟨l6, l8⟩ := dk.new hp
    have go := rd_new (tb := tbs rs) (s := sc) hp
    have at_ : ∀ {H2 : Hp} {σ : L2.St} {i : Int} (k : Nat), i = (k : Int) → Ex H H2 → σ[2]? = some (some (.ref wl)) → k < ws.length → Ev (tOp (rIxL K) (tVar 2) (tC (.int i))) σ H2 (.str (ws.getD k "")) := fun {H2 σ i} k hi e2 h2 hk => ev_at k hi (ev_var h2) (SqL.of (e2 _ _ hwl)) hk
    have behind : ∀ {H2 : Hp} {σ : L2.St} (k : Nat), k ≤ ws.length → Ex H H2 → σ[2]? = some (some (.ref wl)) → EvL (tSl (rSlL K) (tVar 2) (tPart (tC (.int (k : Int)))) tNoPart) σ H2 ((ws.drop k).map V.str) := fun {H2 σ} k hk e2 h2 =>
      el_is (el_sl (lo := some (k : Int)) (hi := none) (ev_var h2) (eo_some ev_c) eo_none (SqL.of (e2 _ _ hwl))) (by rw [cutV_drop _ k (by rw [List.length_map]; exact hk), List.map_drop])
    have err : ∀ {er : HE} {H1 : Hp}, Ex H H1 → rdNew (tbs rs) sc (ws.getD 1 "") (ws.getD 3 "") (undOf ws) (tmsOf ws) = .inl er → Rz [] E (e.clsH er) (heFs line er) H1 := fun {er H1} e1 h => (k2 er (by rw [go, h]; rfl)).ex e1
    have yes : ∀ {s' : Sc} {x : Addr} {H1 : Hp}, rdNew (tbs rs) sc (ws.getD 1 "") (ws.getD 3 "") (undOf ws) (tmsOf ws) = .inr s' → H x = none → Fr (mutX X) H H1 → HX CS C H1 X A rs ow s' → DdAt CD H1 x ⟨"new", ws.getD 1 "", ws.getD 3 "", undOf ws, none, tmsOf ws⟩ → Q (.ref x) H1 := fun {s' x H1} h hx fr hs dd => k1 s' _ (by rw [go, h]; rfl) x H1 hx fr hs dd
    have tml : ∀ t ∈ tmsOf ws, t.length ≤ 900 := fun t ht => by
      unfold tmsOf at ht
      split at ht <;> exact ok.le t (List.mem_of_mem_drop ht)
    have tmf : (tmsOf ws).length ≤ 900 := by
      have := ok.few
      unfold tmsOf
      split <;> (rw [List.length_drop]; omega)
    clear go k1 k2
    refine w_seq (w_eva (ea_cons (at_ 1 rfl (Ex.refl _) rfl (by omega)) (ea_cons (at_ 3 rfl (Ex.refl _) rfl (by omega)) ea_nil)) (fun H1 e1 => ⟨_, _, rfl, ?_⟩))
    dsimp only
    refine w_seq (w_cons (w_ev ev_c fun H2 e2 => w_cons (w_evl (behind 5 (by omega) (e1.trans e2) rfl) fun tl0 H3 htl0 e3 h3 => w_nil ⟨_, _, rfl, ?_⟩)))
    have e03 := (e1.trans e2).trans e3
    dsimp only
    refine w_seq (w_abs (fun σ' H' => ∃ tl, σ' = [some (.ref X.x), some (.int line), some (.ref wl), some (.str (ws.getD 1 "")), some (.str (ws.getD 3 "")), some (parV (undOf ws)), some (.ref tl), none] ∧ Ex H H' ∧ H' tl = some (.lst ((tmsOf ws).map V.str)) ∧ H tl = none) (fun D' kD => ?_) (fun σ' H4 z => ?_))
    · refine s_if (b := decide (ws.getD 4 "" = "under")) (et_test (ev_is (ev_op (at_ 4 rfl e03 rfl (by omega)) ev_c (rv_eq rfl)) (congrArg V.bl (str_beq _ _)))) (fun c H4 e4 => ?_) (fun c H4 e4 => kD _ H4 ⟨tl0, ?_, e03.trans e4, ?_, fresh_back (e1.trans e2) htl0⟩)
      · have c := of_decide_eq_true c
        have l8 := l8 c
        refine w_cons (w_ev (at_ 5 rfl (e03.trans e4) rfl (by omega)) fun H5 e5 => w_cons (w_evl (behind 7 (by omega) ((e03.trans e4).trans e5) rfl) fun tl H6 htl e6 h6 => w_nil ⟨_, _, rfl, kD _ H6 ⟨tl, ?_, ((e03.trans e4).trans e5).trans e6, ?_, fresh_back ((e03.trans e4).trans e5) htl⟩⟩))
        · unfold undOf
          rw [if_pos c]
          rfl
        · unfold tmsOf
          rw [if_pos c]
          exact h6
      · have c := of_decide_eq_false c
        unfold undOf
        rw [if_neg c]
        rfl
      · have c := of_decide_eq_false c
        unfold tmsOf
        rw [if_neg c]
        exact e4 _ _ h3
    obtain ⟨tl, rfl, e04, htl, tl0⟩ := z
    generalize ws.getD 1 "" = n at err yes
    generalize ws.getD 3 "" = table at err yes
    generalize undOf ws = und at err yes
    generalize tmsOf ws = tms at err yes tml tmf htl
    clear at_ behind l6 l8 dk
    generalize hrd : rdNew (tbs rs) sc n table und tms = rd at err yes
    unfold rdNew at hrd
    have S4 := S.ex e04
    dsimp only
    -- the name is new
    refine w_seq (w_drop (w_methX (ev_var rfl) S4 (fun _ _ _ _ => rfl) (fun H5 e5 => w_cons (w_ev (ev_var rfl) fun H6 e6 => w_cons (w_ev (ev_var rfl) fun H7 e7 => w_nil ⟨X, A, rs, ow, sc, line, n, rfl, S4.ex ((e5.trans e6).trans e7), fun hn H8 e8 => ?_, fun hn => err (((e04.trans e5).trans e6).trans e7) (er := .dup n) (by rw [← hrd, if_pos hn])⟩)))))
    rw [if_neg (by rw [hn]; exact Bool.false_ne_true)] at hrd
    have e08 := (((e04.trans e5).trans e6).trans e7).trans e8
    have tl8 := (((e5.trans e6).trans e7).trans e8) _ _ htl
    have S8 := S.ex e08
    dsimp only
    -- the table is known
    refine w_seq (w_drop (w_methX (ev_var rfl) S8 (fun _ _ _ _ => rfl) (fun H9 e9 => w_cons (w_ev (ev_var rfl) fun H10 e10 => w_cons (w_ev (ev_var rfl) fun H11 e11 => w_nil ⟨X, A, rs, ow, sc, line, table, rfl, S8.ex ((e9.trans e10).trans e11), fun kt H12 e12 => ?_, fun kt => err (((e08.trans e9).trans e10).trans e11) (er := .unk table) (by rw [← hrd, if_pos kt])⟩)))))
    rw [if_neg (by rw [kt]; exact fun z => nomatch z)] at hrd
    obtain ⟨r, hr1, _, _⟩ := findR_of kt
    have e12' := (((e08.trans e9).trans e10).trans e11).trans e12
    have tl12 := (((e9.trans e10).trans e11).trans e12) _ _ tl8
    generalize hσ : ([some (.ref X.x), some (.int line), some (.ref wl), some (.str n), some (.str table), some (parV und), some (.ref tl), none] : L2.St) = σ0
    have g0 : σ0[0]? = some (some (.ref X.x)) := by rw [← hσ]; rfl
    have g1 : σ0[1]? = some (some (.int line)) := by rw [← hσ]; rfl
    have g3 : σ0[3]? = some (some (.str n)) := by rw [← hσ]; rfl
    have g4 : σ0[4]? = some (some (.str table)) := by rw [← hσ]; rfl
    have g5 : σ0[5]? = some (some (parV und)) := by rw [← hσ]; rfl
    have g6 : σ0[6]? = some (some (.ref tl)) := by rw [← hσ]; rfl
    dsimp only
    have tst : ∀ {σ : L2.St} {H1 : Hp}, σ[5]? = some (some (parV und)) → EvT (tTest (tOp (fun x y H Q => y = V.non ∧ Q (.bl (!decide (x = V.non))) H) (tVar 5) (tC .non))) σ H1 (!und.isNone) := fun {σ H1} h => et_test (ev_is (ev_op (ev_var h) ev_c (fun H1 _ Q q => ⟨rfl, q H1 (Ex.refl H1)⟩)) (by rw [parV_non]))
    -- the row above is known
    refine w_seq (w_abs (fun σ' H' => σ0 = σ' ∧ Ex H H' ∧ H' tl = some (.lst (tms.map V.str)) ∧ (und.bind fun u => if (tabAny sc u).isSome = true then none else some u) = none) (fun D' kD => ?_) (fun σ' H13 z => ?_))
    · refine s_if (tst g5) (fun b H13 e13 => ?_) (fun b H13 e13 => kD _ H13 ⟨rfl, e12'.trans e13, e13 _ _ tl12, ?_⟩)
      · cases und with
        | none => cases b
        | some u =>
          have S13 := S.ex (e12'.trans e13)
          refine w_drop (w_methX (ev_var g0) S13 (fun _ _ _ _ => rfl) (fun H14 e14 => w_cons (w_ev (ev_var g1) fun H15 e15 => w_cons (w_ev (v := .str u) (ev_var g5) fun H16 e16 => w_nil ⟨X, A, rs, ow, sc, line, u, rfl, S13.ex ((e14.trans e15).trans e16), fun t ht H17 e17 => ?_, fun hn => err ((((e12'.trans e13).trans e14).trans e15).trans e16) (er := .unk u) ?_⟩))))
          · exact kD _ H17 ⟨rfl, ((((e12'.trans e13).trans e14).trans e15).trans e16).trans e17, ((((e13.trans e14).trans e15).trans e16).trans e17) _ _ tl12, by show (if _ then _ else _) = _; rw [ht]; rfl⟩
          · rw [← hrd]
            have : ((some u).bind fun u => if (tabAny sc u).isSome = true then none else some u) = some u := by show (if _ then _ else _) = _; rw [hn, if_neg (by decide)]
            rw [this]
      · cases und with
        | none => rfl
        | some u => cases b
    obtain ⟨rfl, e13, tl13, hund⟩ := z
    rw [hund] at hrd
    dsimp only at hrd
    -- the terms
    refine q_forLn (a := tl) (xs := tms.map V.str) (ev_var g6) (SqL.of tl13) (fun k σ' H' => (∃ v, σ' = σ0.set 7 v) ∧ Ex H H' ∧ H' tl = some (.lst (tms.map V.str)) ∧ ckTerms (tbs rs) sc tms = ckTerms (tbs rs) sc (tms.drop k)) (fun H14 e14 => ⟨⟨none, by rw [← hσ]; rfl⟩, e13.trans e14, e14 _ _ tl13, rfl⟩) (fun k σ' H' _ p => SqL.of p.2.2.1) (fun k x σ' H' hx p => ?_) (fun σ' H14 p => ?_)
    · obtain ⟨⟨v7, rfl⟩, e14, tl14, hck⟩ := p
      have hk : k < tms.length := by
        have := (List.getElem?_eq_some_iff.mp hx).1
        simpa using this
      rw [List.getElem?_map, List.getElem?_eq_getElem hk] at hx
      obtain rfl : x = V.str tms[k] := (Option.some.inj hx).symm
      rw [ckTerms_drop hk] at hck
      have S14 := S.ex e14
      have q0 : ((σ0.set 7 v7).set 7 (some (V.str tms[k])))[0]? = some (some (.ref X.x)) := by rw [← hσ]; rfl
      have q1 : ((σ0.set 7 v7).set 7 (some (V.str tms[k])))[1]? = some (some (.int line)) := by rw [← hσ]; rfl
      have q7 : ((σ0.set 7 v7).set 7 (some (V.str tms[k])))[7]? = some (some (.str tms[k])) := by rw [← hσ]; rfl
      refine w_drop (w_methX (ev_var q0) S14 (fun _ _ _ _ => rfl) (fun H15 e15 => w_cons (w_ev (ev_var q1) fun H16 e16 => w_cons (w_ev (ev_var q7) fun H17 e17 => w_nil ⟨X, A, rs, ow, sc, line, tms[k], rfl, S14.ex ((e15.trans e16).trans e17), tml _ (List.getElem_mem hk), fun ht H18 e18 => ?_, fun er her => err (((e14.trans e15).trans e16).trans e17) (by rw [← hrd, hck, her])⟩))))
      rw [ht] at hck
      exact ⟨⟨some (V.str tms[k]), by rw [List.set_set]⟩, (((e14.trans e15).trans e16).trans e17).trans e18, (((e15.trans e16).trans e17).trans e18) _ _ tl14, hck⟩
    obtain ⟨⟨v7, rfl⟩, e14, tl14, hck⟩ := p
    rw [List.length_map, List.drop_length] at hck
    have hck : ckTerms (tbs rs) sc tms = none := hck
    rw [hck] at hrd
    dsimp only at hrd
    have f0 : (σ0.set 7 v7)[0]? = some (some (.ref X.x)) := by rw [← hσ]; rfl
    have f1 : (σ0.set 7 v7)[1]? = some (some (.int line)) := by rw [← hσ]; rfl
    have f3 : (σ0.set 7 v7)[3]? = some (some (.str n)) := by rw [← hσ]; rfl
    have f4 : (σ0.set 7 v7)[4]? = some (some (.str table)) := by rw [← hσ]; rfl
    have f5 : (σ0.set 7 v7)[5]? = some (some (parV und)) := by rw [← hσ]; rfl
    have f6 : (σ0.set 7 v7)[6]? = some (some (.ref tl)) := by rw [← hσ]; rfl
    generalize σ0.set 7 v7 = σ1 at f0 f1 f3 f4 f5 f6
    -- the table fits
    generalize hfit : ckFit (tbs rs) sc table und = fit at hrd
    refine w_seq (w_abs (fun σ' H' => σ1 = σ' ∧ Ex H H' ∧ H' tl = some (.lst (tms.map V.str)) ∧ fit = none) (fun D' kD => ?_) (fun σ' H15 z => ?_))
    · have S14 := S.ex e14
      refine s_if (tst f5) (fun b H15 e15 => ?_) (fun b H15 e15 => ?_)
      · cases und with
        | none => cases b
        | some u =>
          have S15 := S14.ex e15
          refine w_drop (w_call (w_eva (ea_cons (ev_var f0) (ea_cons (ev_var f1) (ea_cons (ev_var f4) (ea_cons (ev_var f5) ea_nil)))) (fun H16 e16 => ⟨X, A, rs, ow, sc, line, table, u, rfl, S15.ex e16, kt, fun hn H17 e17 => ?_, fun er her => err ((e14.trans e15).trans e16) ?_⟩)))
          · exact kD _ H17 ⟨rfl, ((e14.trans e15).trans e16).trans e17, ((e15.trans e16).trans e17) _ _ tl14, hfit.symm.trans hn⟩
          · have hf : ckFit (tbs rs) sc table (some u) = some er := her
            rw [← hrd, ← hfit, hf]
      · cases und with
        | some u => cases b
        | none =>
          have S15 := S14.ex e15
          have hfit : (if parOf (tbs rs) table = none then none else some (HE.tab table)) = fit := hfit
          rw [parOf_row hr1] at hfit
          refine s_when (b := !r.t.par.isNone) (et_test (ev_is (ev_op (ev_mpar TC S15 hr1 (ev_var f0) (ev_var f4)) ev_c (fun H1 _ Q q => ⟨rfl, q H1 (Ex.refl H1)⟩)) (by rw [parV_non]))) (fun b H16 e16 => ?_) (fun b H16 e16 => kD _ H16 ⟨rfl, (e14.trans e15).trans e16, (e15.trans e16) _ _ tl14, ?_⟩)
          · refine rz_mk (fs := ["line", "name"]) (vs := [.int line, .str table]) (ea_cons (ev_var f1) (ea_cons (ev_var f4) ea_nil)) rfl (by show 2 ≤ 1000; decide) (err ((e14.trans e15).trans e16) (er := .tab table) ?_)
            rw [← hrd, ← hfit, if_neg]
            intro z
            rw [z] at b
            cases b
          · rw [← hfit, if_pos]
            cases z : r.t.par with
            | none => rfl
            | some p => rw [z] at b; cases b
    obtain ⟨rfl, e15, tl15, hf⟩ := z
    rw [hf] at hrd
    dsimp only at hrd
    -- the count
    have S15 := S.ex e15
    have ec : colsOf (tbs rs) table = r.t.cols := colsOf_row hr1
    rw [ec] at hrd
    dsimp only
    refine q_when (b := !decide (tms.length = r.t.cols.length)) (et_test (ev_is (ev_op (ev_lenA (ev_var f6) (.inl (SqL.of tl15))) (ev_lenE (el_mcols TC S15 hr1 (ev_var f0) (ev_var f4))) (rv_ne rfl)) (by rw [List.length_map, List.length_map]; exact congrArg (fun b => V.bl (!b)) (decide_eq_decide.mpr ⟨fun z => by injection z with z; omega, fun z => congrArg (fun n : Nat => V.int (n : Int)) z⟩)))) (fun b H16 e16 => ?_) (fun b H16 e16 => ?_)
    · refine rz_mk (fs := ["line"]) (vs := [.int line]) (ea_cons (ev_var f1) ea_nil) rfl (by show 1 ≤ 1000; decide) (err (e15.trans e16) (er := .cnt) ?_)
      rw [← hrd, if_neg (by simpa using b)]
    rw [if_pos (by simpa using b)] at hrd
    have e016 := e15.trans e16
    have S16 := S.ex e016
    obtain ⟨_, _, _, n4⟩ := ckNew_at hn
    refine w_seq (w_drop (w_methX (ev_var f0) S16 (fun _ _ _ _ => rfl) (fun H17 e17 => w_cons (w_ev (ev_var f3) fun H18 e18 => w_cons (w_ev (ev_var f4) fun H19 e19 => w_nil ⟨X, A, rs, ow, sc, n, table, rfl, S16.ex ((e17.trans e18).trans e19), sm, n4, kt, fun H20 fr S20 => ?_⟩)))))
    have e19' := ((e016.trans e17).trans e18).trans e19
    have fr20 : Fr (mutX X) H H20 := (Fr.of e19').trans fr
    have tl20 : H20 tl = some (.lst (tms.map V.str)) := fr _ _ (((e16.trans e17).trans (e18.trans e19)) _ _ tl15) (S.off tl0)
    dsimp only
    refine w_ret (w_cons (w_ev ev_c fun H21 e21 => w_cons (w_ev (ev_var f3) fun H22 e22 => w_cons (w_ev (ev_var f4) fun H23 e23 => w_cons (w_ev (ev_var f5) fun H24 e24 => w_cons (w_ev ev_c fun H25 e25 => w_cons (w_ev (ev_var f6) fun H26 e26 => w_nil (fun x dx hx hdx ne => ?_))))))))
    have eF := ((((e21.trans e22).trans e23).trans e24).trans e25).trans e26
    exact mk_deed (d := ⟨"new", n, table, und, none, tms⟩) rfl hx hdx ne (eF _ _ tl20) (fun H' eH dd => yes hrd.symm (fr_back (fr20.trans (Fr.of eF)) (S20.ex eF).alive hx) (fr20.trans (Fr.of (eF.trans eH))) (S20.ex (eF.trans eH)) dd)
end
end My

namespace My
open PySem PySem.Spec PyProof.Rows L2 Evl
/-! ### what a form tells of a line -/
theorem form_at {ws : List Str} {form : Str} (h : formH ws form = true) : ws.length = (partsOf form ws.length).length ∧ ∀ i, i < ws.length → fitsW (ws.getD i "") ((partsOf form ws.length).getD i "") = true := by
  unfold formH at h
  rw [Bool.and_eq_true] at h
  have el := of_decide_eq_true h.1
  refine ⟨el, fun i hi => ?_⟩
  have q := h.2
  rw [← all_zip fitsW "" "" ws _ el, List.all_map, List.all_eq_true] at q
  exact q i (by simpa using hi)
theorem fit_word {w p : Str} (h1 : p ≠ "NAME") (h2 : p ≠ "NAME.NAME") (h3 : p ≠ "TERM") (h : fitsW w p = true) : w = p := by
  unfold fitsW at h
  rw [if_neg h1, if_neg h2, if_neg h3] at h
  exact of_decide_eq_true h
/-- all that the forms tell -/
structure LOk (ws : List Str) : Prop where
  l2 : 2 ≤ ws.length
  row : ws.getD 0 "" = "row" → 4 ≤ ws.length
  need : ws.getD 0 "" = "need" → 4 ≤ ws.length
  d : DOk ws
theorem count_two {w : Str} (h : Txt.count w "." = 1) : (dotS w).length = 2 := by
  unfold Txt.count at h
  unfold dotS Txt.split
  have h1 : ("." : Str).length = 1 := by rfl
  split
  · rename_i c
    rcases Bool.or_eq_true _ _ ▸ c with c | c
    · have c := of_decide_eq_true c
      obtain ⟨i, hi⟩ : ∃ i, i ∈ Builtin.Str.occurrences w "." 0 w.length (w.length + 1) := by
        cases z : Builtin.Str.occurrences w "." 0 w.length (w.length + 1) with
        | nil => rw [z] at h; cases h
        | cons i l => exact ⟨i, List.mem_cons_self ..⟩
      have := (StrLaws.occ_spec w "." 0 w.length (w.length + 1) i hi).1
      omega
    · have c := of_decide_eq_true c
      have h2 : Builtin.Str.strKind "." = 1 := by decide +kernel
      have h3 : 1 ≤ Builtin.Str.strKind w := by
        unfold Builtin.Str.strKind
        split
        · decide
        · split <;> decide
      omega
  · split
    · rename_i c
      rw [List.isEmpty_iff] at c
      rw [c] at h
      cases h
    · rw [len_partsBetween]
      have : (Builtin.Str.occurrences w "." 0 w.length (w.length + 1)).length = 1 := by omega
      omega
theorem partsA : Txt.split "handler NAME" " " = [("handler" : Str), "NAME"] := by decide +kernel
theorem partsB : Txt.split "row NAME in NAME" " " = [("row" : Str), "NAME", "in", "NAME"] := by decide +kernel
theorem partsC : Txt.split "value NAME" " " = [("value" : Str), "NAME"] := by decide +kernel
theorem partsD : Txt.split "need TERM = TERM" " " = [("need" : Str), "TERM", "=", "TERM"] := by decide +kernel
theorem partsE : Txt.split "new NAME in NAME with TERM .." " " = [("new" : Str), "NAME", "in", "NAME", "with", "TERM", ".."] := by decide +kernel
theorem partsF : Txt.split "new NAME in NAME under NAME with TERM .." " " = [("new" : Str), "NAME", "in", "NAME", "under", "NAME", "with", "TERM", ".."] := by decide +kernel
theorem partsG : Txt.split "move NAME under NAME" " " = [("move" : Str), "NAME", "under", "NAME"] := by decide +kernel
theorem partsH : Txt.split "set NAME.NAME = TERM" " " = [("set" : Str), "NAME.NAME", "=", "TERM"] := by decide +kernel
theorem partsI : Txt.split "each NAME below NAME sets NAME = TERM" " " = [("each" : Str), "NAME", "below", "NAME", "sets", "NAME", "=", "TERM"] := by decide +kernel
theorem partsJ : Txt.split "take NAME" " " = [("take" : Str), "NAME"] := by decide +kernel
theorem parts_fix {form : Str} {k : Nat} {ps : List Str} (h : Txt.split form " " = ps) (hl : ps.getLastD "" ≠ "..") : partsOf form k = ps := by
  unfold partsOf
  rw [h, if_neg hl]
theorem parts_dots {form : Str} {k : Nat} {ps : List Str} (h : Txt.split form " " = ps) (hl : ps.getLastD "" = "..") : partsOf form k = ps.dropLast ++ List.replicate (k + 1 - ps.length) (ps.getD (ps.length - 2) "") := by
  unfold partsOf
  rw [h, if_pos hl]
theorem lok_w {ws : List Str} {k : Str} (w0 : ws.getD 0 "" = k) (l2 : 2 ≤ ws.length) (row : k = "row" → 4 ≤ ws.length) (need : k = "need" → 4 ≤ ws.length) (new : k = "new" → 6 ≤ ws.length ∧ (ws.getD 4 "" = "under" → 8 ≤ ws.length)) (move : k = "move" → 4 ≤ ws.length)
    (set : k = "set" → 4 ≤ ws.length ∧ (dotS (ws.getD 1 "")).length = 2) (each : k = "each" → 8 ≤ ws.length) : LOk ws := by
  subst w0
  exact ⟨l2, row, need, ⟨l2, new, move, set, each⟩⟩
theorem lok_fix {ws : List Str} {form : Str} {ps : List Str} (hf : formH ws form = true) (hs : Txt.split form " " = ps) (hl : ps.getLastD "" ≠ "..") : ws.length = ps.length ∧ ∀ i, i < ps.length → fitsW (ws.getD i "") (ps.getD i "") = true := by
  obtain ⟨el, a⟩ := form_at hf
  rw [parts_fix hs hl] at el a
  exact ⟨el, fun i hi => a i (by omega)⟩
theorem lok_of {ws : List Str} {p : Int} (h : placeOf formsH ws = some p) : LOk ws := by
  obtain ⟨f, hm, hf⟩ : ∃ f, f ∈ formsH ∧ formH ws f.2 = true := by
    unfold placeOf at h
    cases z : formsH.find? fun f => formH ws f.2 with
    | none => rw [z] at h; cases h
    | some f => exact ⟨f, List.mem_of_find?_eq_some z, List.find?_some (p := fun (f : Int × Str) => formH ws f.2) z⟩
  simp only [formsH, List.mem_cons, List.not_mem_nil, or_false] at hm
  rcases hm with rfl | rfl | rfl | rfl | rfl | rfl | rfl | rfl | rfl | rfl
  · obtain ⟨l, a⟩ := lok_fix hf partsA (by decide +kernel)
    have l : ws.length = 2 := l
    have w0 : ws.getD 0 "" = "handler" := fit_word (by decide +kernel) (by decide +kernel) (by decide +kernel) (a 0 (by decide))
    exact lok_w w0 (by omega) (fun z => absurd z (by decide +kernel)) (fun z => absurd z (by decide +kernel)) (fun z => absurd z (by decide +kernel)) (fun z => absurd z (by decide +kernel)) (fun z => absurd z (by decide +kernel)) (fun z => absurd z (by decide +kernel))
  · obtain ⟨l, a⟩ := lok_fix hf partsB (by decide +kernel)
    have l : ws.length = 4 := l
    have w0 : ws.getD 0 "" = "row" := fit_word (by decide +kernel) (by decide +kernel) (by decide +kernel) (a 0 (by decide))
    exact lok_w w0 (by omega) (fun _ => by omega) (fun z => absurd z (by decide +kernel)) (fun z => absurd z (by decide +kernel)) (fun z => absurd z (by decide +kernel)) (fun z => absurd z (by decide +kernel)) (fun z => absurd z (by decide +kernel))
  · obtain ⟨l, a⟩ := lok_fix hf partsC (by decide +kernel)
    have l : ws.length = 2 := l
    have w0 : ws.getD 0 "" = "value" := fit_word (by decide +kernel) (by decide +kernel) (by decide +kernel) (a 0 (by decide))
    exact lok_w w0 (by omega) (fun z => absurd z (by decide +kernel)) (fun z => absurd z (by decide +kernel)) (fun z => absurd z (by decide +kernel)) (fun z => absurd z (by decide +kernel)) (fun z => absurd z (by decide +kernel)) (fun z => absurd z (by decide +kernel))
  · obtain ⟨l, a⟩ := lok_fix hf partsD (by decide +kernel)
    have l : ws.length = 4 := l
    have w0 : ws.getD 0 "" = "need" := fit_word (by decide +kernel) (by decide +kernel) (by decide +kernel) (a 0 (by decide))
    exact lok_w w0 (by omega) (fun z => absurd z (by decide +kernel)) (fun _ => by omega) (fun z => absurd z (by decide +kernel)) (fun z => absurd z (by decide +kernel)) (fun z => absurd z (by decide +kernel)) (fun z => absurd z (by decide +kernel))
  · obtain ⟨el, a⟩ := form_at hf
    rw [parts_dots partsE (by decide +kernel)] at el a
    have l : ws.length = 6 + (ws.length + 1 - 7) := by
      rw [List.length_append, List.length_replicate] at el
      exact el
    have w0 : ws.getD 0 "" = "new" := fit_word (by decide +kernel) (by decide +kernel) (by decide +kernel) (a 0 (by omega))
    have w4 : ws.getD 4 "" = "with" := fit_word (by decide +kernel) (by decide +kernel) (by decide +kernel) (a 4 (by omega))
    exact lok_w w0 (by omega) (fun z => absurd z (by decide +kernel)) (fun z => absurd z (by decide +kernel)) (fun _ => ⟨by omega, fun z => by rw [w4] at z; exact absurd z (by decide +kernel)⟩) (fun z => absurd z (by decide +kernel)) (fun z => absurd z (by decide +kernel)) (fun z => absurd z (by decide +kernel))
  · obtain ⟨el, a⟩ := form_at hf
    rw [parts_dots partsF (by decide +kernel)] at el a
    have l : ws.length = 8 + (ws.length + 1 - 9) := by
      rw [List.length_append, List.length_replicate] at el
      exact el
    have w0 : ws.getD 0 "" = "new" := fit_word (by decide +kernel) (by decide +kernel) (by decide +kernel) (a 0 (by omega))
    exact lok_w w0 (by omega) (fun z => absurd z (by decide +kernel)) (fun z => absurd z (by decide +kernel)) (fun _ => ⟨by omega, fun _ => by omega⟩) (fun z => absurd z (by decide +kernel)) (fun z => absurd z (by decide +kernel)) (fun z => absurd z (by decide +kernel))
  · obtain ⟨l, a⟩ := lok_fix hf partsG (by decide +kernel)
    have l : ws.length = 4 := l
    have w0 : ws.getD 0 "" = "move" := fit_word (by decide +kernel) (by decide +kernel) (by decide +kernel) (a 0 (by decide))
    exact lok_w w0 (by omega) (fun z => absurd z (by decide +kernel)) (fun z => absurd z (by decide +kernel)) (fun z => absurd z (by decide +kernel)) (fun _ => by omega) (fun z => absurd z (by decide +kernel)) (fun z => absurd z (by decide +kernel))
  · obtain ⟨l, a⟩ := lok_fix hf partsH (by decide +kernel)
    have l : ws.length = 4 := l
    have w0 : ws.getD 0 "" = "set" := fit_word (by decide +kernel) (by decide +kernel) (by decide +kernel) (a 0 (by decide))
    have w1 : fitsW (ws.getD 1 "") "NAME.NAME" = true := a 1 (by decide)
    unfold fitsW at w1
    rw [if_neg (by decide +kernel), if_pos rfl, Bool.and_eq_true] at w1
    exact lok_w w0 (by omega) (fun z => absurd z (by decide +kernel)) (fun z => absurd z (by decide +kernel)) (fun z => absurd z (by decide +kernel)) (fun z => absurd z (by decide +kernel)) (fun _ => ⟨by omega, count_two (of_decide_eq_true w1.1)⟩) (fun z => absurd z (by decide +kernel))
  · obtain ⟨l, a⟩ := lok_fix hf partsI (by decide +kernel)
    have l : ws.length = 8 := l
    have w0 : ws.getD 0 "" = "each" := fit_word (by decide +kernel) (by decide +kernel) (by decide +kernel) (a 0 (by decide))
    exact lok_w w0 (by omega) (fun z => absurd z (by decide +kernel)) (fun z => absurd z (by decide +kernel)) (fun z => absurd z (by decide +kernel)) (fun z => absurd z (by decide +kernel)) (fun z => absurd z (by decide +kernel)) (fun _ => by omega)
  · obtain ⟨l, a⟩ := lok_fix hf partsJ (by decide +kernel)
    have l : ws.length = 2 := l
    have w0 : ws.getD 0 "" = "take" := fit_word (by decide +kernel) (by decide +kernel) (by decide +kernel) (a 0 (by decide))
    exact lok_w w0 (by omega) (fun z => absurd z (by decide +kernel)) (fun z => absurd z (by decide +kernel)) (fun z => absurd z (by decide +kernel)) (fun z => absurd z (by decide +kernel)) (fun z => absurd z (by decide +kernel)) (fun z => absurd z (by decide +kernel))
section
variable {P : Program} {w : World} {K : PySem.W.Frag} {mg : Str → Option Value} {base : Heap}
def pAny (ws : List Str) : Prop := True
theorem ok_deed {CS C CD f f1 f2 f3 f4 f5 : Addr} {fd fd1 fd2 fd3 fd4 fd5 : FuncData} {e : HA} (F : Fun K "read_deed" "read_deed" sDeed f fd)
    (G__read_new : FnOk P w K mg base (L2.CX P w) 6 f1 fd1 ["scope", "line", "words"] (spDeed CS C CD e pNew)) (m__read_new : mg "_read_new" = some (.ref f1)) (k__read_new : PySem.W.keepIn K (.ref f1) = true) (b__read_new : Binds K fd1 ["scope", "line", "words"] [])
    (G__read_move : FnOk P w K mg base (L2.CX P w) 6 f2 fd2 ["scope", "line", "words"] (spDeed CS C CD e pMove)) (m__read_move : mg "_read_move" = some (.ref f2)) (k__read_move : PySem.W.keepIn K (.ref f2) = true) (b__read_move : Binds K fd2 ["scope", "line", "words"] [])
    (G__read_set : FnOk P w K mg base (L2.CX P w) 6 f3 fd3 ["scope", "line", "words"] (spDeed CS C CD e pSet)) (m__read_set : mg "_read_set" = some (.ref f3)) (k__read_set : PySem.W.keepIn K (.ref f3) = true) (b__read_set : Binds K fd3 ["scope", "line", "words"] [])
    (G__read_each : FnOk P w K mg base (L2.CX P w) 6 f4 fd4 ["scope", "line", "words"] (spDeed CS C CD e pEach)) (m__read_each : mg "_read_each" = some (.ref f4)) (k__read_each : PySem.W.keepIn K (.ref f4) = true) (b__read_each : Binds K fd4 ["scope", "line", "words"] [])
    (G__read_take : FnOk P w K mg base (L2.CX P w) 6 f5 fd5 ["scope", "line", "words"] (spDeed CS C CD e pTake)) (m__read_take : mg "_read_take" = some (.ref f5)) (k__read_take : PySem.W.keepIn K (.ref f5) = true) (b__read_take : Binds K fd5 ["scope", "line", "words"] []) :
    FnOk P w K mg base (L2.CX P w) 7 f fd ["scope", "line", "words"] (spDeed CS C CD e pAny) := by
  refine F.okX scDeed (fun vs H Q E h => ?_) (fun cdv A' outer s H vs Q E hr h => ?_)
  · obtain ⟨X, A, rs, ow, s, line, wl, ws, rfl, _⟩ := h
    rfl
  · obtain ⟨X, A, rs, ow, sc, line, wl, ws, rfl, S, sm, hwl, ok, dk, hp, k1, k2⟩ := h
    have hr__read_new : Room 6 _ := hr
    have hr__read_move : Room 6 _ := hr
    have hr__read_set : Room 6 _ := hr
    have hr__read_each : Room 6 _ := hr
    have hr__read_take : Room 6 _ := hr
    refine ⟨_, (pss_cons (ps_if (pt_cmpR op_eq (pe_ix (ixL K) (pv 2) pe_int (fun _ _ => rfl)) pe_str (nomark _))
      (pss_one (ps_ret (pe_call G__read_new hr__read_new rfl m__read_new k__read_new b__read_new .nil (passes_call (takes_of rfl rfl rfl rfl) (fun _ _ _ _ h => h)) (pa_cons (pv 0) (pa_cons (pv 1) (pa_cons (pv 2) pa_nil))))))
      pss_nil)
    (pss_cons (ps_if (pt_cmpR op_eq (pe_ix (ixL K) (pv 2) pe_int (fun _ _ => rfl)) pe_str (nomark _))
      (pss_one (ps_ret (pe_call G__read_move hr__read_move rfl m__read_move k__read_move b__read_move .nil (passes_call (takes_of rfl rfl rfl rfl) (fun _ _ _ _ h => h)) (pa_cons (pv 0) (pa_cons (pv 1) (pa_cons (pv 2) pa_nil))))))
      pss_nil)
    (pss_cons (ps_if (pt_cmpR op_eq (pe_ix (ixL K) (pv 2) pe_int (fun _ _ => rfl)) pe_str (nomark _))
      (pss_one (ps_ret (pe_call G__read_set hr__read_set rfl m__read_set k__read_set b__read_set .nil (passes_call (takes_of rfl rfl rfl rfl) (fun _ _ _ _ h => h)) (pa_cons (pv 0) (pa_cons (pv 1) (pa_cons (pv 2) pa_nil))))))
      pss_nil)
    (pss_cons (ps_if (pt_cmpR op_eq (pe_ix (ixL K) (pv 2) pe_int (fun _ _ => rfl)) pe_str (nomark _))
      (pss_one (ps_ret (pe_call G__read_each hr__read_each rfl m__read_each k__read_each b__read_each .nil (passes_call (takes_of rfl rfl rfl rfl) (fun _ _ _ _ h => h)) (pa_cons (pv 0) (pa_cons (pv 1) (pa_cons (pv 2) pa_nil))))))
      pss_nil)
    (pss_one (ps_ret (pe_call G__read_take hr__read_take rfl m__read_take k__read_take b__read_take .nil (passes_call (takes_of rfl rfl rfl rfl) (fun _ _ _ _ h => h)) (pa_cons (pv 0) (pa_cons (pv 1) (pa_cons (pv 2) pa_nil)))))))))), ?_⟩
    have l2 := dk.l2
    have first : ∀ {H2 : Hp} (z : Str), Ex H H2 → EvT (tTest (tOp rEq (tOp (rIxL K) (tVar 2) (tC (.int 0))) (tC (.str z)))) (L2.start ["scope", "line", "words"] [.ref X.x, .int line, .ref wl]) H2 (decide (ws.getD 0 "" = z)) := fun {H2} z e2 =>
      et_test (ev_is (ev_op (ev_at 0 rfl (ev_var rfl) (SqL.of (e2 _ _ hwl)) (by omega)) ev_c (rv_eq rfl)) (congrArg V.bl (str_beq _ _)))
    have sub : ∀ {p : List Str → Prop} {H1 : Hp}, Ex H H1 → p ws → tCall (spDeed CS C CD e p) [] E (tCons (tVar 0) (tCons (tVar 1) (tCons (tVar 2) tNil))) (L2.start ["scope", "line", "words"] [.ref X.x, .int line, .ref wl]) H1 Q := fun {p H1} e1 hp =>
      w_call (w_eva (ea_cons (ev_var rfl) (ea_cons (ev_var rfl) (ea_cons (ev_var rfl) ea_nil))) (fun H2 e2 => ⟨X, A, rs, ow, sc, line, wl, ws, rfl, S.ex (e1.trans e2), sm, (e1.trans e2) _ _ hwl, ok, dk, hp, fun s' d hs a H' ha fr hx da => k1 s' d hs a H' (fresh_back (e1.trans e2) ha) ((Fr.of (e1.trans e2)).trans fr) hx da, fun er her => (k2 er her).ex (e1.trans e2)⟩))
    refine q_when (first "new" (Ex.refl H)) (fun c H1 e1 => ?_) (fun c1 H1 e1 => ?_)
    · exact w_ret (sub e1 (of_decide_eq_true (p := ws.getD 0 "" = "new") c))
    refine q_when (first "move" e1) (fun c H2 e2 => ?_) (fun c2 H2 e2 => ?_)
    · exact w_ret (sub (e1.trans e2) (of_decide_eq_true (p := ws.getD 0 "" = "move") c))
    have e02 := e1.trans e2
    refine q_when (first "set" e02) (fun c H3 e3 => ?_) (fun c3 H3 e3 => ?_)
    · exact w_ret (sub (e02.trans e3) (of_decide_eq_true (p := ws.getD 0 "" = "set") c))
    have e03 := e02.trans e3
    refine q_when (first "each" e03) (fun c H4 e4 => ?_) (fun c4 H4 e4 => ?_)
    · exact w_ret (sub (e03.trans e4) (of_decide_eq_true (p := ws.getD 0 "" = "each") c))
    exact w_ret (sub (e03.trans e4) ⟨of_decide_eq_false c1, of_decide_eq_false c2, of_decide_eq_false c3, of_decide_eq_false c4⟩)
end
end My

namespace My
open PySem PySem.Spec PyProof.Rows L2 Evl
/-! ### a handler in the heap; a line of it -/
structure YA where
  (h dh nd dl dd : Addr)
def mutY (Y : YA) (X : XA) : List Addr := Y.h :: Y.nd :: Y.dl :: Y.dd :: mutX X
abbrev hFs (A : Ad) (X : XA) (Y : YA) (tx nm : Str) : List (Str × V) := [("name", .str nm), ("text", .str tx), ("schema", .ref A.a), ("_scope", .ref X.x), ("_needs", .ref Y.nd), ("_deed_lines", .ref Y.dl), ("_deeds", .ref Y.dd)]
/-- all but dicts, lists and the handler itself stands -/
def Kps (y : Addr) (H H' : Hp) : Prop := ∀ b u, H b = some u → (∀ k, u ≠ .dK k) → (∀ k, u ≠ .lst k) → b ≠ y → H' b = some u
structure HH (CH CS C CD : Addr) (H : Hp) (Y : YA) (X : XA) (A : Ad) (rs : List Row) (ow : List (Str × Str)) (tx : Str) (h : Hs) (ns ds : List Addr) : Prop where
  ins : H Y.h = some (.ins CH Y.dh (hFs A X Y tx h.nm))
  hx : HX CS C H X A rs ow h.sc
  hn : H Y.nd = some (.lst (ns.map V.ref))
  pn : Paired (fun (a : Addr) (q : Str × Str) => H a = some (.tup [.str q.1, .str q.2])) ns h.needs
  hl : H Y.dl = some (.lst (h.dl.map V.str))
  hd : H Y.dd = some (.lst (ds.map V.ref))
  pd : Paired (fun (a : Addr) (d : Dd) => a ≠ Y.h ∧ DdAt CD H a d) ds h.dd
  ax : X.x ≠ Y.h ∧ A.a ≠ Y.h
  al : [X.v, Y.nd, Y.dl, Y.dd].Nodup
  ac : ∀ r ∈ rs, r.ca ≠ Y.nd ∧ r.ca ≠ Y.dl ∧ r.ca ≠ Y.dd
structure TS4 (K : PySem.W.Frag) (CH : Addr) : Prop where
  cl : Cls K CH
  n1 : NoAttr K CH "name"
  n2 : NoAttr K CH "text"
  n3 : NoAttr K CH "schema"
  n4 : NoAttr K CH "_scope"
  n5 : NoAttr K CH "_needs"
  n6 : NoAttr K CH "_deed_lines"
  n7 : NoAttr K CH "_deeds"
theorem DdAt.kps {CD y : Addr} {H H' : Hp} {a : Addr} {d : Dd} (k : Kps y H H') (n : a ≠ y) (hy : ∀ u, H y = some u → ∃ C dx fs, u = .ins C dx fs) (h : DdAt CD H a d) : DdAt CD H' a d := by
  obtain ⟨dx, q, h1, h2⟩ := h
  refine ⟨dx, q, k _ _ h1 (fun _ z => nomatch z) (fun _ z => nomatch z) n, k _ _ h2 (fun _ z => nomatch z) (fun _ z => nomatch z) (fun e => ?_)⟩
  obtain ⟨_, _, _, e'⟩ := hy _ (e ▸ h2)
  cases e'
theorem paired_kps {CD y : Addr} {H H' : Hp} (k : Kps y H H') (hy : ∀ u, H y = some u → ∃ C dx fs, u = .ins C dx fs) : ∀ {ds : List Addr} {xs : List Dd}, Paired (fun (a : Addr) (d : Dd) => a ≠ y ∧ DdAt CD H a d) ds xs → Paired (fun (a : Addr) (d : Dd) => a ≠ y ∧ DdAt CD H' a d) ds xs := fun h => L2.Paired.mapP h fun a d z => ⟨z.1, z.2.kps k z.1 hy⟩
theorem paired_kpn {y : Addr} {H H' : Hp} (k : Kps y H H') (hy : ∀ u, H y = some u → ∃ C dx fs, u = .ins C dx fs) : ∀ {ns : List Addr} {xs : List (Str × Str)}, Paired (fun (a : Addr) (q : Str × Str) => H a = some (.tup [.str q.1, .str q.2])) ns xs → Paired (fun (a : Addr) (q : Str × Str) => H' a = some (.tup [.str q.1, .str q.2])) ns xs := fun h => L2.Paired.mapP h fun a d z => k _ _ z (fun _ e => nomatch e) (fun _ e => nomatch e) (fun e => by
  obtain ⟨_, _, _, e'⟩ := hy _ (e ▸ z)
  cases e')
theorem paired_snoc {α β : Type} {R : α → β → Prop} {xs : List α} {ys : List β} {x : α} {y : β} (h : Paired R xs ys) (r : R x y) : Paired R (xs ++ [x]) (ys ++ [y]) := by
  induction h with
  | nil => exact .cons r .nil
  | cons a _ ih => exact .cons a ih
section
variable {K : PySem.W.Frag} {CH CS C CD : Addr} {H H' : Hp} {Y : YA} {X : XA} {A : Ad} {rs : List Row} {ow : List (Str × Str)} {tx : Str} {h : Hs} {ns ds : List Addr} {σ : L2.St} {te : TE}
theorem HX.put (S : HX CS C H X A rs ow h.sc) {b : Addr} {o : HO} (h1 : b ≠ X.x) (h2 : b ∉ mutX X) (h3 : b ∉ mutS A rs) (h4 : ∀ r ∈ rs, r.ca ≠ b) (h5 : A.a ≠ b) : HX CS C (upd H b o) X A rs ow h.sc := by
  have n : ∀ c, c ∈ mutX X → c ≠ b := fun c hc e => h2 (e ▸ hc)
  exact ⟨by rw [upd_ne h1.symm]; exact S.ins, by rw [upd_ne (n _ (by simp [mutX]))]; exact S.hr, by rw [upd_ne (n _ (by simp [mutX]))]; exact S.hn, by rw [upd_ne (n _ (by simp [mutX]))]; exact S.hv, S.ne, S.sa.put h3 h4 h5, S.wf, S.few, S.ap, S.kr, S.kn⟩
theorem HH.yk (S : HH CH CS C CD H Y X A rs ow tx h ns ds) : ∀ u, H Y.h = some u → ∃ C dx fs, u = .ins C dx fs := fun u hu => by
  rw [S.ins] at hu
  exact ⟨_, _, _, (Option.some.inj hu).symm⟩
theorem HH.ex (e : Ex H H') (S : HH CH CS C CD H Y X A rs ow tx h ns ds) : HH CH CS C CD H' Y X A rs ow tx h ns ds :=
  ⟨e _ _ S.ins, S.hx.ex e, e _ _ S.hn, paired_kpn (fun b u hb _ _ _ => e b u hb) S.yk S.pn, e _ _ S.hl, e _ _ S.hd, paired_kps (fun b u hb _ _ _ => e b u hb) S.yk S.pd, S.ax, S.al, S.ac⟩
theorem notX (S : HH CH CS C CD H Y X A rs ow tx h ns ds) : Y.h ∉ mutX X ∧ Y.nd ∉ mutX X ∧ Y.dl ∉ mutX X ∧ Y.dd ∉ mutX X := by
  have al := S.al
  simp only [List.nodup_cons, List.mem_cons, List.not_mem_nil, or_false, not_or] at al
  obtain ⟨⟨a1, a2, a3⟩, _⟩ := al
  have hr := S.hx.hr
  have hn := S.hx.hn
  have hv := S.hx.hv
  simp only [mutX, List.mem_cons, List.not_mem_nil, or_false, not_or]
  exact ⟨⟨ne_kind S.ins hr (fun z => nomatch z), ne_kind S.ins hn (fun z => nomatch z), ne_kind S.ins hv (fun z => nomatch z)⟩, ⟨ne_kind S.hn hr (fun z => nomatch z), ne_kind S.hn hn (fun z => nomatch z), Ne.symm a1⟩, ⟨ne_kind S.hl hr (fun z => nomatch z), ne_kind S.hl hn (fun z => nomatch z), Ne.symm a2⟩, ⟨ne_kind S.hd hr (fun z => nomatch z), ne_kind S.hd hn (fun z => nomatch z), Ne.symm a3⟩⟩
/-- the names have changed -/
theorem HH.scope (S : HH CH CS C CD H Y X A rs ow tx h ns ds) {s' : Sc} (f : Fr (mutX X) H H') (hx : HX CS C H' X A rs ow s') : HH CH CS C CD H' Y X A rs ow tx { h with sc := s' } ns ds := by
  obtain ⟨n1, n2, n3, n4⟩ := notX S
  have k : Kps Y.h H H' := fun b u hb hd hl _ => f b u hb (fun z => by
    simp only [mutX, List.mem_cons, List.not_mem_nil, or_false] at z
    rcases z with rfl | rfl | rfl
    · exact hd _ (Option.some.inj (hb.symm.trans S.hx.hr))
    · exact hd _ (Option.some.inj (hb.symm.trans S.hx.hn))
    · exact hl _ (Option.some.inj (hb.symm.trans S.hx.hv)))
  exact ⟨f _ _ S.ins n1, hx, f _ _ S.hn n2, paired_kpn k S.yk S.pn, f _ _ S.hl n3, f _ _ S.hd n4, paired_kps k S.yk S.pd, S.ax, S.al, S.ac⟩
theorem HH.notS (S : HH CH CS C CD H Y X A rs ow tx h ns ds) {b : Addr} {u : HO} (hb : H b = some u) (hu : ∀ k, u ≠ .dK k) : b ∉ mutS A rs := S.hx.sa.off hb hu
/-- the name is set -/
theorem HH.name (S : HH CH CS C CD H Y X A rs ow tx h ns ds) (nm : Str) : HH CH CS C CD (upd H Y.h (.ins CH Y.dh (hFs A X Y tx nm))) Y X A rs ow tx { h with nm := nm } ns ds := by
  obtain ⟨n1, n2, n3, n4⟩ := notX S
  have k : Kps Y.h H (upd H Y.h (.ins CH Y.dh (hFs A X Y tx nm))) := fun b u hb _ _ n => by rw [upd_ne n]; exact hb
  refine ⟨upd_same, S.hx.put S.ax.1.symm n1 (S.notS S.ins (fun _ z => nomatch z)) (fun r hr => ne_kind (S.hx.sa.cs r hr) S.ins (fun z => nomatch z)) S.ax.2, ?_, paired_kpn k S.yk S.pn, ?_, ?_, paired_kps k S.yk S.pd, S.ax, S.al, S.ac⟩
  · rw [upd_ne (ne_kind S.hn S.ins (fun z => nomatch z))]; exact S.hn
  · rw [upd_ne (ne_kind S.hl S.ins (fun z => nomatch z))]; exact S.hl
  · rw [upd_ne (ne_kind S.hd S.ins (fun z => nomatch z))]; exact S.hd
theorem HH.kl (S : HH CH CS C CD H Y X A rs ow tx h ns ds) {b : Addr} {zs : List V} {o : HO} (hb : H b = some (.lst zs)) : Kps Y.h H (upd H b o) := fun c u hc _ hl n => by
  have : c ≠ b := fun e => hl zs (by rw [e, hb] at hc; exact (Option.some.inj hc).symm)
  rw [upd_ne this]; exact hc
theorem HH.need (S : HH CH CS C CD H Y X A rs ow tx h ns ds) {a : Addr} {q : Str × Str} (ha : H a = some (.tup [.str q.1, .str q.2])) : HH CH CS C CD (upd H Y.nd (.lst ((ns ++ [a]).map V.ref))) Y X A rs ow tx { h with needs := h.needs ++ [q] } (ns ++ [a]) ds := by
  obtain ⟨n1, n2, n3, n4⟩ := notX S
  have al := S.al
  simp only [List.nodup_cons, List.mem_cons, List.not_mem_nil, or_false, not_or] at al
  obtain ⟨_, ⟨b1, b2⟩, b3, _⟩ := al
  have k := S.kl (o := .lst ((ns ++ [a]).map V.ref)) S.hn
  refine ⟨?_, S.hx.put (ne_kind S.hn S.hx.ins (fun z => nomatch z)) n2 (S.notS S.hn (fun _ z => nomatch z)) (fun r hr => (S.ac r hr).1) (ne_kind S.hx.sa.ins S.hn (fun z => nomatch z)), upd_same, paired_snoc (paired_kpn k S.yk S.pn) ?_, ?_, ?_, paired_kps k S.yk S.pd, S.ax, S.al, S.ac⟩
  · rw [upd_ne (ne_kind S.ins S.hn (fun z => nomatch z))]; exact S.ins
  · show (upd H Y.nd _) a = _
    rw [upd_ne (ne_kind ha S.hn (fun z => nomatch z))]; exact ha
  · rw [upd_ne (Ne.symm b1)]; exact S.hl
  · rw [upd_ne (Ne.symm b2)]; exact S.hd
theorem HH.deed (S : HH CH CS C CD H Y X A rs ow tx h ns ds) {a : Addr} {d : Dd} (na : a ≠ Y.h) (ha : DdAt CD H a d) : HH CH CS C CD (upd H Y.dd (.lst ((ds ++ [a]).map V.ref))) Y X A rs ow tx { h with dd := h.dd ++ [d] } ns (ds ++ [a]) := by
  obtain ⟨n1, n2, n3, n4⟩ := notX S
  have al := S.al
  simp only [List.nodup_cons, List.mem_cons, List.not_mem_nil, or_false, not_or] at al
  obtain ⟨_, ⟨b1, b2⟩, b3, _⟩ := al
  have k := S.kl (o := .lst ((ds ++ [a]).map V.ref)) S.hd
  refine ⟨?_, S.hx.put (ne_kind S.hd S.hx.ins (fun z => nomatch z)) n4 (S.notS S.hd (fun _ z => nomatch z)) (fun r hr => (S.ac r hr).2.2) (ne_kind S.hx.sa.ins S.hd (fun z => nomatch z)), ?_, paired_kpn k S.yk S.pn, ?_, upd_same, paired_snoc (paired_kps k S.yk S.pd) ⟨na, ha.kps k na S.yk⟩, S.ax, S.al, S.ac⟩
  · rw [upd_ne (ne_kind S.ins S.hd (fun z => nomatch z))]; exact S.ins
  · rw [upd_ne b2]; exact S.hn
  · rw [upd_ne b3]; exact S.hl
theorem HH.dline (S : HH CH CS C CD H Y X A rs ow tx h ns ds) (w : Str) : HH CH CS C CD (upd H Y.dl (.lst ((h.dl ++ [w]).map V.str))) Y X A rs ow tx { h with dl := h.dl ++ [w] } ns ds := by
  obtain ⟨n1, n2, n3, n4⟩ := notX S
  have al := S.al
  simp only [List.nodup_cons, List.mem_cons, List.not_mem_nil, or_false, not_or] at al
  obtain ⟨_, ⟨b1, b2⟩, b3, _⟩ := al
  have k := S.kl (o := .lst ((h.dl ++ [w]).map V.str)) S.hl
  refine ⟨?_, S.hx.put (ne_kind S.hl S.hx.ins (fun z => nomatch z)) n3 (S.notS S.hl (fun _ z => nomatch z)) (fun r hr => (S.ac r hr).2.1) (ne_kind S.hx.sa.ins S.hl (fun z => nomatch z)), ?_, paired_kpn k S.yk S.pn, upd_same, ?_, paired_kps k S.yk S.pd, S.ax, S.al, S.ac⟩
  · rw [upd_ne (ne_kind S.ins S.hl (fun z => nomatch z))]; exact S.ins
  · rw [upd_ne b1]; exact S.hn
  · rw [upd_ne (Ne.symm b3)]; exact S.hd
theorem HH.alive (S : HH CH CS C CD H Y X A rs ow tx h ns ds) : ∀ b ∈ mutY Y X, ∃ u, H b = some u := fun b hb => by
  simp only [mutY, List.mem_cons] at hb
  rcases hb with rfl | rfl | rfl | rfl | hb
  · exact ⟨_, S.ins⟩
  · exact ⟨_, S.hn⟩
  · exact ⟨_, S.hl⟩
  · exact ⟨_, S.hd⟩
  · exact S.hx.alive b hb
theorem mutX_Y {b : Addr} (h : b ∈ mutX X) : b ∈ mutY Y X := List.mem_cons_of_mem _ (List.mem_cons_of_mem _ (List.mem_cons_of_mem _ (List.mem_cons_of_mem _ h)))
theorem Fr.xy (f : Fr (mutX X) H H') : Fr (mutY Y X) H H' := f.mono fun b hb => .inl (mutX_Y hb)
theorem ev_hSc (T : TS4 K CH) (S : HH CH CS C CD H Y X A rs ow tx h ns ds) (ho : Ev te σ H (.ref Y.h)) : Ev (tFld K te "_scope") σ H (.ref X.x) := ev_fldX T.cl T.n4 ho S.ins rfl
theorem ev_hNd (T : TS4 K CH) (S : HH CH CS C CD H Y X A rs ow tx h ns ds) (ho : Ev te σ H (.ref Y.h)) : Ev (tFld K te "_needs") σ H (.ref Y.nd) := ev_fldX T.cl T.n5 ho S.ins rfl
theorem ev_hDl (T : TS4 K CH) (S : HH CH CS C CD H Y X A rs ow tx h ns ds) (ho : Ev te σ H (.ref Y.h)) : Ev (tFld K te "_deed_lines") σ H (.ref Y.dl) := ev_fldX T.cl T.n6 ho S.ins rfl
theorem ev_hDd (T : TS4 K CH) (S : HH CH CS C CD H Y X A rs ow tx h ns ds) (ho : Ev te σ H (.ref Y.h)) : Ev (tFld K te "_deeds") σ H (.ref Y.dd) := ev_fldX T.cl T.n7 ho S.ins rfl
theorem w_methH {m : Str} {sp : Sp} {dvs : List V} {E : XK} {t : TA} {Q : VK} (ho : Ev te σ H (.ref Y.h)) (S : HH CH CS C CD H Y X A rs ow tx h ns ds) (no : ∀ a b c d e f g : V, List.lookup m [(("name" : Str), a), ("text", b), ("schema", c), ("_scope", d), ("_needs", e), ("_deed_lines", f), ("_deeds", g)] = none)
    (k : ∀ H1, Ex H H1 → t σ H1 fun vs H2 => sp (.ref Y.h :: (vs ++ dvs)) H2 Q E) : tMeth CH m sp dvs E te t σ H Q :=
  ho H (Ex.refl H) _ fun H1 e1 => ⟨Y.h, Y.dh, _, rfl, (S.ex e1).ins, no _ _ _ _ _ _ _, k H1 e1⟩
end
/-- few of each -/
def Hm9 (h : Hs) : Prop := Sm9 h.sc ∧ h.needs.length ≤ 100 ∧ h.dl.length ≤ 100 ∧ h.dd.length ≤ 100
end My

namespace My
open PySem PySem.Spec PyProof.Rows L2 Evl
/-! ### a line of a handler is read -/
theorem inV_two (w a b : Str) : inV (.str w) [.str a, .str b] = (decide (w = a) || decide (w = b)) := by
  show inV (.str w) ([a, b].map V.str) = _
  rw [inV_strs, ← Bool.decide_or]
  exact decide_eq_decide.mpr (by simp)
theorem ws_sum {ws : List Str} (ok : WsOk ws) : (ws.map (·.length)).sum + ws.length * 1 ≤ 16777216 := by
  have h1 := sum_le (n := 900) (l := ws.map (·.length)) (fun x hx => by
    obtain ⟨w, hw, rfl⟩ := List.mem_map.mp hx
    exact ok.le w hw)
  rw [List.length_map] at h1
  have h2 := Nat.mul_le_mul_right 900 ok.few
  have h3 := ok.few
  omega
def spHLine (CH CS C CD : Addr) (e : HA) : Sp := fun vs H Q E => ∃ Y X A rs ow tx h ns ds line wl ws, vs = [.ref Y.h, .int line, .ref wl] ∧ HH CH CS C CD H Y X A rs ow tx h ns ds ∧ Hm9 h ∧ ns.length ≤ 100 ∧ ds.length ≤ 100 ∧ H wl = some (.lst (ws.map V.str)) ∧ WsOk ws ∧ LOk ws ∧ wl ∉ mutY Y X ∧
  (∀ h', rlH (tbs rs) h ws = .inr h' → ∀ H' ns' ds', Fr (mutY Y X) H H' → HH CH CS C CD H' Y X A rs ow tx h' ns' ds' → Q .non H') ∧ (∀ er, rlH (tbs rs) h ws = .inl er → Rz (mutY Y X) E (e.clsH er) (heFs line er) H)
abbrev sHLine : Stmt := inClass (top 38) 12
theorem scHLine : FnScope ["self", "line", "words"] ["self", "line", "words"] (defScope sHLine) := ⟨rfl, rfl, rfl, by decide +kernel, rfl, by decide +kernel, by decide +kernel⟩
structure THl (K : PySem.W.Frag) (mg : Str → Option Value) (CH : Addr) : Prop where
  g_Handler : mg "Handler" = some (.ref CH)
  n_len : mg "len" = none
  rd : ClX.CRead K CH (.type "type")
  c1 : ∃ u, ClX.CVal K CH (.type "type") "MOST_NEEDS" (.int 8) u
  c2 : ∃ u, ClX.CVal K CH (.type "type") "MOST_DEEDS" (.int 8) u
section
variable {P : Program} {w : World} {K : PySem.W.Frag} {mg : Str → Option Value} {base : Heap}
theorem ok_hline {CH CS C CD f fP fK fE fD : Addr} {fd fdP fdK fdE fdD : FuncData} {e : HA} (F : Fun K "_read_line" "Handler._read_line" sHLine f fd) (TC : TS2 K CS) (TH : TS4 K CH) (T : THl K mg CH) (eM : EX P w K mg base "TooMany" ["line"] e.CM)
    (M_Scope_read_parameter : Meth K CS "read_parameter" fP) (G_Scope_read_parameter : FnOk P w K mg base (L2.CX P w) 4 fP fdP ["self", "line", "words"] (spParX CS C e)) (b_Scope_read_parameter : Binds K fdP ["self", "line", "words"] [])
    (G_check_parameters : FnOk P w K mg base (L2.CX P w) 3 fK fdK ["line", "scope"] (spCkPar CS C e)) (m_check_parameters : mg "check_parameters" = some (.ref fK)) (k_check_parameters : PySem.W.keepIn K (.ref fK) = true) (b_check_parameters : Binds K fdK ["line", "scope"] [])
    (M_Scope_read_equation : Meth K CS "read_equation" fE) (G_Scope_read_equation : FnOk P w K mg base (L2.CX P w) 5 fE fdE ["self", "line", "words"] (spEqX CS C e)) (b_Scope_read_equation : Binds K fdE ["self", "line", "words"] [])
    (G_read_deed : FnOk P w K mg base (L2.CX P w) 7 fD fdD ["scope", "line", "words"] (spDeed CS C CD e pAny)) (m_read_deed : mg "read_deed" = some (.ref fD)) (k_read_deed : PySem.W.keepIn K (.ref fD) = true) (b_read_deed : Binds K fdD ["scope", "line", "words"] []) :
    FnOk P w K mg base (L2.CX P w) 8 f fd ["self", "line", "words"] (spHLine CH CS C CD e) := by
  refine F.okX scHLine (fun vs H Q E h => ?_) (fun cdv A' outer s H vs Q E hr h => ?_)
  · obtain ⟨Y, X, A, rs, ow, tx, h, ns, ds, line, wl, ws, rfl, _⟩ := h
    rfl
  · obtain ⟨Y, X, A, rs, ow, tx, h, ns, ds, line, wl, ws, rfl, S, hm, ln, ld, hwl, ok, lk, nw, k1, k2⟩ := h
    obtain ⟨fM, fdM, OX_TooMany, IX_TooMany, TY_TooMany, GX_TooMany, BX_TooMany, NX_TooMany⟩ := eM.ex
    have hrX : Room (1 + 1) _ := hr.mono (by decide)
    have hr_Scope_read_parameter : Room 4 _ := hr.mono (by decide)
    have hr_check_parameters : Room 3 _ := hr.mono (by decide)
    have hr_Scope_read_equation : Room 5 _ := hr.mono (by decide)
    have hr_read_deed : Room 7 _ := hr
    have hu := hu_of hr
    obtain ⟨u1, C1⟩ := T.c1
    obtain ⟨u2, C2⟩ := T.c2
    obtain ⟨sm, m1, m2, m3⟩ := hm
    refine ⟨_, (pss_one (ps_if (pt_cmpR op_eq (pe_ix (ixL K) (pv 2) pe_int (fun _ _ => rfl)) pe_str (nomark _))
      (pss_one (ps_fld (pv 0) (pe_ix (ixL K) (pv 2) pe_int (fun _ _ => rfl)) rfl))
      (pss_one (ps_if (pt_cmpR (inSeq K) (pe_ix (ixL K) (pv 2) pe_int (fun _ _ => rfl)) (pe_tup (pa_cons pe_str (pa_cons pe_str pa_nil))) (by rfl))
        (pss_cons (ps_expr (pe_meth (fldK K (pv 0)) TC.cl M_Scope_read_parameter G_Scope_read_parameter hr_Scope_read_parameter b_Scope_read_parameter .nil (passes_call (takes_of rfl rfl rfl rfl) (fun _ _ _ _ h => h)) (pa_cons (pv 1) (pa_cons (pv 2) pa_nil))))
        (pss_one (ps_expr (pe_call G_check_parameters hr_check_parameters rfl m_check_parameters k_check_parameters b_check_parameters .nil (passes_call (takes_of rfl rfl rfl rfl) (fun _ _ _ _ h => h)) (pa_cons (pv 1) (pa_cons (fldK K (pv 0)) pa_nil))))))
        (pss_one (ps_if (pt_cmpR op_eq (pe_ix (ixL K) (pv 2) pe_int (fun _ _ => rfl)) pe_str (nomark _))
          (pss_cons (ps_expr (bmK K PySem.F.plainAttrs_list PySem.F.slot_list_append PySem.F.type_list_append mt_append (fldK K (pv 0)) (pa_cons (pe_meth (fldK K (pv 0)) TC.cl M_Scope_read_equation G_Scope_read_equation hr_Scope_read_equation b_Scope_read_equation .nil (passes_call (takes_of rfl rfl rfl rfl) (fun _ _ _ _ h => h)) (pa_cons (pv 1) (pa_cons (pv 2) pa_nil))) pa_nil)))
          (pss_one (ps_if (pt_cmpR op_gt (pe_callB (lenSeq K) (by rfl) T.n_len (by decide +kernel) (pa_cons (fldK K (pv 0)) pa_nil)) (cvalK K (pe_cls rfl T.g_Handler)) (nomark _))
            (pss_one (ps_raise rfl (takes_of rfl rfl rfl rfl) (pmk_oex OX_TooMany IX_TooMany TY_TooMany GX_TooMany hrX BX_TooMany .nil pass0 rfl NX_TooMany (pa_cons (pv 1) pa_nil))))
            pss_nil)))
          (pss_cons (ps_expr (bmK K PySem.F.plainAttrs_list PySem.F.slot_list_append PySem.F.type_list_append mt_append (fldK K (pv 0)) (pa_cons (pe_call G_read_deed hr_read_deed rfl m_read_deed k_read_deed b_read_deed .nil (passes_call (takes_of rfl rfl rfl rfl) (fun _ _ _ _ h => h)) (pa_cons (fldK K (pv 0)) (pa_cons (pv 1) (pa_cons (pv 2) pa_nil)))) pa_nil)))
          (pss_cons (ps_expr (bmK K PySem.F.plainAttrs_list PySem.F.slot_list_append PySem.F.type_list_append mt_append (fldK K (pv 0)) (pa_cons (bmK K PySem.F.plainAttrs_str PySem.F.slot_str_join PySem.F.type_str_join (mtJoinK K) pe_str (pa_cons (pv 2) pa_nil)) pa_nil)))
          (pss_one (ps_if (pt_cmpR op_gt (pe_callB (lenSeq K) (by rfl) T.n_len (by decide +kernel) (pa_cons (fldK K (pv 0)) pa_nil)) (cvalK K (pe_cls rfl T.g_Handler)) (nomark _))
            (pss_one (ps_raise rfl (takes_of rfl rfl rfl rfl) (pmk_oex OX_TooMany IX_TooMany TY_TooMany GX_TooMany hrX BX_TooMany .nil pass0 rfl NX_TooMany (pa_cons (pv 1) pa_nil))))
            pss_nil)))))))))), ?_⟩
    have l2 := lk.l2
    have at_ : ∀ {H2 : Hp} {σ : L2.St} {i : Int} (k : Nat), i = (k : Int) → Ex H H2 → σ[2]? = some (some (.ref wl)) → k < ws.length → Ev (tOp (rIxL K) (tVar 2) (tC (.int i))) σ H2 (.str (ws.getD k "")) := fun {H2 σ i} k hi e2 h2 hk => ev_at k hi (ev_var h2) (SqL.of (e2 _ _ hwl)) hk
    have first : ∀ {H2 : Hp} (z : Str), Ex H H2 → EvT (tTest (tOp rEq (tOp (rIxL K) (tVar 2) (tC (.int 0))) (tC (.str z)))) (L2.start ["self", "line", "words"] [.ref Y.h, .int line, .ref wl]) H2 (decide (ws.getD 0 "" = z)) := fun {H2} z e2 =>
      et_test (ev_is (ev_op (at_ 0 rfl e2 rfl (by omega)) ev_c (rv_eq rfl)) (congrArg V.bl (str_beq _ _)))
    have gt : ∀ {te : TE} {H1 : Hp} {f : Str} {u : Value} {b m : Nat}, Ev te (L2.start ["self", "line", "words"] [.ref Y.h, .int line, .ref wl]) H1 (.int (b : Int)) → ClX.CVal K CH (.type "type") f (.int (m : Int)) u → EvT (tTest (tOp (rI0 fun i j => .bl (decide (i > j))) te (ClX.tCVal K (tC (.ref CH)) f))) (L2.start ["self", "line", "words"] [.ref Y.h, .int line, .ref wl]) H1 (decide (m < b)) := fun {te H1 f u b m} h c =>
      et_test (ev_is (ev_op h (ev_cval ev_c T.rd c) rv_I0) (congrArg V.bl (decide_eq_decide.mpr ⟨fun z => by omega, fun z => by omega⟩)))
    refine s_if (first "handler" (Ex.refl H)) (fun c H1 e1 => ?_) (fun c1 H1 e1 => ?_)
    · have c := of_decide_eq_true c
      have S1 := S.ex e1
      refine s_fldX TH.cl TH.n1 (by show 7 < 1000; decide) (at_ 1 rfl e1 rfl (by omega)) (ev_var rfl) S1.ins (fun H2 e2 => ?_)
      exact k1 { h with nm := ws.getD 1 "" } (by unfold rlH; rw [if_pos c]) _ ns ds ((Fr.of (e1.trans e2)).trans (Fr.upd (List.mem_cons_self ..))) ((S1.ex e2).name _)
    have c1 := of_decide_eq_false c1
    refine s_if (b := decide (ws.getD 0 "" = "row") || decide (ws.getD 0 "" = "value")) (et_test (ev_is (ev_inU (at_ 0 rfl e1 rfl (by omega)) (eu_tup (vs := [.str "row", .str "value"]) (ea_cons ev_c (ea_cons ev_c ea_nil)) (by show 2 ≤ 100000; decide)) rfl rfl) (by rw [inV_two]))) (fun c H2 e2 => ?_) (fun c2 H2 e2 => ?_)
    · have c : ws.getD 0 "" = "row" ∨ ws.getD 0 "" = "value" := by simpa using c
      have go : rlH (tbs rs) h ws = match rdPar (tbs rs) h.sc ws with
          | .inl e => .inl e
          | .inr s => if 3 < s.rows.length ∨ 4 < s.vals.length then .inl .many else .inr { h with sc := s } := by
        unfold rlH
        rw [if_neg c1, if_pos c]
        all_goals (cases rdPar (tbs rs) h.sc ws <;> rfl)
      have e02 := e1.trans e2
      have S2 := S.ex e02
      refine w_seq (w_drop (w_methX (ev_hSc TH S2 (ev_var rfl)) S2.hx (fun _ _ _ _ => rfl) (fun H3 e3 => w_cons (w_ev (ev_var rfl) fun H4 e4 => w_cons (w_ev (ev_var rfl) fun H5 e5 => w_nil ⟨X, A, rs, ow, h.sc, line, wl, ws, rfl, S2.hx.ex ((e3.trans e4).trans e5), sm, (((e02.trans e3).trans e4).trans e5) _ _ hwl, ok, l2, fun z => lk.row (c.resolve_right z), fun s' hs H6 fr S6 => ?_, fun er her => ((k2 er (by rw [go, her])).ex (((e02.trans e3).trans e4).trans e5)).less⟩)))))
      rw [hs] at go
      dsimp only at go
      have e05 := ((e02.trans e3).trans e4).trans e5
      have SS := (S.ex e05).scope fr S6
      have fr6 : Fr (mutY Y X) H H6 := (Fr.of e05).trans fr.xy
      dsimp only
      refine w_drop (w_call (w_cons (w_ev (ev_var rfl) fun H7 e7 => w_cons (w_ev (ev_hSc TH (SS.ex e7) (ev_var rfl)) fun H8 e8 => w_nil ⟨X, A, rs, ow, s', line, rfl, S6.ex (e7.trans e8), fun hb H9 e9 => ?_, fun hb => ?_⟩))))
      · exact k1 _ (by rw [go, if_neg hb]) H9 ns ds (fr6.trans (Fr.of ((e7.trans e8).trans e9))) (SS.ex ((e7.trans e8).trans e9))
      · exact ((Rz.after fr6 SS.alive (k2 .many (by rw [go, if_pos hb]))).ex (e7.trans e8)).less
    have c2' : ¬ (ws.getD 0 "" = "row" ∨ ws.getD 0 "" = "value") := by simpa using c2
    have e02 := e1.trans e2
    refine s_if (first "need" e02) (fun c H3 e3 => ?_) (fun c3 H3 e3 => ?_)
    · have c := of_decide_eq_true c
      have go : rlH (tbs rs) h ws = match rdEq (tbs rs) h.sc ws with
          | some e => .inl e
          | none => if 8 < h.needs.length + 1 then .inl .many else .inr { h with needs := h.needs ++ [(ws.getD 1 "", ws.getD 3 "")] } := by
        unfold rlH
        rw [if_neg c1, if_neg c2', if_pos c]
        all_goals (cases rdEq (tbs rs) h.sc ws <;> rfl)
      have e03 := e02.trans e3
      have S3 := S.ex e03
      refine w_seq (w_drop ((ev_hNd TH S3 (ev_var rfl)) H3 (Ex.refl H3) _ fun H4 e4 => ⟨Or.inl ⟨rfl, _, sq_of (e4 _ _ S3.hn)⟩, w_cons (w_methX (ev_hSc TH (S3.ex e4) (ev_var rfl)) (S3.ex e4).hx (fun _ _ _ _ => rfl) (fun H5 e5 => w_cons (w_ev (ev_var rfl) fun H6 e6 => w_cons (w_ev (ev_var rfl) fun H7 e7 => w_nil ⟨X, A, rs, ow, h.sc, line, wl, ws, rfl, (S3.ex e4).hx.ex ((e5.trans e6).trans e7), ((((e03.trans e4).trans e5).trans e6).trans e7) _ _ hwl, ok, lk.need c, fun hn p H8 hp e8 h8 => ?_, fun er her => ((k2 er (by rw [go, her])).ex ((((e03.trans e4).trans e5).trans e6).trans e7)).less⟩))))⟩))
      rw [hn] at go
      dsimp only at go
      have e38 := (((e4.trans e5).trans e6).trans e7).trans e8
      have e08 := e03.trans e38
      have S8 := S.ex e08
      refine w_nil ⟨Y.nd, _, _, rfl, rfl, S8.hn, sz_lt (by rw [List.length_map]; omega), ?_⟩
      have S9 := S8.need (a := p) (q := (ws.getD 1 "", ws.getD 3 "")) h8
      have q9 : ns.map V.ref ++ [V.ref p] = (ns ++ [p]).map V.ref := by rw [List.map_append]; rfl
      rw [q9]
      have fr9 : Fr (mutY Y X) H _ := (Fr.of e08).trans (Fr.upd (o := .lst ((ns ++ [p]).map V.ref)) (List.mem_cons_of_mem _ (List.mem_cons_self ..)))
      generalize upd H8 Y.nd _ = H9 at S9 fr9
      have lnn : (ns ++ [p]).length = h.needs.length + 1 := by rw [paired_len S9.pn, List.length_append]; rfl
      dsimp only
      refine s_when (gt (b := h.needs.length + 1) (m := 8) (ev_is (ev_lenA (ev_hNd TH S9 (ev_var rfl)) (.inl (SqL.of S9.hn))) (by rw [List.length_map, lnn])) C1) (fun b H10 e10 => ?_) (fun b H10 e10 => ?_)
      · exact rz_mk (fs := ["line"]) (vs := [.int line]) (ea_cons (ev_var rfl) ea_nil) rfl (by show 1 ≤ 1000; decide) (((Rz.after fr9 S9.alive (k2 .many (by rw [go, if_pos (of_decide_eq_true b)]))).ex e10))
      · exact k1 _ (by rw [go, if_neg (of_decide_eq_false b)]) H10 _ _ (fr9.trans (Fr.of e10)) (S9.ex e10)
    have c3 := of_decide_eq_false c3
    have go : rlH (tbs rs) h ws = match rdDeed (tbs rs) h.sc ws with
        | .inl e => .inl e
        | .inr (s, d) => if 8 < h.dd.length + 1 then .inl .many else .inr { h with sc := s, dl := h.dl ++ [Txt.join " " ws], dd := h.dd ++ [d] } := by
      unfold rlH
      rw [if_neg c1, if_neg c2', if_neg c3]
      all_goals (cases rdDeed (tbs rs) h.sc ws <;> rfl)
    have e03 := e02.trans e3
    have S3 := S.ex e03
    refine w_seq (w_drop ((ev_hDd TH S3 (ev_var rfl)) H3 (Ex.refl H3) _ fun H4 e4 => ⟨Or.inl ⟨rfl, _, sq_of (e4 _ _ S3.hd)⟩, w_cons (w_call (w_cons (w_ev (ev_hSc TH (S3.ex e4) (ev_var rfl)) fun H5 e5 => w_cons (w_ev (ev_var rfl) fun H6 e6 => w_cons (w_ev (ev_var rfl) fun H7 e7 => w_nil ⟨X, A, rs, ow, h.sc, line, wl, ws, rfl, (S3.ex e4).hx.ex ((e5.trans e6).trans e7), sm, ((((e03.trans e4).trans e5).trans e6).trans e7) _ _ hwl, ok, lk.d, trivial, fun s' d hsd a H8 ha fr S8 da => ?_, fun er her => ((k2 er (by rw [go, her])).ex ((((e03.trans e4).trans e5).trans e6).trans e7)).less⟩)))))⟩))
    rw [hsd] at go
    dsimp only at go
    have e07 := (((e03.trans e4).trans e5).trans e6).trans e7
    have SS := (S.ex e07).scope fr S8
    have fr8 : Fr (mutY Y X) H H8 := (Fr.of e07).trans fr.xy
    have na : a ≠ Y.h := fun z => by rw [z, (S.ex e07).ins] at ha; cases ha
    refine w_nil ⟨Y.dd, _, _, rfl, rfl, SS.hd, sz_lt (by rw [List.length_map]; omega), ?_⟩
    have S9 := SS.deed na da
    have q9 : ds.map V.ref ++ [V.ref a] = (ds ++ [a]).map V.ref := by rw [List.map_append]; rfl
    rw [q9]
    have fr9 : Fr (mutY Y X) H _ := fr8.trans (Fr.upd (o := .lst ((ds ++ [a]).map V.ref)) (List.mem_cons_of_mem _ (List.mem_cons_of_mem _ (List.mem_cons_of_mem _ (List.mem_cons_self ..)))))
    have wl9 : (upd H8 Y.dd (.lst ((ds ++ [a]).map V.ref))) wl = some (.lst (ws.map V.str)) := fr9 _ _ hwl nw
    generalize upd H8 Y.dd _ = H9 at S9 fr9 wl9
    dsimp only
    refine w_seq (s_app S9.hl (ev_hDl TH S9 (ev_var rfl)) (ev_joinA (K := K) (ys := ws) ev_c (ev_var rfl) (.inl (SqL.of wl9)) (ws_sum ok)) (by rw [List.length_map]; show h.dl.length < 100000; omega) (fun H10 e10 => ?_))
    have S11 := (S9.ex e10).dline (Txt.join " " ws)
    have q11 : h.dl.map V.str ++ [V.str (Txt.join " " ws)] = (h.dl ++ [Txt.join " " ws]).map V.str := by rw [List.map_append]; rfl
    have fr11 : Fr (mutY Y X) H _ := (fr9.trans (Fr.of e10)).trans (Fr.upd (o := .lst ((h.dl ++ [Txt.join " " ws]).map V.str)) (List.mem_cons_of_mem _ (List.mem_cons_of_mem _ (List.mem_cons_self ..))))
    dsimp only
    rw [q11]
    generalize upd H10 Y.dl _ = H11 at S11 fr11
    have ldd : (ds ++ [a]).length = h.dd.length + 1 := by rw [paired_len S11.pd, List.length_append]; rfl
    refine s_when (gt (b := h.dd.length + 1) (m := 8) (ev_is (ev_lenA (ev_hDd TH S11 (ev_var rfl)) (.inl (SqL.of S11.hd))) (by rw [List.length_map, ldd])) C2) (fun b H12 e12 => ?_) (fun b H12 e12 => ?_)
    · exact rz_mk (fs := ["line"]) (vs := [.int line]) (ea_cons (ev_var rfl) ea_nil) rfl (by show 1 ≤ 1000; decide) (((Rz.after fr11 S11.alive (k2 .many (by rw [go, if_pos (of_decide_eq_true b)]))).ex e12))
    · exact k1 _ (by rw [go, if_neg (of_decide_eq_false b)]) H12 _ _ (fr11.trans (Fr.of e12)) (S11.ex e12)
end
end My

namespace My
open PySem PySem.Spec PyProof.Rows L2 Evl
/-! ### a handler is read -/
def spInitX (CS : Addr) : Sp := fun vs H Q _ => ∃ (x dx a : Addr), vs = [.ref x, .ref a] ∧ H x = some (.ins CS dx []) ∧
  ∀ H' r n v, Fr [x] H H' → H r = none → H n = none → H v = none → r ≠ n → H' x = some (.ins CS dx [("schema", .ref a), ("_rows", .ref r), ("_new_rows", .ref n), ("_values", .ref v)]) → H' r = some (.dK []) → H' n = some (.dK []) → H' v = some (.lst []) → Q .non H'
abbrev sInitX : Stmt := inClass (top 35) 0
theorem scInitX : FnScope ["self", "schema"] ["self", "schema"] (defScope sInitX) := ⟨rfl, rfl, rfl, by decide +kernel, rfl, by decide +kernel, by decide +kernel⟩
theorem bxF {H H' : Hp} {x b : Addr} (f : Fr [x] H H') (n : b ≠ x) (h : H' b = none) : H b = none := by
  cases z : H b with
  | none => rfl
  | some u => rw [f b u z (by simpa using n)] at h; cases h
theorem s_fldL {K : PySem.W.Frag} {σ : L2.St} {H : Hp} {ta tv : TE} {D : Ends} {f : Str} {x C dx : Addr} {fs : List (Str × V)} {xs : List V} (cl : Cls K C) (no : NoAttr K C f) (few : fs.length < 1000) (hv : EvL tv σ H xs) (ho : Ev ta σ H (.ref x)) (hx : H x = some (.ins C dx fs)) (k : ∀ p H1, H p = none → Ex H H1 → H1 p = some (.lst xs) → D.nx σ (upd H1 x (.ins C dx (putF f (.ref p) fs)))) : sFld K ta tv f D σ H :=
  hv H (Ex.refl H) _ fun p H1 hp e1 h1 => ho H1 e1 _ fun H2 e2 => ⟨x, C, dx, fs, rfl, (e1.trans e2) _ _ hx, cl, no, few, k p H2 hp (e1.trans e2) (e2 _ _ h1)⟩
theorem w_fld {K : PySem.W.Frag} {σ : L2.St} {H : Hp} {ta tv : TE} {D : Ends} {f : Str} (h : tv σ H fun y H1 => ta σ H1 fun x H2 => ∃ a C dx fs, x = .ref a ∧ H2 a = some (.ins C dx fs) ∧ Cls K C ∧ NoAttr K C f ∧ fs.length < 1000 ∧ D.nx σ (upd H2 a (.ins C dx (putF f y fs)))) : sFld K ta tv f D σ H := h
theorem w_mkC {CC : Addr} {sp : Sp} {dvs : List V} {E : XK} {t : TA} {σ : L2.St} {H : Hp} {Q : VK} (h : t σ H fun vs H1 => ∀ a dx, H1 a = none → H1 dx = none → dx ≠ a → sp (.ref a :: (vs ++ dvs)) (upd (upd H1 dx (.own a)) a (.ins CC dx [])) (fun v H2 => v = .non ∧ Q (.ref a) H2) E) : tMake CC sp dvs E t σ H Q := h
theorem place_cond (p last : Int) (k : Nat) : (decide (p < last) || !decide (V.bl (decide (V.int p = V.int 0)) = V.bl (decide (V.int (1 + (k : Int)) = V.int 1)))) = decide (p < last ∨ decide (p = 0) ≠ decide (1 + k = 1)) := by
  have h1 : decide (V.int p = V.int 0) = decide (p = 0) := decide_eq_decide.mpr ⟨fun z => V.int.inj z, fun z => congrArg V.int z⟩
  have h2 : decide (V.int (1 + (k : Int)) = V.int 1) = decide (1 + k = 1) := decide_eq_decide.mpr ⟨fun z => by have := V.int.inj z; omega, fun z => congrArg V.int (by omega)⟩
  have h3 : ∀ a b : Bool, decide (V.bl a = V.bl b) = decide (a = b) := fun a b => decide_eq_decide.mpr ⟨fun z => V.bl.inj z, fun z => congrArg V.bl z⟩
  rw [h1, h2, h3, ← decide_not, ← Bool.decide_or]
/-- bounds of what is read -/
structure HmB (h : Hs) : Prop where
  r : h.sc.rows.length ≤ 3
  v : h.sc.vals.length ≤ 4
  n : h.sc.news.length ≤ h.dd.length
  ne : h.needs.length ≤ 8
  dl : h.dl.length = h.dd.length
  dd : h.dd.length ≤ 8
theorem rdPar_news {tb : List Tb} {s s' : Sc} {ws : List Str} (h : rdPar tb s ws = .inr s') : s'.news = s.news := by
  unfold rdPar at h
  split at h
  · cases h
  · split at h
    · cases h; rfl
    · split at h
      · cases h
      · cases h; rfl
theorem rdNew_sz {tb : List Tb} {s s' : Sc} {n t : Str} {u : Option Str} {ts : List Str} (h : rdNew tb s n t u ts = .inr s') : s'.rows = s.rows ∧ s'.vals = s.vals ∧ s'.news.length ≤ s.news.length + 1 := by
  unfold rdNew at h
  split at h
  · cases h
  · split at h
    · cases h
    · split at h
      · cases h
      · split at h
        · cases h
        · split at h
          · cases h
          · split at h
            · cases h
              exact ⟨rfl, rfl, by rw [List.length_append]; exact Nat.le_refl _⟩
            · cases h
theorem rdDeed_sz {tb : List Tb} {s s' : Sc} {d : Dd} {ws : List Str} (h : rdDeed tb s ws = .inr (s', d)) : s'.rows = s.rows ∧ s'.vals = s.vals ∧ s'.news.length ≤ s.news.length + 1 := by
  unfold rdDeed at h
  split at h
  · cases z : rdNew tb s (ws.getD 1 "") (ws.getD 3 "") (undOf ws) (tmsOf ws) with
    | inl e => rw [z] at h; cases h
    | inr s1 =>
      rw [z] at h
      cases h
      exact rdNew_sz z
  · split at h
    · cases z : rdMove tb s (ws.getD 1 "") (ws.getD 3 "") with
      | inl e => rw [z] at h; cases h
      | inr s1 => rw [z] at h; cases h; exact ⟨rfl, rfl, Nat.le_succ _⟩
    · split at h
      · cases z : rdSet tb s ((dotS (ws.getD 1 "")).getD 0 "") ((dotS (ws.getD 1 "")).getD 1 "") (ws.getD 3 "") with
        | inl e => rw [z] at h; cases h
        | inr s1 => rw [z] at h; cases h; exact ⟨rfl, rfl, Nat.le_succ _⟩
      · split at h
        · split at h
          · cases h
          · cases h; exact ⟨rfl, rfl, Nat.le_succ _⟩
        · split at h
          · cases h
          · cases h; exact ⟨rfl, rfl, Nat.le_succ _⟩
theorem rlH_bd {tb : List Tb} {h h' : Hs} {ws : List Str} (b : HmB h) (e : rlH tb h ws = .inr h') : HmB h' := by
  obtain ⟨b1, b2, b3, b4, b5, b6⟩ := b
  unfold rlH at e
  split at e
  · cases e; exact ⟨b1, b2, b3, b4, b5, b6⟩
  · split at e
    · split at e
      · cases e
      · rename_i s' hs
        split at e
        · cases e
        · rename_i hc
          cases e
          exact ⟨by show s'.rows.length ≤ 3; omega, by show s'.vals.length ≤ 4; omega, by show s'.news.length ≤ _; rw [rdPar_news hs]; exact b3, b4, b5, b6⟩
    · split at e
      · split at e
        · cases e
        · split at e
          · cases e
          · rename_i hc
            cases e
            exact ⟨b1, b2, b3, by rw [List.length_append]; show h.needs.length + 1 ≤ 8; omega, b5, b6⟩
      · split at e
        · cases e
        · rename_i s' d hs
          split at e
          · cases e
          · rename_i hc
            cases e
            obtain ⟨q1, q2, q3⟩ := rdDeed_sz hs
            exact ⟨by show s'.rows.length ≤ 3; rw [q1]; exact b1, by show s'.vals.length ≤ 4; rw [q2]; exact b2, by show s'.news.length ≤ _; rw [List.length_append]; show _ ≤ h.dd.length + 1; omega, b4, by rw [List.length_append, List.length_append, b5]; rfl, by rw [List.length_append]; show h.dd.length + 1 ≤ 8; omega⟩
theorem HmB.hm {h : Hs} (b : HmB h) : Hm9 h := by
  obtain ⟨b1, b2, b3, b4, b5, b6⟩ := b
  exact ⟨⟨by omega, by omega, by omega⟩, by omega, by omega, by omega⟩
structure TFm (K : PySem.W.Frag) (mg : Str → Option Value) (FA : Addr) : Prop where
  g_FORMS : mg "FORMS" = some (.ref FA)
  fs : ∃ fs : List (Addr × (Int × Str)), fs.map (·.2) = formsH ∧ ∀ H, SqT K H FA (fs.map fun f => V.ref f.1) ∧ ∀ f ∈ fs, SqT K H f.1 [.int f.2.1, .str f.2.2]
theorem forms_ok : ∀ f ∈ formsH, FmOk f.2 := by
  intro f hm
  simp only [formsH, List.mem_cons, List.not_mem_nil, or_false] at hm
  rcases hm with rfl | rfl | rfl | rfl | rfl | rfl | rfl | rfl | rfl | rfl
  · exact ⟨by decide +kernel, by rw [partsA]; decide⟩
  · exact ⟨by decide +kernel, by rw [partsB]; decide⟩
  · exact ⟨by decide +kernel, by rw [partsC]; decide⟩
  · exact ⟨by decide +kernel, by rw [partsD]; decide⟩
  · exact ⟨by decide +kernel, by rw [partsE]; decide⟩
  · exact ⟨by decide +kernel, by rw [partsF]; decide⟩
  · exact ⟨by decide +kernel, by rw [partsG]; decide⟩
  · exact ⟨by decide +kernel, by rw [partsH]; decide⟩
  · exact ⟨by decide +kernel, by rw [partsI]; decide⟩
  · exact ⟨by decide +kernel, by rw [partsJ]; decide⟩
def rdHT (tb : List Tb) (tx : Str) : (HE × Nat) ⊕ Hs := rdH tb 1 0 hs0 (linesOf tx)
def spInitH (CH CS C CD : Addr) (e : HA) : Sp := fun vs H Q E => ∃ (x dx : Addr) (A : Ad) (rs : List Row) (ow : List (Str × Str)) (tx : Str), vs = [.ref x, .ref A.a, .str tx] ∧ H x = some (.ins CH dx []) ∧ SA C H A rs ow ∧ WF (tbs rs) ∧ rs.length ≤ 900 ∧ A.a ≠ x ∧ TxOk tx ∧
  (∀ h, rdHT (tbs rs) tx = .inr h → ∀ H' Y X ns ds, Y.h = x → Fr [x] H H' → HH CH CS C CD H' Y X A rs ow tx h ns ds → HmB h → (∀ b ∈ mutY Y X, b ≠ x → H b = none) → Q .non H') ∧
  (∀ er k, rdHT (tbs rs) tx = .inl (er, k) → Rz [x] E (e.clsH er) (heFs (k : Int) er) H)
abbrev sInitH : Stmt := inClass (top 38) 4
theorem scInitH : FnScope ["self", "schema", "text", "last", "number", "line", "words", "place"] ["self", "schema", "text"] (defScope sInitH) := ⟨rfl, rfl, rfl, by decide +kernel, rfl, by decide +kernel, by decide +kernel⟩
structure TIh (mg : Str → Option Value) (CS FA : Addr) : Prop where
  g_Scope : mg "Scope" = some (.ref CS)
  g_FORMS : mg "FORMS" = some (.ref FA)
  n_enumerate : mg "enumerate" = none
section
variable {P : Program} {w : World} {K : PySem.W.Frag} {mg : Str → Option Value} {base : Heap}
theorem ok_initX {CS f : Addr} {fd : FuncData} (F : Fun K "__init__" "Scope.__init__" sInitX f fd) (TC : TS2 K CS) : FnOk P w K mg base CX0 1 f fd ["self", "schema"] (spInitX CS) := by
  refine F.ok scInitX (fun vs H Q E h => ?_) (fun cdv A' outer s H vs Q E hr h => ?_)
  · obtain ⟨x, dx, a, rfl, _⟩ := h
    rfl
  · obtain ⟨x, dx, a, rfl, hx, k⟩ := h
    have hu := hu_of hr
    refine ⟨_, (pss_cons (ps_fld (pv 0) (pv 1) rfl)
    (pss_cons (ps_fld (pv 0) pe_dnewK rfl)
    (pss_cons (ps_fld (pv 0) pe_dnewK rfl)
    (pss_one (ps_fld (pv 0) (pe_lst pa_nil) rfl))))), ?_⟩
    refine w_seq (s_fldX TC.cl TC.n1 (by decide) (ev_var rfl) (ev_var rfl) hx (fun H1 e1 => ?_))
    generalize hG1 : upd H1 x _ = G1
    have x1 : G1 x = some (.ins CS dx [("schema", .ref a)]) := by rw [← hG1]; exact upd_same
    have f1 : Fr [x] H G1 := by rw [← hG1]; exact upd_x (Fr.of e1)
    refine w_seq (s_fldN TC.cl TC.n2 (by show 1 < 1000; decide) (ev_var rfl) x1 (fun r H2 hr2 e2 h2 => ?_))
    have rx : r ≠ x := fun z => by rw [z, x1] at hr2; cases hr2
    generalize hG2 : upd H2 x _ = G2
    have x2 : G2 x = some (.ins CS dx [("schema", .ref a), ("_rows", .ref r)]) := by rw [← hG2]; exact upd_same
    have f2 : Fr [x] H G2 := by rw [← hG2]; exact upd_x (f1.trans (Fr.of e2))
    have r2 : G2 r = some (.dK []) := by rw [← hG2, upd_ne rx]; exact h2
    refine w_seq (s_fldN TC.cl TC.n3 (by show 2 < 1000; decide) (ev_var rfl) x2 (fun n H3 hn3 e3 h3 => ?_))
    have nx : n ≠ x := fun z => by rw [z, x2] at hn3; cases hn3
    have rn : r ≠ n := fun z => by rw [← z, r2] at hn3; cases hn3
    generalize hG3 : upd H3 x _ = G3
    have x3 : G3 x = some (.ins CS dx [("schema", .ref a), ("_rows", .ref r), ("_new_rows", .ref n)]) := by rw [← hG3]; exact upd_same
    have f3 : Fr [x] H G3 := by rw [← hG3]; exact upd_x (f2.trans (Fr.of e3))
    have r3 : G3 r = some (.dK []) := by rw [← hG3, upd_ne rx]; exact e3 _ _ r2
    have n3 : G3 n = some (.dK []) := by rw [← hG3, upd_ne nx]; exact h3
    refine s_fldL TC.cl TC.n4 (by show 3 < 1000; decide) (el_lst ea_nil (by decide)) (ev_var rfl) x3 (fun v H5 hv4 e5 h5 => ?_)
    have vx : v ≠ x := fun z => by rw [z, x3] at hv4; cases hv4
    refine k _ r n v (upd_x (f3.trans (Fr.of e5))) (bxF f1 rx hr2) (bxF f2 nx hn3) (bxF f3 vx hv4) rn upd_same ?_ ?_ ?_
    · rw [upd_ne rx]; exact e5 _ _ r3
    · rw [upd_ne nx]; exact e5 _ _ n3
    · rw [upd_ne vx]; exact h5
theorem ok_initH {CH CS C CD FA f fP fL fI : Addr} {fd fdP fdL fdI : FuncData} {e : HA} (F : Fun K "__init__" "Handler.__init__" sInitH f fd) (TC : TS4 K CH) (T : TIh mg CS FA) (TF : TFm K mg FA) (eB : EX P w K mg base "BadLine" ["line"] e.CB)
    (M_Scope : Mk K CS fI) (I_Scope : FnOk P w K mg base CX0 1 fI fdI ["self", "schema"] (spInitX CS)) (bI_Scope : Binds K fdI ["self", "schema"] [])
    (G_place_of : FnOk P w K mg base (L2.CX P w) 7 fP fdP ["line", "words", "forms"] (spPlace K e.toErA)) (m_place_of : mg "place_of" = some (.ref fP)) (k_place_of : PySem.W.keepIn K (.ref fP) = true) (b_place_of : Binds K fdP ["line", "words", "forms"] [])
    (M_Handler__read_line : Meth K CH "_read_line" fL) (G_Handler__read_line : FnOk P w K mg base (L2.CX P w) 8 fL fdL ["self", "line", "words"] (spHLine CH CS C CD e)) (b_Handler__read_line : Binds K fdL ["self", "line", "words"] []) :
    FnOk P w K mg base (L2.CX P w) 9 f fd ["self", "schema", "text"] (spInitH CH CS C CD e) := by
  refine F.okX scInitH (fun vs H Q E h => ?_) (fun cdv A' outer s H vs Q E hr h => ?_)
  · obtain ⟨x, dx, A, rs, ow, tx, rfl, _⟩ := h
    rfl
  · obtain ⟨x, dx, A, rs, ow, tx, rfl, hx, S, wf, few, nax, ok, k1, k2⟩ := h
    obtain ⟨fB, fdB, OX_BadLine, IX_BadLine, TY_BadLine, GX_BadLine, BX_BadLine, NX_BadLine⟩ := eB.ex
    have hrX : Room (1 + 1) _ := hr.mono (by decide)
    have hr_Scope : Room (1 + 1) _ := hr.mono (by decide)
    have hr_place_of : Room 7 _ := hr.mono (by decide)
    have hr_Handler__read_line : Room 8 _ := hr
    have hu := hu_of hr
    obtain ⟨fs, hfs, hsq⟩ := TF.fs
    refine ⟨_, (pss_cons (ps_fld (pv 0) pe_str rfl)
    (pss_cons (ps_fld (pv 0) (pv 2) rfl)
    (pss_cons (ps_fld (pv 0) (pv 1) rfl)
    (pss_cons (ps_fld (pv 0) (pe_make M_Scope I_Scope hr_Scope (by rfl) T.g_Scope bI_Scope .nil pass0 (pa_cons (pv 1) pa_nil)) rfl)
    (pss_cons (ps_fld (pv 0) (pe_lst pa_nil) rfl)
    (pss_cons (ps_fld (pv 0) (pe_lst pa_nil) rfl)
    (pss_cons (ps_fld (pv 0) (pe_lst pa_nil) rfl)
    (pss_cons (ps_set (i := 3) scInitH.nd rfl (Or.inl rfl) pe_int)
    (pss_one (ps_for (passes_of rfl) rfl (pi_enumC K rfl (by rfl) T.n_enumerate (bmK K PySem.F.plainAttrs_str PySem.F.slot_str_split PySem.F.type_str_split mt_split (pv 2) (pa_cons pe_str pa_nil)) (by decide) (by decide)) (pg_tup rfl (pgs_cons (pg_name (i := 4) scInitH.nd rfl (Or.inl rfl)) (pgs_cons (pg_name (i := 5) scInitH.nd rfl (Or.inl rfl)) pgs_nil)))
      (pss_cons (ps_set (i := 6) scInitH.nd rfl (Or.inl rfl) (bmK K PySem.F.plainAttrs_str PySem.F.slot_str_split PySem.F.type_str_split mt_split (pv 5) (pa_cons pe_str pa_nil)))
      (pss_cons (ps_set (i := 7) scInitH.nd rfl (Or.inl rfl) (pe_call G_place_of hr_place_of rfl m_place_of k_place_of b_place_of .nil (passes_call (takes_of rfl rfl rfl rfl) (fun _ _ _ _ h => h)) (pa_cons (pv 4) (pa_cons (pv 6) (pa_cons (pe_cls rfl T.g_FORMS) pa_nil)))))
      (pss_cons (ps_if (PW.pt (pw_or (pt_cmpR op_lt (pv 7) (pv 3) (nomark _)) (pw_or1 (pt_cmpR op_ne (pe_cmpR op_eq (pv 7) pe_int (nomark _)) (pe_cmpR op_eq (pv 4) pe_int (nomark _)) (nomark _)))))
        (pss_one (ps_raise rfl (takes_of rfl rfl rfl rfl) (pmk_oex OX_BadLine IX_BadLine TY_BadLine GX_BadLine hrX BX_BadLine .nil pass0 rfl NX_BadLine (pa_cons (pv 4) pa_nil))))
        pss_nil)
      (pss_cons (ps_set (i := 3) scInitH.nd rfl (Or.inl rfl) (pv 7))
      (pss_one (ps_expr (pe_meth (pv 0) TC.cl M_Handler__read_line G_Handler__read_line hr_Handler__read_line b_Handler__read_line .nil (passes_call (takes_of rfl rfl rfl rfl) (fun _ _ _ _ h => h)) (pa_cons (pv 4) (pa_cons (pv 6) pa_nil))))))))))))))))))), ?_⟩
    refine w_seq (s_fldX TC.cl TC.n1 (by decide) ev_c (ev_var rfl) hx (fun H1 e1 => ?_))
    generalize hG1 : upd H1 x _ = G1
    have x1 : G1 x = some (.ins CH dx [("name", .str "")]) := by rw [← hG1]; exact upd_same
    have f1 : Fr [x] H G1 := by rw [← hG1]; exact upd_x (Fr.of e1)
    dsimp only
    refine w_seq (s_fldX TC.cl TC.n2 (by show 1 < 1000; decide) (ev_var rfl) (ev_var rfl) x1 (fun H2 e2 => ?_))
    generalize hG2 : upd H2 x _ = G2
    have x2 : G2 x = some (.ins CH dx [("name", .str ""), ("text", .str tx)]) := by rw [← hG2]; exact upd_same
    have f2 : Fr [x] H G2 := by rw [← hG2]; exact upd_x (f1.trans (Fr.of e2))
    dsimp only
    refine w_seq (s_fldX TC.cl TC.n3 (by show 2 < 1000; decide) (ev_var rfl) (ev_var rfl) x2 (fun H3 e3 => ?_))
    generalize hG3 : upd H3 x _ = G3
    have x3 : G3 x = some (.ins CH dx [("name", .str ""), ("text", .str tx), ("schema", .ref A.a)]) := by rw [← hG3]; exact upd_same
    have f3 : Fr [x] H G3 := by rw [← hG3]; exact upd_x (f2.trans (Fr.of e3))
    dsimp only
    refine w_seq (w_fld (w_mkC (w_cons (w_ev (ev_var rfl) fun H4 e4 => w_nil (fun y dy hy hdy ne => ?_)))))
    have f4 : Fr [x] H H4 := f3.trans (Fr.of e4)
    have x4 := e4 _ _ x3
    have eN : Ex H4 (upd (upd H4 dy (.own y)) y (.ins CS dy [])) := (Ex.new hdy).trans (Ex.new (by rw [upd_ne ne.symm]; exact hy))
    have yx : y ≠ x := fun z => by rw [z, x4] at hy; cases hy
    refine ⟨y, dy, A.a, rfl, upd_same, fun H5 r n v fr hr0 hn0 hv0 rn y5 r5 n5 v5 => ⟨rfl, ?_⟩⟩
    have e45 : ∀ {b u}, H4 b = some u → H5 b = some u := fun {b u} hb => fr b u (eN _ _ hb) (fun z => by
      obtain rfl : b = y := by simpa using z
      rw [hb] at hy
      cases hy)
    have f5 : Fr [x] H H5 := f4.trans (fun b u hb _ => e45 hb)
    have x5 := e45 x4
    have low : ∀ {b}, b ≠ x → H4 b = none → H b = none := fun {b} nb hb => bxF f4 nb hb
    have fr4 : ∀ {b}, (upd (upd H4 dy (.own y)) y (.ins CS dy [])) b = none → H4 b = none := fun {b} hb => by
      cases z : H4 b with
      | none => rfl
      | some u => rw [eN _ _ z] at hb; cases hb
    have rx : r ≠ x := fun z => by rw [z, x5] at r5; cases r5
    have nx : n ≠ x := fun z => by rw [z, x5] at n5; cases n5
    have vx : v ≠ x := fun z => by rw [z, x5] at v5; cases v5
    have r0 := low rx (fr4 hr0)
    have n0 := low nx (fr4 hn0)
    have v0 := low vx (fr4 hv0)
    have y0 := low yx hy
    refine (ev_var rfl : Ev (tVar 0) (L2.start ["self", "schema", "text", "last", "number", "line", "words", "place"] [.ref x, .ref A.a, .str tx]) H5 (.ref x)) H5 (Ex.refl H5) _ (fun H6 e6 => ⟨x, CH, dx, _, rfl, e6 _ _ x5, TC.cl, TC.n4, by show 3 < 1000; decide, ?_⟩)
    generalize hG6 : upd H6 x _ = G6
    have x6 : G6 x = some (.ins CH dx [("name", .str ""), ("text", .str tx), ("schema", .ref A.a), ("_scope", .ref y)]) := by rw [← hG6]; exact upd_same
    have f6 : Fr [x] H G6 := by rw [← hG6]; exact upd_x (f5.trans (Fr.of e6))
    have st6 : ∀ {b u}, b ≠ x → H5 b = some u → G6 b = some u := fun {b u} nb hb => by rw [← hG6, upd_ne nb]; exact e6 _ _ hb
    dsimp only
    refine w_seq (s_fldL TC.cl TC.n5 (by show 4 < 1000; decide) (el_lst ea_nil (by decide)) (ev_var rfl) x6 (fun nd H7 hnd e7 h7 => ?_))
    have ndx : nd ≠ x := fun z => by rw [z, x6] at hnd; cases hnd
    generalize hG7 : upd H7 x _ = G7
    have x7 : G7 x = some (.ins CH dx [("name", .str ""), ("text", .str tx), ("schema", .ref A.a), ("_scope", .ref y), ("_needs", .ref nd)]) := by rw [← hG7]; exact upd_same
    have f7 : Fr [x] H G7 := by rw [← hG7]; exact upd_x (f6.trans (Fr.of e7))
    have st7 : ∀ {b u}, b ≠ x → G6 b = some u → G7 b = some u := fun {b u} nb hb => by rw [← hG7, upd_ne nb]; exact e7 _ _ hb
    have nd7 : G7 nd = some (.lst []) := by rw [← hG7, upd_ne ndx]; exact h7
    dsimp only
    refine w_seq (s_fldL TC.cl TC.n6 (by show 5 < 1000; decide) (el_lst ea_nil (by decide)) (ev_var rfl) x7 (fun dl H8 hdl e8 h8 => ?_))
    have dlx : dl ≠ x := fun z => by rw [z, x7] at hdl; cases hdl
    generalize hG8 : upd H8 x _ = G8
    have x8 : G8 x = some (.ins CH dx [("name", .str ""), ("text", .str tx), ("schema", .ref A.a), ("_scope", .ref y), ("_needs", .ref nd), ("_deed_lines", .ref dl)]) := by rw [← hG8]; exact upd_same
    have f8 : Fr [x] H G8 := by rw [← hG8]; exact upd_x (f7.trans (Fr.of e8))
    have st8 : ∀ {b u}, b ≠ x → G7 b = some u → G8 b = some u := fun {b u} nb hb => by rw [← hG8, upd_ne nb]; exact e8 _ _ hb
    have dl8 : G8 dl = some (.lst []) := by rw [← hG8, upd_ne dlx]; exact h8
    dsimp only
    refine w_seq (s_fldL TC.cl TC.n7 (by show 6 < 1000; decide) (el_lst ea_nil (by decide)) (ev_var rfl) x8 (fun dd H9 hdd e9 h9 => ?_))
    have ddx : dd ≠ x := fun z => by rw [z, x8] at hdd; cases hdd
    generalize hG9 : upd H9 x _ = G9
    have x9 : G9 x = some (.ins CH dx (hFs A ⟨y, dy, r, n, v⟩ ⟨x, dx, nd, dl, dd⟩ tx "")) := by rw [← hG9]; exact upd_same
    have f9 : Fr [x] H G9 := by rw [← hG9]; exact upd_x (f8.trans (Fr.of e9))
    have st9 : ∀ {b u}, b ≠ x → G8 b = some u → G9 b = some u := fun {b u} nb hb => by rw [← hG9, upd_ne nb]; exact e9 _ _ hb
    have dd9 : G9 dd = some (.lst []) := by rw [← hG9, upd_ne ddx]; exact h9
    have up : ∀ {b u}, b ≠ x → H5 b = some u → G9 b = some u := fun {b u} nb hb => st9 nb (st8 nb (st7 nb (st6 nb hb)))
    have nd0 := bxF f6 ndx hnd
    have dl0 := bxF f7 dlx hdl
    have dd0 := bxF f8 ddx hdd
    have offS : ∀ {b u}, H b = some u → ∀ {c}, H c = none → b ≠ c := fun {b u} hb {c} hc z => by rw [z, hc] at hb; cases hb
    have mS : ∀ {c}, H c = none → c ∉ mutS A rs := fun {c} hc z => by
      obtain ⟨u, hu⟩ := S.alive c z
      rw [hc] at hu
      cases hu
    have v7 : G6 v = some (.lst []) := st6 vx v5
    have S9 : SA C G9 A rs ow := by
      have q : ∀ b u, H b = some u → b ≠ x → G9 b = some u := fun b u hb nb => f9 b u hb (by simpa using nb)
      have ns : ∀ b, b ∈ mutS A rs → b ≠ x := fun b hb z => by
        subst z
        exact (S.off hx (fun _ z => nomatch z)) hb
      exact ⟨q _ _ S.ins nax, q _ _ S.hp (ns _ mut_p), q _ _ S.hc (ns _ mut_c), q _ _ S.ho (ns _ mut_o), q _ _ S.hf (ns _ mut_f), fun r hr => q _ _ (S.cs r hr) (ne_kind (S.cs r hr) hx (fun z => nomatch z)), fun r hr => q _ _ (S.fs r hr) (ns _ (mut_r hr)), S.ne⟩
    have HX9 : HX CS C G9 ⟨y, dy, r, n, v⟩ A rs ow ⟨[], [], []⟩ := by
      refine ⟨up yx y5, up rx r5, up nx n5, up vx v5, rn, S9, wf, few, fun b hb => ?_, (fun z hz => by cases hz), (fun z hz => by cases hz)⟩
      simp only [mutX, List.mem_cons, List.not_mem_nil, or_false] at hb
      rcases hb with rfl | rfl | rfl
      · exact ⟨mS r0, fun r hr => offS (S.cs r hr) r0⟩
      · exact ⟨mS n0, fun r hr => offS (S.cs r hr) n0⟩
      · exact ⟨mS v0, fun r hr => offS (S.cs r hr) v0⟩
    have n1 : v ≠ nd := fun z => by rw [← z, v7] at hnd; cases hnd
    have n2 : v ≠ dl := fun z => by rw [← z, st7 vx v7] at hdl; cases hdl
    have n3 : v ≠ dd := fun z => by rw [← z, st8 vx (st7 vx v7)] at hdd; cases hdd
    have n4 : nd ≠ dl := fun z => by rw [← z, nd7] at hdl; cases hdl
    have n5' : nd ≠ dd := fun z => by rw [← z, st8 ndx nd7] at hdd; cases hdd
    have n6 : dl ≠ dd := fun z => by rw [← z, dl8] at hdd; cases hdd
    have HH9 : HH CH CS C CD G9 ⟨x, dx, nd, dl, dd⟩ ⟨y, dy, r, n, v⟩ A rs ow tx hs0 [] [] :=
      ⟨x9, HX9, st9 ndx (st8 ndx nd7), .nil, st9 dlx dl8, dd9, .nil, ⟨yx, nax⟩, by simp [n1, n2, n3, n4, n5', n6], fun r hr => ⟨offS (S.cs r hr) nd0, offS (S.cs r hr) dl0, offS (S.cs r hr) dd0⟩⟩
    have new : ∀ b ∈ mutY ⟨x, dx, nd, dl, dd⟩ ⟨y, dy, r, n, v⟩, b ≠ x → H b = none := fun b hb nb => by
      simp only [mutY, mutX, List.mem_cons, List.not_mem_nil, or_false] at hb
      rcases hb with rfl | rfl | rfl | rfl | rfl | rfl | rfl
      · exact absurd rfl nb
      · exact nd0
      · exact dl0
      · exact dd0
      · exact r0
      · exact n0
      · exact v0
    clear up offS mS HX9 n1 n2 n3 n4 n5' n6 st6 st7 st8 st9 nd0 dl0 dd0 r0 n0 v0 y0 low fr4 e45
    generalize hY : (⟨x, dx, nd, dl, dd⟩ : YA) = Y at HH9 new
    generalize hX : (⟨y, dy, r, n, v⟩ : XA) = X at HH9 new
    have hYh : Y.h = x := by rw [← hY]
    have lenL : (linesOf tx).length = (Txt.split tx nl).length := List.length_map _
    dsimp only
    refine q_asg (v := .int 0) ev_c (fun H10 e10 => ?_)
    refine s_forEnC (xs := (Txt.split tx My.nl).map V.str) (c := 1) (el_split (ev_var rfl) ev_c rfl (by have := ok.le; omega))
      (fun q k σ' H' => ∃ h ns ds last v4 v5 v6 v7, σ' = [some (.ref x), some (.ref A.a), some (.str tx), some (.int last), v4, v5, v6, v7] ∧ Fr [x] H H' ∧ H' q = some (.lst ((Txt.split tx My.nl).map V.str)) ∧ q ∉ mutY Y X ∧ HH CH CS C CD H' Y X A rs ow tx h ns ds ∧ HmB h ∧ rdHT (tbs rs) tx = rdH (tbs rs) (1 + k) last h ((linesOf tx).drop k))
      (fun q H11 hq e11 h11 => ⟨hs0, [], [], 0, none, none, none, none, rfl, f9.trans (Fr.of (e10.trans e11)), h11, fun z => ?_, (HH9.ex e10).ex e11, ⟨Nat.zero_le _, Nat.zero_le _, Nat.le_refl _, Nat.zero_le _, rfl, Nat.zero_le _⟩, rfl⟩) (fun q k σ' H' _ pv => ?_) (fun q k z σ' H' H11 hz pv e11 => ?_) (fun q σ' H' pv => ?_)
    · obtain ⟨u, hu⟩ := (HH9.ex e10).alive q z
      rw [hq] at hu
      cases hu
    · obtain ⟨_, _, _, _, _, _, _, _, _, _, hq, _⟩ := pv
      exact SqL.of hq
    · obtain ⟨h, ns, ds, last, v4, v5, v6, v7, rfl, f, hq, nq, HHk, bd, hrd⟩ := pv
      have hk : k < (Txt.split tx My.nl).length := by
        have := (List.getElem?_eq_some_iff.mp hz).1
        simpa using this
      have hkL : k < (linesOf tx).length := by rw [lenL]; exact hk
      rw [List.getElem?_map, List.getElem?_eq_getElem hk] at hz
      obtain rfl : z = V.str (Txt.split tx My.nl)[k] := (Option.some.inj hz).symm
      have ll : (Txt.split tx My.nl)[k].length ≤ 800 := ok.ln _ (List.getElem_mem hk)
      have hdrop : (linesOf tx).drop k = Txt.split (Txt.split tx My.nl)[k] " " :: (linesOf tx).drop (k + 1) := by
        rw [List.drop_eq_getElem_cons hkL]
        congr 1
        simp [linesOf]
      rw [hdrop] at hrd
      generalize (Txt.split tx My.nl)[k] = lin at ll hrd
      have wok := split_ws ll
      generalize hws : Txt.split lin " " = ws at hrd wok
      have cast : ((1 + k : Nat) : Int) = 1 + (k : Int) := by omega
      have err : ∀ {er : HE} {H1 : Hp}, Fr [x] H H1 → (∃ u, H1 x = some u) → rdHT (tbs rs) tx = .inl (er, 1 + k) → Rz [x] E (e.clsH er) (heFs (1 + (k : Int)) er) H1 := fun {er H1} f1 al hh => by
        have q := k2 er (1 + k) hh
        rw [cast] at q
        exact Rz.after f1 (fun b hb => by obtain rfl : b = x := (by simpa using hb); exact al) q
      have x11 := HHk.ins
      rw [hYh] at x11
      unfold rdH at hrd
      dsimp only
      refine q_asgL (xs := ws.map V.str) (el_is (el_split (a := lin) (b := " ") (ev_var rfl) ev_c rfl (by omega)) (by rw [hws])) (fun wl H12 hwl e12 h12 => ?_)
      have e012 := e11.trans e12
      have HH12 := HHk.ex e012
      have x12 := e012 _ _ x11
      have nwl : wl ∉ mutY Y X := fun z => by
        obtain ⟨u, hu⟩ := (HHk.ex e11).alive wl z
        rw [hwl] at hu
        cases hu
      refine w_seq (w_asg (w_call (w_eva (ea_cons (ev_var rfl) (ea_cons (ev_var rfl) (ea_cons ev_c ea_nil))) (fun H13 e13 => ⟨1 + (k : Int), wl, FA, ws, fs, rfl, e13 _ _ h12, wok, (hsq H13).1, fun g hg => ⟨(hsq H13).2 g hg, forms_ok g.2 (hfs ▸ List.mem_map_of_mem hg)⟩, by have := congrArg List.length hfs; rw [List.length_map] at this; rw [this]; decide, fun p hp H14 e14 => ?_, fun hp => ?_⟩))))
      rotate_left
      · rw [hfs] at hp
        rw [hp] at hrd
        exact (err (f.trans (Fr.of (e012.trans e13))) ⟨_, (e012.trans e13) _ _ x11⟩ (er := .bad) hrd).less
      rw [hfs] at hp
      rw [hp] at hrd
      dsimp only at hrd
      have e014 := (e012.trans e13).trans e14
      dsimp only
      refine q_when (b := decide (p < last) || !decide (V.bl (decide (V.int p = V.int 0)) = V.bl (decide (V.int (1 + (k : Int)) = V.int 1)))) (et_or (et_test (ev_op (ev_var rfl) (ev_var rfl) rv_I0)) (fun _ => et_test (ev_op (ev_op (ev_var rfl) ev_c (rv_eq rfl)) (ev_op (ev_var rfl) ev_c (rv_eq rfl)) (rv_ne rfl)))) (fun b H15 e15 => ?_) (fun b H15 e15 => ?_)
      · refine rz_mk (fs := ["line"]) (vs := [.int (1 + (k : Int))]) (ea_cons (ev_var rfl) ea_nil) rfl (by show 1 ≤ 1000; decide) ((err (f.trans (Fr.of (e014.trans e15))) ⟨_, (e014.trans e15) _ _ x11⟩ (er := .bad) ?_).less)
        rw [place_cond] at b
        rw [hrd, if_pos (of_decide_eq_true b)]
      have cond : ¬ (p < last ∨ decide (p = 0) ≠ decide (1 + k = 1)) := by
        rw [place_cond] at b
        exact of_decide_eq_false b
      rw [if_neg cond] at hrd
      have e015 := e014.trans e15
      refine q_asg (ev_var rfl) (fun H16 e16 => ?_)
      have e016 := e015.trans e16
      have HH16 := HHk.ex e016
      have w16 : H16 wl = some (.lst (ws.map V.str)) := (((e13.trans e14).trans e15).trans e16) _ _ h12
      refine w_drop (w_methH (Y := Y) (by rw [hYh]; exact ev_var rfl) HH16 (fun _ _ _ _ _ _ _ => rfl) (fun H17 e17 => w_cons (w_ev (ev_var rfl) fun H18 e18 => w_cons (w_ev (ev_var rfl) fun H19 e19 => w_nil ?_))))
      have e1619 := (e17.trans e18).trans e19
      have e019 := e016.trans e1619
      have HH19 := HHk.ex e019
      refine ⟨Y, X, A, rs, ow, tx, h, ns, ds, 1 + (k : Int), wl, ws, by rw [hYh]; rfl, HH19, bd.hm, by rw [paired_len HH19.pn]; have := bd.ne; omega, by rw [paired_len HH19.pd]; have := bd.dd; omega, e1619 _ _ w16, wok, lok_of hp, nwl, fun h' hh' H20 ns' ds' fr HH20 => ?_, fun er her => ?_⟩
      · rw [hh'] at hrd
        dsimp only at hrd
        refine ⟨h', ns', ds', p, _, _, _, _, rfl, ?_, fr _ _ (e019 _ _ hq) nq, nq, HH20, rlH_bd bd hh', by rw [hrd, Nat.add_assoc]⟩
        intro b u hb nb
        refine fr b u (f.trans (Fr.of e019) b u hb nb) (fun z => ?_)
        rw [new b z (by simpa using nb)] at hb
        cases hb
      · rw [her] at hrd
        dsimp only at hrd
        intro d l H' hd fr hl hq'
        have q := k2 er (1 + k) hrd
        rw [cast] at q
        refine q d l H' (fr_back (f.trans (Fr.of e019)) (fun b hb => by obtain rfl : b = x := (by simpa using hb); exact ⟨_, e019 _ _ x11⟩) hd) (fun b u hb nb => fr b u (f.trans (Fr.of e019) b u hb nb) (fun z => ?_)) hl hq'
        rw [new b z (by simpa using nb)] at hb
        cases hb
    · obtain ⟨h, ns, ds, last, v4, v5, v6, v7, rfl, f, hq, nq, HHk, bd, hrd⟩ := pv
      rw [List.length_map, ← lenL, List.drop_length] at hrd
      exact k1 h hrd H' Y X ns ds hYh f HHk bd new
end
end My

namespace My
open PySem PySem.Spec PyProof.Rows L2 Evl
/-! ### Handler.read, and what a law is told of it -/
def spHRead (CH CS C CD : Addr) (e : HA) : Sp := fun vs H Q E => ∃ (A : Ad) (rs : List Row) (ow : List (Str × Str)) (tx : Str), vs = [.ref A.a, .str tx] ∧ SA C H A rs ow ∧ WF (tbs rs) ∧ rs.length ≤ 900 ∧ TxOk tx ∧
  (∀ h, rdHT (tbs rs) tx = .inr h → ∀ H' Y X ns ds, Ex H H' → H Y.h = none → HH CH CS C CD H' Y X A rs ow tx h ns ds → HmB h → (∀ b ∈ mutY Y X, H b = none) → Q (.ref Y.h) H') ∧
  (∀ er k, rdHT (tbs rs) tx = .inl (er, k) → Rz [] E (e.clsH er) (heFs (k : Int) er) H)
abbrev sHRead : Stmt := inClass (top 38) 5
theorem scHRead : FnScope ["schema", "text"] ["schema", "text"] (defScope sHRead) := ⟨rfl, rfl, rfl, by decide +kernel, rfl, by decide +kernel, by decide +kernel⟩
structure THr (mg : Str → Option Value) (CH : Addr) : Prop where
  g_Handler : mg "Handler" = some (.ref CH)
section
variable {P : Program} {w : World} {K : PySem.W.Frag} {mg : Str → Option Value} {base : Heap}
theorem ok_hread {CH CS C CD f fN : Addr} {fd fdN : FuncData} {e : HA} (F : Fun K "read" "Handler.read" sHRead f fd) (T : THr mg CH)
    (M_Handler : Mk K CH fN) (I_Handler : FnOk P w K mg base (L2.CX P w) 9 fN fdN ["self", "schema", "text"] (spInitH CH CS C CD e)) (bI_Handler : Binds K fdN ["self", "schema", "text"] []) :
    FnOk P w K mg base (L2.CX P w) 11 f fd ["schema", "text"] (spHRead CH CS C CD e) := by
  refine F.okX scHRead (fun vs H Q E h => ?_) (fun cdv A' outer s H vs Q E hr h => ?_)
  · obtain ⟨A, rs, ow, tx, rfl, _⟩ := h
    rfl
  · obtain ⟨A, rs, ow, tx, rfl, S, wf, few, ok, k1, k2⟩ := h
    have hr_Handler : Room (9 + 1) _ := hr
    refine ⟨_, (pss_one (ps_ret (pe_make M_Handler I_Handler hr_Handler (by rfl) T.g_Handler bI_Handler .nil (passes_call (takes_of rfl rfl rfl rfl) (fun _ _ _ _ h => h)) (pa_cons (pv 0) (pa_cons (pv 1) pa_nil))))), ?_⟩
    refine w_ret (w_cons (w_ev (ev_var rfl) fun H0 e0 => w_cons (w_ev (ev_var rfl) fun H1 e1 => w_nil (fun x dx hx hdx ne => ?_))))
    have e01 := e0.trans e1
    have eN : Ex H1 (upd (upd H1 dx (.own x)) x (.ins CH dx [])) := (Ex.new hdx).trans (Ex.new (by rw [upd_ne ne.symm]; exact hx))
    have back : ∀ {H' : Hp}, Fr [x] (upd (upd H1 dx (.own x)) x (.ins CH dx [])) H' → Ex H H' := fun {H'} f b u hb => f b u (eN _ _ (e01 _ _ hb)) (fun z => by
      obtain rfl : b = x := by simpa using z
      rw [e01 _ _ hb] at hx
      cases hx)
    have nax : A.a ≠ x := fun z => by rw [← z, e01 _ _ S.ins] at hx; cases hx
    refine ⟨x, dx, A, rs, ow, tx, rfl, upd_same, S.ex (e01.trans eN), wf, few, nax, ok, fun h hh H' Y X ns ds ey f HHf bd new => ⟨rfl, ?_⟩, fun er k h => ?_⟩
    · have hx0 := fresh_back e01 hx
      have q := k1 h hh H' Y X ns ds (back f) (by rw [ey]; exact hx0) HHf bd (fun b hb => ?_)
      · rw [ey] at q
        exact q
      · by_cases z : b = x
        · rw [z]; exact hx0
        · exact fresh_back (e01.trans eN) (new b hb z)
    · intro d l H' hd f hl hq
      refine k2 er k h d l H' (fresh_back (e01.trans eN) hd) (Fr.of (back f)) hl hq
end
/-! the law's words for an error -/
def heWord : HE → Str
  | .bad => "BadLine"
  | .dup _ => "DuplicateName"
  | .unk _ => "UnknownName"
  | .tab _ => "WrongTable"
  | .cnt => "WrongCount"
  | .many => "TooMany"
def heTup (line : Int) : HE → List V
  | .bad => [.str "BadLine", .int line]
  | .dup n => [.str "DuplicateName", .int line, .str n]
  | .unk n => [.str "UnknownName", .int line, .str n]
  | .tab n => [.str "WrongTable", .int line, .str n]
  | .cnt => [.str "WrongCount", .int line]
  | .many => [.str "TooMany", .int line]
def spNamedH (e : HA) : SpE := fun a C d vs H Q _ => ∃ (er : HE) (line : Int) (l : List (Str × V)), vs = [.ref a, .str (heWord er)] ∧ C = e.clsH er ∧ H d = some (.xd l) ∧ (∀ q ∈ heFs line er, l.lookup q.1 = some q.2) ∧
  ∀ p H', H p = none → Ex H H' → H' p = some (.tup (heTup line er)) → Q (.ref p) H'
theorem he_line {line : Int} {er : HE} : (("line" : Str), V.int line) ∈ heFs line er := by cases er <;> exact List.mem_cons_self ..
theorem he_name {line : Int} {er : HE} {n : Str} (h : er = .dup n ∨ er = .unk n ∨ er = .tab n) : (("name" : Str), V.str n) ∈ heFs line er := by rcases h with rfl | rfl | rfl <;> exact List.mem_cons_of_mem _ (List.mem_cons_self ..)
section
variable {P : Program} {w : World} {K : PySem.W.Frag} {mg : Str → Option Value} {base : Heap}
theorem ok_namedH {f AE : Addr} {fd : FuncData} {e : HA} (F : Fun K "_law_get_named" "_law_get_named" sNamed f fd) (T : TNm mg AE) (TX : TXm mg AE) (ok : ∀ er, ErOk K AE (e.clsH er)) :
    FnE P w K mg base 2 f fd ["error", "word"] (spNamedH e) := by
  refine My.Fun.okE F scNamed (fun a C d vs H Q E h => ?_) (fun cdv A outer s H vs Q E a oe C d hr hz hf h => ?_)
  · obtain ⟨er, line, l, rfl, _⟩ := h
    rfl
  · obtain ⟨er, line, l, rfl, rfl, hd, hl, k⟩ := h
    have okE := ok er
    have XF := okE.xf
    have NO_line := okE.nl
    have NO_name := okE.nn
    have hp : ∀ {X : Cx}, X.pn = [(a, oe)] → (a, oe) ∈ X.pn := fun h => by rw [h]; exact List.mem_cons_self ..
    have hp := hp (X := cxE P w K mg base ["error", "word"] "_law_get_named" (defScope sNamed) f cdv A outer s H E (a, oe)) rfl
    refine ⟨_, (pss_cons (ps_if (PW.pt (pw_or (pt_not (pt_val (pe_callB (call_isEP hp hz hf) (by rfl) T.n_isinstance (by decide +kernel) (pa_cons (pv 0) (pa_cons (pe_cls rfl TX.g_AgreeError) pa_nil))))) (pw_or (pt_not (pt_val (pe_callB (isiK K) (by rfl) T.n_isinstance (by decide +kernel) (pa_cons (pe_xfP XF NO_line hp hz hf (pv 0)) (pa_cons (pe_ty (n := "int") (by rfl) T.n_int (by decide +kernel)) pa_nil))))) (pw_or1 (pt_val (pe_callB (isiK K) (by rfl) T.n_isinstance (by decide +kernel) (pa_cons (pe_xfP XF NO_line hp hz hf (pv 0)) (pa_cons (pe_ty (n := "bool") (by rfl) T.n_bool (by decide +kernel)) pa_nil))))))))
      (pss_one (ps_ret (pe_tup (pa_cons (pv 1) (pa_cons pe_str pa_nil)))))
      pss_nil)
    (pss_cons (ps_if (pt_cmpR (inSeq K) (pv 1) (pe_tup (pa_cons pe_str (pa_cons pe_str (pa_cons pe_str pa_nil)))) (by rfl))
      (pss_one (ps_ret (pe_tup (pa_cons (pv 1) (pa_cons (pe_xfP XF NO_line hp hz hf (pv 0)) pa_nil)))))
      pss_nil)
    (pss_one (ps_ret (pe_tup (pa_cons (pv 1) (pa_cons (pe_xfP XF NO_line hp hz hf (pv 0)) (pa_cons (pe_xfP XF NO_name hp hz hf (pv 0)) pa_nil)))))))), ?_⟩
    have l1 := hl _ he_line
    refine q_when (b := false) (et_or (a := false) (et_not (a := true) (et_B (ev_isE2 (ev_var rfl) okE.xc hd (.own AE) okE.kA))) (fun _ => et_or (a := false) (et_not (a := true) (et_B (ev_isT (T := "int") (ev_xf2 (ev_var rfl) hd l1) (fun H'' e'' => .base (.int line)) (by rfl)))) (fun _ => et_B (ev_isT (T := "int") (ev_xf2 (ev_var rfl) hd l1) (fun H'' e'' => .base (.int line)) (by rfl))))) (fun hb => absurd hb (by decide)) (fun _ H1 e1 => ?_)
    have hd1 := e1 _ _ hd
    have three : EvU (tTup (tCons (tC (.str "BadLine")) (tCons (tC (.str "WrongCount")) (tCons (tC (.str "TooMany")) tNil)))) (L2.start ["error", "word"] [.ref a, .str (heWord er)]) H1 [.str "BadLine", .str "WrongCount", .str "TooMany"] := eu_tup (ea_cons ev_c (ea_cons ev_c (ea_cons ev_c ea_nil))) (by show 3 ≤ 100000; decide)
    have two : ∀ {H2 : Hp}, Ex H1 H2 → EvU (tTup (tCons (tVar 1) (tCons (tXf a (.ref (e.clsH er)) (some d) (e.clsH er) "line" (tVar 0)) tNil))) (L2.start ["error", "word"] [.ref a, .str (heWord er)]) H2 [.str (heWord er), .int line] := fun {H2} e2 => eu_tup (ea_cons (ev_var rfl) (ea_cons (ev_xf2 (ev_var rfl) (e2 _ _ hd1) l1) ea_nil)) (by show 2 ≤ 100000; decide)
    have thr : ∀ {H2 : Hp} {n : Str}, Ex H1 H2 → l.lookup ("name" : Str) = some (V.str n) → EvU (tTup (tCons (tVar 1) (tCons (tXf a (.ref (e.clsH er)) (some d) (e.clsH er) "line" (tVar 0)) (tCons (tXf a (.ref (e.clsH er)) (some d) (e.clsH er) "name" (tVar 0)) tNil)))) (L2.start ["error", "word"] [.ref a, .str (heWord er)]) H2 [.str (heWord er), .int line, .str n] := fun {H2 n} e2 hn => eu_tup (ea_cons (ev_var rfl) (ea_cons (ev_xf2 (ev_var rfl) (e2 _ _ hd1) l1) (ea_cons (ev_xf2 (ev_var rfl) (e2 _ _ hd1) hn) ea_nil))) (by show 3 ≤ 100000; decide)
    refine q_when (b := inV (.str (heWord er)) [.str "BadLine", .str "WrongCount", .str "TooMany"]) (et_test (ev_inU (ev_var rfl) three rfl rfl)) (fun hb H2 e2 => ?_) (fun hb H2 e2 => ?_)
    · refine s_retU (two e2) (fun p H3 hp3 e3 h3 => k p H3 (fresh_back (e1.trans e2) hp3) ((e1.trans e2).trans e3) ?_)
      cases er with
      | bad => exact h3
      | many => exact h3
      | cnt => exact h3
      | dup n => exact absurd hb ((by decide +kernel : ¬ inV (V.str "DuplicateName") [.str "BadLine", .str "WrongCount", .str "TooMany"] = true))
      | unk n => exact absurd hb ((by decide +kernel : ¬ inV (V.str "UnknownName") [.str "BadLine", .str "WrongCount", .str "TooMany"] = true))
      | tab n => exact absurd hb ((by decide +kernel : ¬ inV (V.str "WrongTable") [.str "BadLine", .str "WrongCount", .str "TooMany"] = true))
    · have go : ∀ n, er = .dup n ∨ er = .unk n ∨ er = .tab n → _ := fun n hn => thr e2 (hl ("name", .str n) (he_name hn))
      cases er with
      | bad => exact absurd hb (by decide +kernel)
      | many => exact absurd hb (by decide +kernel)
      | cnt => exact absurd hb (by decide +kernel)
      | dup n => exact s_retU (go n (.inl rfl)) (fun p H3 hp3 e3 h3 => k p H3 (fresh_back (e1.trans e2) hp3) ((e1.trans e2).trans e3) h3)
      | unk n => exact s_retU (go n (.inr (.inl rfl))) (fun p H3 hp3 e3 h3 => k p H3 (fresh_back (e1.trans e2) hp3) ((e1.trans e2).trans e3) h3)
      | tab n => exact s_retU (go n (.inr (.inr rfl))) (fun p H3 hp3 e3 h3 => k p H3 (fresh_back (e1.trans e2) hp3) ((e1.trans e2).trans e3) h3)
/-- the law's reading of a handler, and what it is told -/
def spHTold (C : Addr) : Sp := fun vs H Q _ => ∃ (A : Ad) (rs : List Row) (ow : List (Str × Str)) (tx : Str), vs = [.ref A.a, .str tx] ∧ SA C H A rs ow ∧ WF (tbs rs) ∧ rs.length ≤ 900 ∧ TxOk tx ∧ (∀ h, rdHT (tbs rs) tx = .inr h → ∀ H', Ex H H' → Q .non H') ∧
  (∀ er (k : Nat), rdHT (tbs rs) tx = .inl (er, k) → ∀ p H', H p = none → Ex H H' → H' p = some (.tup (heTup (k : Int) er)) → Q (.ref p) H')
abbrev sHTold : Stmt := top 48
theorem scHTold : FnScope ["schema", "text", "e"] ["schema", "text"] (defScope sHTold) := ⟨rfl, rfl, rfl, by decide +kernel, rfl, by decide +kernel, by decide +kernel⟩
structure THt (mg : Str → Option Value) (CH : Addr) (e : HA) : Prop where
  g_Handler : mg "Handler" = some (.ref CH)
  g_BadLine : mg "BadLine" = some (.ref e.CB)
  g_DuplicateName : mg "DuplicateName" = some (.ref e.CD)
  g_UnknownName : mg "UnknownName" = some (.ref e.CU)
  g_WrongTable : mg "WrongTable" = some (.ref e.CT)
  g_WrongCount : mg "WrongCount" = some (.ref e.CW)
  g_TooMany : mg "TooMany" = some (.ref e.CM)
structure HEX (K : PySem.W.Frag) (e : HA) : Prop where
  yes : ∀ er er', e.clsH er = e.clsH er' → PySem.W.exmOne K (.ref (e.clsH er)) (.ref (e.clsH er')) = some true
  no : ∀ er er', e.clsH er ≠ e.clsH er' → PySem.W.exmOne K (.ref (e.clsH er)) (.ref (e.clsH er')) = some false
  ap : [e.CB, e.CD, e.CU, e.CT, e.CW, e.CM].Nodup
theorem ok_htold {CH CS C CD f fN fR p : Addr} {fd fdN fdR : FuncData} {e : HA} (F : Fun K "_law_handler_told" "_law_handler_told" sHTold f fd) (T : THt mg CH e) (x : HEX K e)
    (G__law_get_named : FnE P w K mg base 2 fN fdN ["error", "word"] (spNamedH e)) (m__law_get_named : mg "_law_get_named" = some (.ref fN)) (k__law_get_named : PySem.W.keepIn K (.ref fN) = true) (b__law_get_named : Binds K fdN ["error", "word"] [])
    (CR_Handler : ClX.CRead K CH (.type "type")) (SM_Handler_read : SMet K CH (.type "type") "read" p fR) (G_Handler_read : FnOk P w K mg base (L2.CX P w) 11 fR fdR ["schema", "text"] (spHRead CH CS C CD e)) (b_Handler_read : Binds K fdR ["schema", "text"] []) :
    FnOk P w K mg base CX0 12 f fd ["schema", "text"] (spHTold C) := by
  refine F.ok scHTold (fun vs H Q E h => ?_) (fun cdv A0 outer s H vs Q E hr h => ?_)
  · obtain ⟨A, rs, ow, tx, rfl, _⟩ := h
    rfl
  · obtain ⟨A, rs, ow, tx, rfl, S, wf, few, ok, k1, k2⟩ := h
    have hr_Handler_read : Room 11 _ := hr
    have hr__law_get_named : Room 2 _ := hr.mono (by decide)
    have TX := T
    refine ⟨_, (pss_cons (ps_try_asM (Wout := fun _ _ _ _ => False) rfl rfl scHTold.nd takes0
      (fun W pn xe tk _ => (pss_one (ps_expr (pe_smethS (pe_cls rfl T.g_Handler) CR_Handler SM_Handler_read G_Handler_read hr_Handler_read b_Handler_read (fun σ => passAt tk σ) (pa_cons (pv 0) (pa_cons (pv 1) pa_nil))))))
      (HdsAs.cons (i := 2) rfl rfl ⟨rfl, by decide, .inl TX.g_BadLine⟩ (fun a oe cls d pn hz hf => (pss_one (ps_ret (pe_callE G__law_get_named hr__law_get_named rfl m__law_get_named k__law_get_named b__law_get_named hz hf (pa_cons (pv 2) (pa_cons pe_str pa_nil))))))
      (HdsAs.cons (i := 2) rfl rfl ⟨rfl, by decide, .inl TX.g_DuplicateName⟩ (fun a oe cls d pn hz hf => (pss_one (ps_ret (pe_callE G__law_get_named hr__law_get_named rfl m__law_get_named k__law_get_named b__law_get_named hz hf (pa_cons (pv 2) (pa_cons pe_str pa_nil))))))
      (HdsAs.cons (i := 2) rfl rfl ⟨rfl, by decide, .inl TX.g_UnknownName⟩ (fun a oe cls d pn hz hf => (pss_one (ps_ret (pe_callE G__law_get_named hr__law_get_named rfl m__law_get_named k__law_get_named b__law_get_named hz hf (pa_cons (pv 2) (pa_cons pe_str pa_nil))))))
      (HdsAs.cons (i := 2) rfl rfl ⟨rfl, by decide, .inl TX.g_WrongTable⟩ (fun a oe cls d pn hz hf => (pss_one (ps_ret (pe_callE G__law_get_named hr__law_get_named rfl m__law_get_named k__law_get_named b__law_get_named hz hf (pa_cons (pv 2) (pa_cons pe_str pa_nil))))))
      (HdsAs.cons (i := 2) rfl rfl ⟨rfl, by decide, .inl TX.g_WrongCount⟩ (fun a oe cls d pn hz hf => (pss_one (ps_ret (pe_callE G__law_get_named hr__law_get_named rfl m__law_get_named k__law_get_named b__law_get_named hz hf (pa_cons (pv 2) (pa_cons pe_str pa_nil))))))
      (HdsAs.cons (i := 2) rfl rfl ⟨rfl, by decide, .inl TX.g_TooMany⟩ (fun a oe cls d pn hz hf => (pss_one (ps_ret (pe_callE G__law_get_named hr__law_get_named rfl m__law_get_named k__law_get_named b__law_get_named hz hf (pa_cons (pv 2) (pa_cons pe_str pa_nil))))))
      HdsAs.nil)))))))
    (pss_one (ps_ret pe_non))), ?_⟩
    refine w_seq (w_drop (w_smS (w_cons (w_ev (ev_var rfl) fun H1 e1 => w_cons (w_ev (ev_var rfl) fun H2 e2 => w_nil ?_)))))
    have e02 := e1.trans e2
    refine ⟨A, rs, ow, tx, rfl, S.ex e02, wf, few, ok, fun h hh H' Y X ns ds e3 _ _ _ _ => ?_, fun er k h => ?_⟩
    · dsimp only
      exact s_ret ev_c (fun H4 e4 => k1 h hh H4 ((e02.trans e3).trans e4))
    · intro d l H' hd fr hl hq
      have ex : Ex H H' := fun b u hb => fr b u (e02 _ _ hb) (by simp)
      have suite : ∀ (a : Addr) {D' : Ends} (w : Str), D'.rt = Q → w = heWord er → tRet (tCallE (spNamedH e) a (.ref (e.clsH er)) (some d) (tCons (tVar 2) (tCons (tC (.str w)) tNil))) D' ((L2.start ["schema", "text", "e"] [.ref A.a, .str tx]).set 2 (some (.ref a))) H' := fun a D' w hD hw => by
        subst hw
        show tCallE _ _ _ _ _ _ _ D'.rt
        rw [hD]
        exact w_eva (ea_cons (ev_var rfl) (ea_cons ev_c ea_nil)) fun H3 e3 => ⟨e.clsH er, d, rfl, rfl, er, (k : Int), l, rfl, rfl, e3 _ _ hl, hq, fun p H4 hp e4 h4 => k2 er k h p H4 (fresh_back (ex.trans e3) hp) ((ex.trans e3).trans e4) h4⟩
      have yes : ∀ er', e.clsH er = e.clsH er' → PySem.W.exmOne K (.ref (e.clsH er)) (.ref (e.clsH er')) = some true := x.yes er
      have no : ∀ er', e.clsH er ≠ e.clsH er' → PySem.W.exmOne K (.ref (e.clsH er)) (.ref (e.clsH er')) = some false := x.no er
      have ap := x.ap
      simp only [List.nodup_cons, List.mem_cons, List.not_mem_nil, or_false, not_or] at ap
      obtain ⟨⟨a12, a13, a14, a15, a16⟩, ⟨a23, a24, a25, a26⟩, ⟨a34, a35, a36⟩, ⟨a45, a46⟩, a56, _⟩ := ap
      cases er with
      | bad => exact ⟨true, yes .bad rfl, fun _ a _ => suite a "BadLine" rfl rfl, (fun z => nomatch z)⟩
      | dup n => exact ⟨false, no .bad (Ne.symm a12), (fun z => nomatch z), fun _ => ⟨true, yes (.dup n) rfl, fun _ a _ => suite a "DuplicateName" rfl rfl, (fun z => nomatch z)⟩⟩
      | unk n => exact ⟨false, no .bad (Ne.symm a13), (fun z => nomatch z), fun _ => ⟨false, no (.dup "") (Ne.symm a23), (fun z => nomatch z), fun _ => ⟨true, yes (.unk n) rfl, fun _ a _ => suite a "UnknownName" rfl rfl, (fun z => nomatch z)⟩⟩⟩
      | tab n => exact ⟨false, no .bad (Ne.symm a14), (fun z => nomatch z), fun _ => ⟨false, no (.dup "") (Ne.symm a24), (fun z => nomatch z), fun _ => ⟨false, no (.unk "") (Ne.symm a34), (fun z => nomatch z), fun _ => ⟨true, yes (.tab n) rfl, fun _ a _ => suite a "WrongTable" rfl rfl, (fun z => nomatch z)⟩⟩⟩⟩
      | cnt => exact ⟨false, no .bad (Ne.symm a15), (fun z => nomatch z), fun _ => ⟨false, no (.dup "") (Ne.symm a25), (fun z => nomatch z), fun _ => ⟨false, no (.unk "") (Ne.symm a35), (fun z => nomatch z), fun _ => ⟨false, no (.tab "") (Ne.symm a45), (fun z => nomatch z), fun _ => ⟨true, yes .cnt rfl, fun _ a _ => suite a "WrongCount" rfl rfl, (fun z => nomatch z)⟩⟩⟩⟩⟩
      | many => exact ⟨false, no .bad (Ne.symm a16), (fun z => nomatch z), fun _ => ⟨false, no (.dup "") (Ne.symm a26), (fun z => nomatch z), fun _ => ⟨false, no (.unk "") (Ne.symm a36), (fun z => nomatch z), fun _ => ⟨false, no (.tab "") (Ne.symm a46), (fun z => nomatch z), fun _ => ⟨false, no .cnt (Ne.symm a56), (fun z => nomatch z), fun _ => ⟨true, yes .many rfl, fun _ a _ => suite a "TooMany" rfl rfl, (fun z => nomatch z)⟩⟩⟩⟩⟩⟩
end
end My

namespace My
open PySem PySem.Spec PyProof.Rows L2 Evl
/-! ### the law's own list of tables -/
def nmIx (tb : List Tb) (p : Str) : Nat := tb.findIdx fun t => decide (t.nm = p)
def pix (tb : List Tb) (t : Tb) : Int := match t.par with
  | none => -1
  | some p => (nmIx tb p : Int)
theorem nmIx_at {tb : List Tb} (w : WF tb) {j : Nat} (h : j < tb.length) : nmIx tb tb[j].nm = j := by
  unfold nmIx
  have nd := w.nd
  clear w
  induction tb generalizing j with
  | nil => simp at h
  | cons t r ih =>
    rw [List.map_cons, List.nodup_cons] at nd
    cases j with
    | zero => simp [List.findIdx_cons]
    | succ j =>
      have hj : j < r.length := by simpa using h
      have ne : ¬ t.nm = r[j].nm := fun e => nd.1 (by rw [e]; exact List.mem_map_of_mem (List.getElem_mem hj))
      rw [List.findIdx_cons]
      simp only [List.getElem_cons_succ]
      rw [decide_eq_false ne]
      show _ + 1 = _ + 1
      rw [ih hj nd.2]
/-- pairs of a tuple's and its columns' address -/
structure LT (H : Hp) (a : Addr) (ps : List (Addr × Addr)) (tb : List Tb) : Prop where
  l : H a = some (.lst (ps.map fun p => V.ref p.1))
  n : ps.length = tb.length
  tup : ∀ i (h : i < tb.length) (h' : i < ps.length), H ps[i].1 = some (.tup [.str tb[i].nm, .int (pix tb tb[i]), .ref ps[i].2])
  cols : ∀ i (h : i < tb.length) (h' : i < ps.length), H ps[i].2 = some (.lst (tb[i].cols.map V.str))
theorem LT.ex {H H' : Hp} {a : Addr} {ps : List (Addr × Addr)} {tb : List Tb} (e : Ex H H') (h : LT H a ps tb) : LT H' a ps tb := ⟨e _ _ h.l, h.n, fun i hi h' => e _ _ (h.tup i hi h'), fun i hi h' => e _ _ (h.cols i hi h')⟩
/-- the chain, by numbers -/
def chI (tb : List Tb) : Nat → Nat → List Nat
  | 0, i => [i]
  | d + 1, i => i :: match (tb[i]?).bind (·.par) with
    | none => []
    | some p => chI tb d (nmIx tb p)
theorem chI_len {tb : List Tb} (w : WF tb) : ∀ d i (h : i < tb.length), i ≤ d → (chI tb d i).length = (chainF tb i tb[i].nm).length := by
  intro d
  induction d with
  | zero =>
    intro i h hd
    obtain rfl : i = 0 := by omega
    rfl
  | succ d ih =>
    intro i h hd
    unfold chI
    rw [List.getElem?_eq_getElem h, Option.bind_some]
    cases hp : tb[i].par with
    | none => rw [chain_end w h hp]; rfl
    | some p =>
      obtain ⟨j, hj, lt, rfl⟩ := w.par i h p hp
      dsimp only
      rw [chain_next w h hj lt hp, List.length_cons, List.length_cons, nmIx_at w hj, ih j hj (by omega)]
abbrev sGch : Stmt := top 52
theorem scGch : FnScope ["tb", "t"] ["tb", "t"] (defScope sGch) := ⟨rfl, rfl, rfl, by decide +kernel, rfl, by decide +kernel, by decide +kernel⟩
def spGch (d : Nat) : Sp := fun vs H Q _ => ∃ (a : Addr) (ps : List (Addr × Addr)) (tb : List Tb) (i : Nat), vs = [.ref a, .int (i : Int)] ∧ LT H a ps tb ∧ WF tb ∧ i < tb.length ∧ i ≤ d ∧ d ≤ 100 ∧
  ∀ (p : Addr) (H' : Hp), Ex H H' → H p = none → H' p = some (.lst ((chI tb d i).map fun (j : Nat) => V.int (j : Int))) → Q (.ref p) H'
theorem chI_few {tb : List Tb} : ∀ d i, (chI tb d i).length ≤ d + 1
  | 0, _ => Nat.le_refl _
  | d + 1, i => by
    unfold chI
    cases (tb[i]?).bind (·.par) with
    | none => show 1 ≤ _; omega
    | some p => have := chI_few (tb := tb) d (nmIx tb p); exact Nat.succ_le_succ this
section
variable {K : PySem.W.Frag} {H : Hp} {σ : L2.St} {a : Addr} {ps : List (Addr × Addr)} {tb : List Tb} {ta te : TE}
theorem ev_rowT {i : Int} {j : Nat} (T : LT H a ps tb) (hj : j < tb.length) (hi : i = (j : Int)) (ha : Ev ta σ H (.ref a)) (he : Ev te σ H (.int i)) : Ev (tOp (rIxL K) ta te) σ H (.ref (ps.getD j (a, a)).1) := by
  have h' : j < ps.length := by rw [T.n]; exact hj
  refine ev_op ha he (rv_ixL (SqL.of T.l) (atI_n hi ?_))
  rw [List.getElem?_map, List.getD_eq_getElem?_getD, List.getElem?_eq_getElem h']
  rfl
theorem LT.tupD (T : LT H a ps tb) {j : Nat} (hj : j < tb.length) : H (ps.getD j (a, a)).1 = some (.tup [.str tb[j].nm, .int (pix tb tb[j]), .ref (ps.getD j (a, a)).2]) ∧ H (ps.getD j (a, a)).2 = some (.lst (tb[j].cols.map V.str)) := by
  have h' : j < ps.length := by rw [T.n]; exact hj
  have e : ps.getD j (a, a) = ps[j] := by rw [List.getD_eq_getElem?_getD, List.getElem?_eq_getElem h']; rfl
  rw [e]
  exact ⟨T.tup j hj h', T.cols j hj h'⟩
/-- tb[t][0], tb[t][1], tb[t][2] -/
theorem ev_nmT {i : Int} {j : Nat} (T : LT H a ps tb) (hj : j < tb.length) (hi : i = (j : Int)) (ha : Ev ta σ H (.ref a)) (he : Ev te σ H (.int i)) : Ev (tOp (rIxT K) (tOp (rIxL K) ta te) (tC (.int 0))) σ H (.str tb[j].nm) :=
  ev_op (ev_rowT T hj hi ha he) ev_c (rv_ixT (st_of (T.tupD hj).1) (atI_n (j := 0) rfl rfl))
theorem ev_pxT {i : Int} {j : Nat} (T : LT H a ps tb) (hj : j < tb.length) (hi : i = (j : Int)) (ha : Ev ta σ H (.ref a)) (he : Ev te σ H (.int i)) : Ev (tOp (rIxT K) (tOp (rIxL K) ta te) (tC (.int 1))) σ H (.int (pix tb tb[j])) :=
  ev_op (ev_rowT T hj hi ha he) ev_c (rv_ixT (st_of (T.tupD hj).1) (atI_n (j := 1) rfl rfl))
theorem ev_csT {i : Int} {j : Nat} (T : LT H a ps tb) (hj : j < tb.length) (hi : i = (j : Int)) (ha : Ev ta σ H (.ref a)) (he : Ev te σ H (.int i)) : Ev (tOp (rIxT K) (tOp (rIxL K) ta te) (tC (.int 2))) σ H (.ref (ps.getD j (a, a)).2) :=
  ev_op (ev_rowT T hj hi ha he) ev_c (rv_ixT (st_of (T.tupD hj).1) (atI_n (j := 2) rfl rfl))
end
theorem pix_par {tb : List Tb} (w : WF tb) {i : Nat} (h : i < tb.length) : (tb[i].par = none ∧ pix tb tb[i] = -1) ∨ ∃ j, ∃ hj : j < tb.length, j < i ∧ tb[i].par = some tb[j].nm ∧ pix tb tb[i] = (j : Int) := by
  cases hp : tb[i].par with
  | none => exact .inl ⟨rfl, by unfold pix; rw [hp]⟩
  | some p =>
    obtain ⟨j, hj, lt, rfl⟩ := w.par i h p hp
    exact .inr ⟨j, hj, lt, rfl, by unfold pix; rw [hp]; dsimp only; rw [nmIx_at w hj]⟩
section
variable {P : Program} {w : World} {K : PySem.W.Frag} {mg : Str → Option Value} {base : Heap}
theorem ok_gch {f : Addr} {fd : FuncData} (F : Fun K "_law_get_chain" "_law_get_chain" sGch f fd) (m__law_get_chain : mg "_law_get_chain" = some (.ref f)) (b__law_get_chain : Binds K fd ["tb", "t"] []) :
    ∀ d, FnOk P w K mg base CX0 (d + 2) f fd ["tb", "t"] (spGch d) := by
  have k__law_get_chain := F.kp
  have stp : ∀ (d : Nat) (sp : Sp) (G__law_get_chain : FnOk P w K mg base CX0 (d + 1) f fd ["tb", "t"] sp)
      (go : ∀ (a : Addr) (ps : List (Addr × Addr)) (tb : List Tb) (i j : Nat) (H : Hp) (Q : VK) (E : XK), LT H a ps tb → WF tb → (h : i < tb.length) → i ≤ d → j < i → (hj : j < tb.length) → d ≤ 100 →
        (∀ (p : Addr) (H' : Hp), Ex H H' → H p = none → H' p = some (.lst ((chI tb (d - 1) j).map fun (j : Nat) => V.int (j : Int))) → Q (.ref p) H') → sp [.ref a, .int (j : Int)] H Q E),
      FnOk P w K mg base CX0 (d + 2) f fd ["tb", "t"] (spGch d) := by
    intro d sp G__law_get_chain go
    refine F.ok scGch (fun vs H Q E h => ?_) (fun cdv A outer s H vs Q E hr h => ?_)
    · obtain ⟨a, ps, tb, i, rfl, _⟩ := h
      rfl
    · obtain ⟨a, ps, tb, i, rfl, T, wf, hi, hd, h100, k⟩ := h
      have hr__law_get_chain : Room (d + 1) _ := hr
      refine ⟨_, (pss_one (ps_ret (pe_op op_cat (pe_lst (pa_cons (pv 1) pa_nil)) (pe_ifExp (pt_cmpR op_ge (pe_ix (ixT K) (pe_ix (ixL K) (pv 0) (pv 1) (fun _ _ => rfl)) pe_int (fun _ _ => rfl)) pe_int (nomark _)) (pe_call G__law_get_chain hr__law_get_chain rfl m__law_get_chain k__law_get_chain b__law_get_chain .nil pass0 (pa_cons (pv 0) (pa_cons (pe_ix (ixT K) (pe_ix (ixL K) (pv 0) (pv 1) (fun _ _ => rfl)) pe_int (fun _ _ => rfl)) pa_nil))) (pe_lst pa_nil))))), ?_⟩
      have one : EvL (tLst (tCons (tVar 1) tNil)) (L2.start ["tb", "t"] [.ref a, .int (i : Int)]) H [.int (i : Int)] := el_lst (ea_cons (ev_var rfl) ea_nil) (by show 1 ≤ 100000; decide)
      rcases pix_par wf hi with ⟨hp, hx⟩ | ⟨j, hj, lt, hp, hx⟩
      · have e : chI tb d i = [i] := by
          cases d with
          | zero => rfl
          | succ d => unfold chI; rw [List.getElem?_eq_getElem hi, Option.bind_some, hp]
        refine s_retL (el_is (el_catLL one (zs := []) (el_if (b := false) (et_test (ev_is (ev_op (ev_is (ev_pxT (K := K) T hi rfl (ev_var rfl) (ev_var rfl)) (by rw [hx])) ev_c rv_I0) rfl)) (fun z => nomatch z) (fun _ => el_lst ea_nil (by decide))) (by show 1 ≤ 100000; decide)) (ys := (chI tb d i).map fun (j : Nat) => V.int (j : Int)) (by rw [e]; rfl)) (fun p H3 hp e3 h3 => k p H3 e3 hp h3)
      · have e : chI tb d i = i :: chI tb (d - 1) j := by
          obtain ⟨d, rfl⟩ : ∃ d', d = d' + 1 := ⟨d - 1, by omega⟩
          conv => lhs; unfold chI
          rw [List.getElem?_eq_getElem hi, Option.bind_some, hp]
          dsimp only
          rw [nmIx_at wf hj]
          rfl
        have few := chI_few (tb := tb) (d - 1) j
        refine s_retL (el_is (el_catLL one (zs := (chI tb (d - 1) j).map fun (j : Nat) => V.int (j : Int)) (el_if (b := true) (et_test (ev_is (ev_op (ev_is (ev_pxT (K := K) T hi rfl (ev_var rfl) (ev_var rfl)) (by rw [hx])) ev_c rv_I0) (congrArg V.bl (decide_eq_true (by omega))))) (fun _ => ?_) (fun z => nomatch z)) (by rw [List.length_map]; show 1 + _ ≤ 100000; omega)) (ys := (chI tb d i).map fun (j : Nat) => V.int (j : Int)) (by rw [e]; rfl)) (fun p H3 hp e3 h3 => k p H3 e3 hp h3)
        intro H1 e1 Q1 q1
        refine w_call (w_eva (ea_cons (ev_var rfl) (ea_cons (ev_is (ev_pxT (K := K) (T.ex e1) hi rfl (ev_var rfl) (ev_var rfl)) (by rw [hx])) ea_nil)) fun H2 e2 => ?_)
        exact go a ps tb i j H2 _ _ (T.ex (e1.trans e2)) wf hi hd lt hj h100 fun p H3 e3 hp h3 => q1 p H3 (fresh_back e2 hp) (e2.trans e3) h3
  intro d
  induction d with
  | zero => exact stp 0 (fun _ _ _ _ => False) (F.ok scGch (fun _ _ _ _ h => h.elim) (fun _ _ _ _ _ _ _ _ _ h => h.elim)) (fun a ps tb i j H Q E _ _ _ hd lt _ _ => by omega)
  | succ d ih => exact stp (d + 1) (spGch d) ih (fun a ps tb i j H Q E T wf hi hd lt hj h100 q => ⟨a, ps, tb, j, rfl, T, wf, hj, by omega, by omega, q⟩)
end
end My

namespace My
open PySem PySem.Spec PyProof.Rows L2 Evl
/-! ### lines of any kind -/
inductive Soup (ws : List Str) : List Str → Prop where
  | bad (x : Str) : x ∈ ws → Soup ws ["roots", x]
  | tab (n : Str) (par : Option Str) (c : List Str) : n ∈ ws → (∀ p, par = some p → p ∈ ws) → c ≠ [] → c.length ≤ 12 → (∀ x ∈ c, x ∈ ws) → Soup ws (hdP n par ++ c)
  | own (n : Str) (path : List Str) : n ∈ ws → path ≠ [] → path.length ≤ 6 → (∀ x ∈ path, x ∈ ws) → Soup ws ["owner", n, Txt.join "." path]
  | fol (n c u : Str) : n ∈ ws → c ∈ ws → u ∈ ws → Soup ws ["follow", n, c, u]
/-- kept while lines are drawn -/
structure B8 (st l nm : Addr) (ws : List Str) (H : Hp) : Prop where
  S : StAt H st l
  n : H nm = some (.lst (ws.map V.str))
  on : nm ≠ st ∧ nm ≠ l
section
variable {st l nm : Addr} {ws : List Str} {H H' : Hp}
theorem B8.ex (e : Ex H H') (b : B8 st l nm ws H) : B8 st l nm ws H' := ⟨b.S.same e, e _ _ b.n, b.on⟩
theorem B8.ext (e : Ext st l H H') (S : StAt H' st l) (b : B8 st l nm ws H) : B8 st l nm ws H' := ⟨S, e _ _ b.on.1 b.on.2 b.n, b.on⟩
end
def spSoup : Sp := fun vs H Q _ => ∃ (st l nm : Addr) (ws : List Str) (k : Nat), vs = [.ref st, .ref nm, .int (k : Int)] ∧ B8 st l nm ws H ∧ Wsx ws ∧ 1 ≤ k ∧ k ≤ 11 ∧
  ∀ (r : List Str) (H' : Hp), Soup ws r → Ext st l H H' → StAt H' st l → Q (.str (rowS r)) H'
theorem w_sl {r : V → Option Int → Option Int → Hp → VK → Prop} {te : TE} {tl th : TO} {σ : L2.St} {H : Hp} {Q : VK} (h : te σ H fun x H1 => tl σ H1 fun lo H2 => th σ H2 fun hi H3 => r x lo hi H3 Q) : tSl r te tl th σ H Q := h
theorem ite_ev {c : Bool} {ta tb : TE} {σ : L2.St} {H : Hp} {Q : VK} {S : Str → Prop} (h1 : c = true → ∃ x, S x ∧ Ev ta σ H (.str x)) (h2 : c = false → ∃ x, S x ∧ Ev tb σ H (.str x)) (k : ∀ x H1, S x → Ex H H1 → Q (.str x) H1) : if c = true then ta σ H Q else tb σ H Q := by
  cases c with
  | true =>
    obtain ⟨x, hx, e⟩ := h1 rfl
    rw [if_pos rfl]
    exact e H (Ex.refl H) _ fun H1 e1 => k x H1 hx e1
  | false =>
    obtain ⟨x, hx, e⟩ := h2 rfl
    rw [if_neg Bool.false_ne_true]
    exact e H (Ex.refl H) _ fun H1 e1 => k x H1 hx e1
theorem w_tif {t : TT} {ta tb : TE} {σ : L2.St} {H : Hp} {Q : VK} (h : t σ H fun c H1 => if c = true then ta σ H1 Q else tb σ H1 Q) : tIf t ta tb σ H Q := h
section
variable {σ : L2.St} {H : Hp} {K : PySem.W.Frag} {st l nm : Addr} {ws : List Str} {Q : VK} {E : XK} {ta : TA} {te : TE}
theorem w_nmDraw {n : Int} (B : B8 st l nm ws H) (W : Wsx ws) (h1 : σ[1]? = some (some (.ref nm))) (ha : EvA ta σ H [.ref st, .int n]) (h0 : 0 < n) (hn : n ≤ 12) (k : ∀ x ∈ ws, ∀ H', Ext st l H H' → B8 st l nm ws H' → Q (.str x) H') : tOp (rIxL K) (tVar 1) (tCall spDraw [] E ta) σ H Q :=
  w_op (w_ev (ev_var h1) fun H1 e1 => w_draw (fun H2 e2 => ha H2 (e1.trans e2)) (B.ex e1).S h0 (by omega) fun r H' r0 r1 e S' => by
    obtain ⟨m, rfl⟩ : ∃ m : Nat, r = m := ⟨r.toNat, by omega⟩
    have B' := (B.ex e1).ext e S'
    have hm : m < ws.length := by rw [W.len]; omega
    exact ⟨nm, _, _, _, rfl, rfl, SqL.of B'.n, atI_n rfl (getD_at hm), k _ (getD_mem hm) H' ((Ext.same e1).trans e) B'⟩)
theorem ev_nm {i : Int} {j : Nat} (B : B8 st l nm ws H) (W : Wsx ws) (h1 : σ[1]? = some (some (.ref nm))) (h : Ev te σ H (.int i)) (hi : i = (j : Int)) (hj : j < 12) : Ev (tOp (rIxL K) (tVar 1) te) σ H (.str (ws.getD j "")) :=
  ev_op (ev_var h1) h (rv_ixL (SqL.of B.n) (atI_n hi (getD_at (by rw [W.len]; exact hj))))
theorem w_join {sep : Str} (h : te σ H fun v H1 => rJoin K (.str sep) [v] H1 Q) : tBM K "str" (rJoin K) (tC (.str sep)) (tCons te tNil) σ H Q := ⟨rfl, h⟩
theorem rj_list {sep : Str} {p : Addr} {ys : List Str} (hp : H p = some (.lst (ys.map V.str))) (hs : (ys.map (·.length)).sum + ys.length * sep.length ≤ 16777216) (q : Q (.str (Txt.join sep ys)) H) : rJoin K (.str sep) [.ref p] H Q := ⟨sep, p, ys, rfl, rfl, .inl (SqL.of hp), hs, q⟩
theorem row_names {c : List Str} (hc : ∀ x ∈ c, x ∈ ws) (W : Wsx ws) (n : c.length ≤ 12) : (c.map (·.length)).sum ≤ 150 := by
  have := lens_sum (ys := c) (n := 12) (fun m hm => (W.ok m (hc m hm)).le)
  rw [Nat.mul_comm] at this
  omega
end
theorem take_mem {ws ys : List Str} (h : ∀ x ∈ ys, x ∈ ws) (m : Nat) : ∀ x ∈ ys.take m, x ∈ ws := fun x hx => h x (List.mem_of_mem_take hx)
theorem drop_mem {ws ys : List Str} (h : ∀ x ∈ ys, x ∈ ws) (m : Nat) : ∀ x ∈ ys.drop m, x ∈ ws := fun x hx => h x (List.mem_of_mem_drop hx)
structure TSp (mg : Str → Option Value) : Prop where
  n_range : mg "range" = none
  n_max : mg "max" = none
section
variable {P : Program} {w : World} {K : PySem.W.Frag} {mg : Str → Option Value} {base : Heap}
end
end My

namespace My
open PySem PySem.Spec PyProof.Rows L2 Evl
/-! ### the law's own reading of a table line -/
def erT : Er → List Str
  | .bad => ["BadLine"]
  | .dup n => ["DuplicateName", n]
  | .unk n => ["UnknownName", n]
  | .many => ["TooMany"]
theorem nmIx_map (tb : List Tb) (p : Str) : nmIx tb p = (tb.map (·.nm)).findIdx fun x => decide (x = p) := by
  unfold nmIx
  rw [List.findIdx_map]
  rfl
section
variable {K : PySem.W.Frag} {H : Hp} {σ : L2.St} {to te : TE}
theorem rv_idxS {a : Addr} {ds : List Str} {d : Str} {Q : VK} (h : SqL K H a (ds.map V.str)) (hd : d ∈ ds) (q : Q (.int ((ds.findIdx fun z => decide (z = d)) : Nat)) H) : rIndex K (.ref a) [.str d] H Q := by
  have lt : (ds.findIdx fun z => decide (z = d)) < ds.length := List.findIdx_lt_length_of_exists ⟨d, hd, by simp⟩
  have at_ := List.findIdx_getElem (xs := ds) (p := fun z => decide (z = d)) (w := lt)
  refine ⟨a, ds.map V.str, .str d, (ds.findIdx fun z => decide (z = d)), .str ds[ds.findIdx fun z => decide (z = d)], rfl, rfl, h, rfl, ?_, ?_, ?_, fun m z hm hz => ?_, q⟩
  · rw [List.all_map, List.all_eq_true]; intro x _; rfl
  · rw [List.getElem?_map, List.getElem?_eq_getElem lt]; rfl
  · exact beq_iff_eq.mpr (of_decide_eq_true at_)
  · have lm : m < ds.length := Nat.lt_trans hm lt
    rw [List.getElem?_map, List.getElem?_eq_getElem lm] at hz
    obtain rfl : z = V.str ds[m] := (Option.some.inj hz).symm
    have := List.not_of_lt_findIdx hm
    exact beq_eq_false_iff_ne.mpr (by simpa using this)
theorem ev_idxS {a : Addr} {ds : List Str} {d : Str} (ho : Ev to σ H (.ref a)) (he : Ev te σ H (.str d)) (h : SqL K H a (ds.map V.str)) (hd : d ∈ ds) : Ev (tBM K "list" (rIndex K) to (tCons te tNil)) σ H (.int ((ds.findIdx fun z => decide (z = d)) : Nat)) := fun H1 e Q q =>
  ho H1 e _ fun H2 e2 => ⟨Or.inl ⟨rfl, _, ex_l (e.trans e2) h⟩, he H2 (e.trans e2) _ fun H3 e3 => rv_idxS (ex_l ((e.trans e2).trans e3) h) hd (q H3 (e2.trans e3))⟩
theorem ev_lenN {xs : List V} (h : EvL te σ H xs) : Ev (tCB (rLenS K) (tCons te tNil)) σ H (.int (xs.length : Int)) := fun H1 e Q q =>
  h H1 e _ fun p H2 _ e2 h2 => ⟨p, xs, rfl, .inl (SqL.of h2), q H2 e2⟩
end
theorem el_mapL {K : PySem.W.Frag} {σ : L2.St} {H : Hp} {tl te : TE} {j : Nat} {vs : List Nat} {a : Addr} {xs : List V} {n : Nat} (v : Nat → V) (hl : Ev tl σ H (.ref a)) (ha : SqL K H a xs) (hn : xs.length = n) (n4 : n ≤ 40000)
    (hw : ∀ x, wipe ((wipe σ vs).set j (some x)) vs = wipe σ vs) (he : ∀ (i : Nat) (x : V) H1, Ex H H1 → i < n → xs[i]? = some x → Ev te ((wipe σ vs).set j (some x)) H1 (v i)) :
    EvL (tLc (iList K tl) (gName j) tYes te vs) σ H ((List.range n).map v) := by
  subst hn
  have := el_lcW (t := tYes) (te := te) (j := j) (vs := vs) (σ := σ) (H := H) (n := xs.length) (fun _ => true) v n4 (fun i x => xs[i]? = some x) (wi := iList K tl) (fun H1 e R k => hl H1 e _ fun H2 e2 => ⟨a, rfl, ⟨xs, ex_l (e.trans e2) ha⟩, k _ H2 e2 ⟨_, walk_list, fun H3 e3 => ex_l ((e.trans e2).trans e3) ha⟩⟩) hw (fun _ _ _ _ _ _ => et_yes) (fun i x H1 e1 hi hx _ => he i x H1 e1 hi hx)
  rw [given_map] at this
  exact this
/-- [table[0] for table in tables] -/
theorem el_known {K : PySem.W.Frag} {σ : L2.St} {H : Hp} {tl : TE} {j : Nat} {vs : List Nat} {a : Addr} {ps : List (Addr × Addr)} {tb : List Tb} (T : LT H a ps tb) (few : tb.length ≤ 1000) (hl : Ev tl σ H (.ref a)) (hw : ∀ x, wipe ((wipe σ vs).set j (some x)) vs = wipe σ vs) (lj : j < σ.length) :
    EvL (tLc (iList K tl) (gName j) tYes (tOp (rIxT K) (tVar j) (tC (.int 0))) vs) σ H ((tb.map (·.nm)).map V.str) := by
  have := el_mapL (K := K) (te := tOp (rIxT K) (tVar j) (tC (.int 0))) (j := j) (vs := vs) (n := tb.length) (fun i => V.str ((tb.map (·.nm)).getD i ("" : Str))) hl (SqL.of T.l) (by rw [List.length_map, T.n]) (by omega) hw (fun i x H1 e1 hi hx => ?_)
  · refine el_is this ?_
    apply List.ext_getElem
    · simp
    · intro i h1 h2
      simp at h1 h2
      simp [List.getD_eq_getElem?_getD, List.getElem?_eq_getElem h1]
  · have h' : i < ps.length := by rw [T.n]; exact hi
    rw [List.getElem?_map, List.getElem?_eq_getElem h'] at hx
    obtain rfl := Option.some.inj hx
    have e : (tb.map (·.nm)).getD i ("" : Str) = tb[i].nm := by rw [List.getD_eq_getElem?_getD, List.getElem?_map, List.getElem?_eq_getElem hi]; rfl
    rw [e]
    exact ev_op (ev_var (List.getElem?_set_self (by rw [wipe_length]; exact lj))) ev_c (rv_ixT (st_of (e1 _ _ (T.tup i hi h'))) (atI_n (j := 0) rfl rfl))
theorem LT.frame {M : List Addr} {H H' : Hp} {a : Addr} {ps : List (Addr × Addr)} {tb : List Tb} (T : LT H a ps tb) (f : Fr M H H') (hm : ∀ b ∈ M, b ≠ a ∧ (∀ p ∈ ps, b ≠ p.1 ∧ b ≠ p.2)) : LT H' a ps tb :=
  ⟨f _ _ T.l fun z => (hm _ z).1 rfl, T.n, fun i h h' => f _ _ (T.tup i h h') fun z => ((hm _ z).2 _ (List.getElem_mem h')).1 rfl, fun i h h' => f _ _ (T.cols i h h') fun z => ((hm _ z).2 _ (List.getElem_mem h')).2 rfl⟩
theorem pix_snoc {tb : List Tb} {t x : Tb} (h : ∀ p, t.par = some p → known tb p = true) : pix (tb ++ [x]) t = pix tb t := by
  unfold pix
  cases hp : t.par with
  | none => rfl
  | some p =>
    dsimp only
    unfold nmIx
    rw [List.findIdx_append, if_pos]
    obtain ⟨i, hi, e⟩ := known_at (h p hp)
    exact List.findIdx_lt_length_of_exists ⟨tb[i], List.getElem_mem hi, decide_eq_true e⟩
theorem WF.parK {tb : List Tb} (w : WF tb) {i : Nat} (h : i < tb.length) : ∀ p, tb[i].par = some p → known tb p = true := fun p e => by
  obtain ⟨j, hj, _, rfl⟩ := w.par i h p e
  exact known_of hj
/-- one table more -/
theorem LT.snoc {H : Hp} {a : Addr} {ps : List (Addr × Addr)} {tb : List Tb} (T : LT H a ps tb) (wf : WF tb) {t : Tb} {p c : Addr} {x : Int} (hx : x = pix tb t) (hk : ∀ q, t.par = some q → known tb q = true) (hp : H p = some (.tup [.str t.nm, .int x, .ref c])) (hc : H c = some (.lst (t.cols.map V.str))) (dis : ∀ q ∈ ps, q.2 ≠ a) (ca : c ≠ a) :
    LT (upd H a (.lst (ps.map (fun p => V.ref p.1) ++ [.ref p]))) a (ps ++ [(p, c)]) (tb ++ [t]) := by
  have pa : ∀ {q : Addr} {xs : List V}, H q = some (.tup xs) → q ≠ a := fun {q xs} h z => by rw [z, T.l] at h; cases h
  refine ⟨by rw [upd_same, List.map_append]; rfl, by rw [List.length_append, List.length_append, T.n]; rfl, fun i h h' => ?_, fun i h h' => ?_⟩
  · by_cases z : i < tb.length
    · have z' : i < ps.length := by rw [T.n]; exact z
      rw [List.getElem_append_left z', List.getElem_append_left z, pix_snoc (wf.parK z), upd_ne (pa (T.tup i z z'))]
      exact T.tup i z z'
    · rw [List.length_append] at h
      have e : i = tb.length := by simp at h; omega
      subst e
      rw [List.getElem_append_right (by rw [T.n]; exact Nat.le_refl _), List.getElem_append_right (Nat.le_refl _)]
      simp only [T.n, Nat.sub_self, List.getElem_cons_zero]
      rw [pix_snoc hk, ← hx, upd_ne (pa hp)]
      exact hp
  · by_cases z : i < tb.length
    · have z' : i < ps.length := by rw [T.n]; exact z
      rw [List.getElem_append_left z', List.getElem_append_left z, upd_ne (dis _ (List.getElem_mem z'))]
      exact T.cols i z z'
    · rw [List.length_append] at h
      have e : i = tb.length := by simp at h; omega
      subst e
      rw [List.getElem_append_right (by rw [T.n]; exact Nat.le_refl _), List.getElem_append_right (Nat.le_refl _)]
      simp only [T.n, Nat.sub_self, List.getElem_cons_zero]
      rw [upd_ne ca]
      exact hc
/-- the chain behind one table more -/
theorem chain_snoc {tb : List Tb} (wf : WF tb) {t : Tb} {j : Nat} (hj : j < tb.length) (hk : known tb t.nm = false) (hp : t.par = some tb[j].nm) : (chainT (tb ++ [t]) t.nm).length = (chainF tb j tb[j].nm).length + 1 := by
  have kp : ∀ p, t.par = some p → known tb p = true := fun p e => by rw [hp] at e; rw [← Option.some.inj e]; exact known_of hj
  have wf' := wf_snoc wf hk kp
  have hl : tb.length < (tb ++ [t]).length := by rw [List.length_append]; exact Nat.lt_succ_self _
  have last : (tb ++ [t])[tb.length] = t := by rw [List.getElem_append_right (Nat.le_refl _)]; simp
  have hj' : j < (tb ++ [t]).length := by omega
  have ej : (tb ++ [t])[j] = tb[j] := List.getElem_append_left hj
  unfold chainT
  have st := chain_stable wf' tb.length hl _ (Nat.le_of_lt hl)
  rw [last] at st
  rw [st]
  have nx := chain_next wf' hl hj' hj (by rw [last, hp, ej])
  rw [last, ej] at nx
  rw [nx, List.length_cons]
  have same : ∀ i, (h : i < tb.length) → (chainF (tb ++ [t]) i tb[i].nm) = chainF tb i tb[i].nm := by
    intro i
    induction i using Nat.strongRecOn with
    | _ i ih =>
      intro h
      have h' : i < (tb ++ [t]).length := by omega
      have ei : (tb ++ [t])[i] = tb[i] := List.getElem_append_left h
      cases hq : tb[i].par with
      | none =>
        have a1 := chain_end wf' h' (by rw [ei]; exact hq)
        rw [ei] at a1
        rw [a1, chain_end wf h hq]
      | some p =>
        obtain ⟨k, hk', lt, rfl⟩ := wf.par i h p hq
        have k' : k < (tb ++ [t]).length := by omega
        have ek : (tb ++ [t])[k] = tb[k] := List.getElem_append_left hk'
        have a1 := chain_next wf' h' k' lt (by rw [ei, ek]; exact hq)
        rw [ei, ek] at a1
        rw [a1, chain_next wf h hk' lt hq, ih k lt hk']
  rw [same j hj]
theorem chain_root {tb : List Tb} (wf : WF tb) {t : Tb} (hk : known tb t.nm = false) (hp : t.par = none) : (chainT (tb ++ [t]) t.nm).length = 1 := by
  have wf' := wf_snoc wf hk (fun p e => by rw [hp] at e; cases e)
  have hl : tb.length < (tb ++ [t]).length := by rw [List.length_append]; exact Nat.lt_succ_self _
  have last : (tb ++ [t])[tb.length] = t := by rw [List.getElem_append_right (Nat.le_refl _)]; simp
  unfold chainT
  have st := chain_stable wf' tb.length hl _ (Nat.le_of_lt hl)
  rw [last] at st
  rw [st]
  have nx := chain_end wf' hl (by rw [last]; exact hp)
  rw [last] at nx
  rw [nx]
  rfl
end My

namespace My
open PySem PySem.Spec PyProof.Rows L2 Evl
/-! ### a forest is drawn -/
structure Frs (ws : List Str) (tb : List Tb) : Prop where
  wf : WF tb
  six : tb.length ≤ 6
  nm : ∀ i (h : i < tb.length), tb[i].nm = ws.getD i ""
  cols : ∀ i (h : i < tb.length), 1 ≤ tb[i].cols.length ∧ tb[i].cols.length ≤ 4 ∧ tb[i].cols.Nodup ∧ ∀ x ∈ tb[i].cols, x ∈ ws
  fol : ∀ i (h : i < tb.length), tb[i].fol = []
  ch : ∀ i (h : i < tb.length), (chainF tb i tb[i].nm).length ≤ 4
theorem chain_same {tb : List Tb} (wf : WF tb) {t : Tb} (wf' : WF (tb ++ [t])) : ∀ i, (h : i < tb.length) → (chainF (tb ++ [t]) i tb[i].nm) = chainF tb i tb[i].nm := by
  intro i
  induction i using Nat.strongRecOn with
  | _ i ih =>
    intro h
    have h' : i < (tb ++ [t]).length := by rw [List.length_append]; omega
    have ei : (tb ++ [t])[i] = tb[i] := List.getElem_append_left h
    cases hq : tb[i].par with
    | none =>
      have a1 := chain_end wf' h' (by rw [ei]; exact hq)
      rw [ei] at a1
      rw [a1, chain_end wf h hq]
    | some p =>
      obtain ⟨k, hk', lt, rfl⟩ := wf.par i h p hq
      have k' : k < (tb ++ [t]).length := by rw [List.length_append]; omega
      have ek : (tb ++ [t])[k] = tb[k] := List.getElem_append_left hk'
      have a1 := chain_next wf' h' k' lt (by rw [ei, ek]; exact hq)
      rw [ei, ek] at a1
      rw [a1, chain_next wf h hk' lt hq, ih k lt hk']
theorem Frs.nil {ws : List Str} : Frs ws [] := ⟨wf_nil, Nat.zero_le _, fun i h => absurd h (Nat.not_lt_zero i), fun i h => absurd h (Nat.not_lt_zero i), fun i h => absurd h (Nat.not_lt_zero i), fun i h => absurd h (Nat.not_lt_zero i)⟩
theorem Frs.fresh {ws : List Str} {tb : List Tb} (W : Wsx ws) (f : Frs ws tb) {j : Nat} (hj : j < 12) (h : tb.length ≤ j) : known tb (ws.getD j "") = false := decide_eq_false fun z => by
  obtain ⟨t, ht, e⟩ := List.mem_map.mp z
  obtain ⟨i, hi, rfl⟩ := List.mem_iff_getElem.mp ht
  rw [f.nm i hi] at e
  have := getD_inj W.nd (by rw [W.len]; have := f.six; omega) (by rw [W.len]; exact hj) e
  omega
theorem Frs.snoc {ws : List Str} {tb : List Tb} (W : Wsx ws) (f : Frs ws tb) (l5 : tb.length ≤ 5) {par : Option Str} {c : List Str} (hp : par = none ∨ ∃ j, ∃ hj : j < tb.length, par = some tb[j].nm ∧ (chainF tb j tb[j].nm).length < 4) (hc : 1 ≤ c.length ∧ c.length ≤ 4 ∧ c.Nodup ∧ ∀ x ∈ c, x ∈ ws) : Frs ws (tb ++ [⟨ws.getD tb.length "", par, c, []⟩]) := by
  have kn := f.fresh W (j := tb.length) (by omega) (Nat.le_refl _)
  have kp : ∀ p, par = some p → known tb p = true := fun p e => by
    rcases hp with z | ⟨j, hj, z, _⟩
    · rw [z] at e; cases e
    · rw [z] at e; rw [← Option.some.inj e]; exact known_of hj
  have wf' : WF (tb ++ [⟨ws.getD tb.length "", par, c, []⟩]) := wf_snoc f.wf kn kp
  have sp : ∀ {i : Nat} (h : i < (tb ++ [(⟨ws.getD tb.length "", par, c, []⟩ : Tb)]).length), (∃ h' : i < tb.length, (tb ++ [(⟨ws.getD tb.length "", par, c, []⟩ : Tb)])[i] = tb[i]) ∨ (i = tb.length ∧ (tb ++ [(⟨ws.getD tb.length "", par, c, []⟩ : Tb)])[i] = ⟨ws.getD tb.length "", par, c, []⟩) := fun {i} h => by
    by_cases z : i < tb.length
    · exact .inl ⟨z, List.getElem_append_left z⟩
    · rw [List.length_append] at h
      have e : i = tb.length := by simp at h; omega
      subst e
      exact .inr ⟨rfl, by rw [List.getElem_append_right (Nat.le_refl _)]; simp⟩
  refine ⟨wf', by rw [List.length_append]; exact Nat.succ_le_succ l5, fun i h => ?_, fun i h => ?_, fun i h => ?_, fun i h => ?_⟩
  · rcases sp h with ⟨h', e⟩ | ⟨rfl, e⟩ <;> rw [e]
    exact f.nm i h'
  · rcases sp h with ⟨h', e⟩ | ⟨rfl, e⟩ <;> rw [e]
    · exact f.cols i h'
    · exact hc
  · rcases sp h with ⟨h', e⟩ | ⟨rfl, e⟩ <;> rw [e]
    exact f.fol i h'
  · rcases sp h with ⟨h', e⟩ | ⟨ei, e⟩ <;> rw [e]
    · rw [chain_same f.wf wf' i h']
      exact f.ch i h'
    · subst ei
      have hl : tb.length < (tb ++ [(⟨ws.getD tb.length "", par, c, []⟩ : Tb)]).length := h
      have st := chain_stable wf' tb.length hl _ (Nat.le_of_lt hl)
      rw [e] at st
      rcases hp with z | ⟨j, hj, z, hch⟩
      · have q := chain_root f.wf (t := ⟨ws.getD tb.length "", par, c, []⟩) kn z
        unfold chainT at q
        rw [st] at q
        rw [q]
        decide
      · have q := chain_snoc f.wf (t := ⟨ws.getD tb.length "", par, c, []⟩) hj kn z
        unfold chainT at q
        rw [st] at q
        rw [q]
        omega
theorem LT.ext {st l : Addr} {H H' : Hp} {a : Addr} {ps : List (Addr × Addr)} {tb : List Tb} (L : LT H a ps tb) (e : Ext st l H H') (ha : a ≠ st ∧ a ≠ l) (hp : ∀ q ∈ ps, (q.1 ≠ st ∧ q.1 ≠ l) ∧ (q.2 ≠ st ∧ q.2 ≠ l)) : LT H' a ps tb :=
  ⟨e _ _ ha.1 ha.2 L.l, L.n, fun i h h' => e _ _ (hp _ (List.getElem_mem h')).1.1 (hp _ (List.getElem_mem h')).1.2 (L.tup i h h'), fun i h h' => e _ _ (hp _ (List.getElem_mem h')).2.1 (hp _ (List.getElem_mem h')).2.2 (L.cols i h h')⟩
def RW (j : Nat) (n : Nat) (tu tz : TS) (D : Ends) (σ : L2.St) (H : Hp) : Prop := ∃ W : Nat → Nat → L2.St → Hp → Prop, (∃ m, W 0 m σ H) ∧ ∀ i m σ H, W i m σ H →
  ((Itr 0 n).stop i H ∧ tz D σ H) ∨ ((Itr 0 n).go i H ∧ ∃ N : L2.St → Hp → Prop, (∀ σ' H', N σ' H' → ∃ m', m' < m ∧ W (i + 1) m' σ' H') ∧ ∀ x H', (Itr 0 n).yld i H x H' → gName j x σ H' fun σ2 H2 => tu { D with nx := N, ct := N, bk := tz D } σ2 H2)
theorem q_rngW {ta : TA} {j : Nat} {tu tz : TS} {D : Ends} {σ : L2.St} {H : Hp} (h : ta σ H fun vs H1 => ∃ n : Int, vs = [.int n] ∧ -(2 ^ 62) ≤ n ∧ n < 2 ^ 62 ∧ RW j n.toNat tu tz D σ H1) : tSeq (tFor (iRng1 ta) (gName j) tu) tz D σ H := h
theorem w_rng {j n : Nat} {tu tz : TS} {D : Ends} {σ : L2.St} {H : Hp} (Pv : Nat → L2.St → Hp → Prop) (h0 : Pv 0 σ H) (hs : ∀ (i : Nat) σ' H', i < n → Pv i σ' H' → tu { D with nx := Pv (i + 1), ct := Pv (i + 1), bk := tz D } (σ'.set j (some (.int (i : Int)))) H') (hd : ∀ σ' H', Pv n σ' H' → tz D σ' H') : RW j n tu tz D σ H :=
  for_range (lo := 0) (n := n) (g := gName j) (tb := tu) (D := { D with nx := tz D }) Pv h0 (fun i σ' H' hi p => by
    have e0 : (0 : Int) + (i : Int) = (i : Int) := Int.zero_add _
    show tu { D with nx := Pv (i + 1), ct := Pv (i + 1), bk := tz D } (σ'.set j (some (.int ((0 : Int) + (i : Int))))) H'
    rw [e0]
    exact hs i σ' H' hi p) hd
theorem getD_ex {ws ex : List Str} {k : Nat} (h : k < ws.length) : ((ws ++ ex).map V.str)[k]? = some (.str (ws.getD k "")) := by
  rw [List.map_append, List.getElem?_append_left (by rw [List.length_map]; exact h)]
  exact getD_at h
abbrev sFor : Stmt := top 46
theorem scFor : FnScope ["state", "names", "most", "tables", "k", "parents", "t", "first", "columns", "c"] ["state", "names", "most"] (defScope sFor) := ⟨rfl, rfl, rfl, by decide +kernel, rfl, by decide +kernel, by decide +kernel⟩
def spFor (K : PySem.W.Frag) : Sp := fun vs H Q _ => ∃ (st l nm : Addr) (ws ex : List Str) (m : Nat), vs = [.ref st, .ref nm, .int (m : Int)] ∧ B8 st l nm (ws ++ ex) H ∧ Wsx ws ∧ 1 ≤ m ∧ m ≤ 6 ∧
  ∀ (a : Addr) (ps : List (Addr × Addr)) (tb : List Tb) (H' : Hp), Ext st l H H' → StAt H' st l → LT H' a ps tb → Frs ws tb → 1 ≤ tb.length → tb.length ≤ m → H a = none → (∀ q ∈ ps, H q.1 = none ∧ H q.2 = none) → (∀ q ∈ ps, q.2 ≠ a) → Q (.ref a) H'
structure TFor (mg : Str → Option Value) : Prop where
  n_range : mg "range" = none
  n_len : mg "len" = none
  n_int : mg "int" = none
theorem w_lcRW {ta : TA} {g : TG} {t : TT} {te : TE} {vs : List Nat} {σ : L2.St} {H : Hp} {Q : VK} (h : ta σ H fun xs H1 => ∃ n : Int, xs = [.int n] ∧ -(2 ^ 62) ≤ n ∧ n < 2 ^ 62 ∧ tLc (fun _ H R => R (Itr 0 n.toNat) H) g t te vs σ H1 Q) : tLc (iRng1 ta) g t te vs σ H Q := h
theorem el_lcI {j n : Nat} {te : TE} {vs : List Nat} {σ : L2.St} {H : Hp} (v : Nat → V) (hn : n ≤ 40000) (hw : ∀ x, wipe ((wipe σ vs).set j (some x)) vs = wipe σ vs) (he : ∀ (i : Nat) H1, Ex H H1 → i < n → Ev te ((wipe σ vs).set j (some (.int (i : Int)))) H1 (v i)) :
    EvL (tLc (fun _ H R => R (Itr 0 n) H) (gName j) tYes te vs) σ H ((List.range n).map v) := by
  have := el_lcW (t := tYes) (te := te) (j := j) (vs := vs) (σ := σ) (H := H) (n := n) (fun _ => true) v hn (fun i x => x = V.int (i : Int)) (wi := fun _ H R => R (Itr 0 n) H) (fun H1 e R k => k _ H1 (Ex.refl H1) ⟨fun _ => True, ⟨fun _ _ hi _ => hi, fun _ _ => Nat.le_refl _, fun i H2 x H3 _ _ y => ⟨y.1, y.2.trans (by rw [Int.zero_add])⟩⟩, fun _ _ => trivial⟩) hw (fun _ _ _ _ _ _ => et_yes) (fun i x H1 e1 hi hx _ => by subst hx; exact he i H1 e1 hi)
  rw [given_map] at this
  exact this
section
variable {P : Program} {w : World} {K : PySem.W.Frag} {mg : Str → Option Value} {base : Heap}
theorem ok_for {f fD fG : Addr} {fd fdD fdG : FuncData} (F : Fun K "_law_forest" "_law_forest" sFor f fd) (T : TFor mg) (G__law_draw : FnOk P w K mg base CX0 1 fD fdD ["st", "limit"] spDraw) (m__law_draw : mg "_law_draw" = some (.ref fD)) (k__law_draw : PySem.W.keepIn K (.ref fD) = true) (b__law_draw : Binds K fdD ["st", "limit"] [])
    (G__law_get_chain : FnOk P w K mg base CX0 7 fG fdG ["tb", "t"] (spGch 5)) (m__law_get_chain : mg "_law_get_chain" = some (.ref fG)) (k__law_get_chain : PySem.W.keepIn K (.ref fG) = true) (b__law_get_chain : Binds K fdG ["tb", "t"] []) :
    FnOk P w K mg base CX0 8 f fd ["state", "names", "most"] (spFor K) := by
  refine F.ok scFor (fun vs H Q E h => ?_) (fun cdv A outer s H vs Q E hr h => ?_)
  · obtain ⟨st, l, nm, ws, ex, m, rfl, _⟩ := h
    rfl
  · obtain ⟨st, l, nm, ws, ex, m, rfl, B, W, m1, m6, k⟩ := h
    have hr__law_draw : Room 1 _ := hr.mono (by decide)
    have hr__law_get_chain : Room 7 _ := hr
    refine ⟨_, (pss_cons (ps_set (i := 3) scFor.nd rfl (Or.inr rfl) (pe_lst pa_nil))
    (pss_cons (ps_for PassesOwn.never rfl (pi_range1 rfl T.n_range (pa_cons (pe_op op_add pe_int (pe_call G__law_draw hr__law_draw rfl m__law_draw k__law_draw b__law_draw .nil pass0 (pa_cons (pv 0) (pa_cons (pv 2) pa_nil)))) pa_nil)) (pg_name (i := 4) scFor.nd rfl (Or.inl rfl))
      (pss_cons (ps_set (i := 5) scFor.nd rfl (Or.inl rfl) (pe_op op_cat (pe_lst (pa_cons (pe_un un_neg pe_int) pa_nil)) (pe_lc (own := [("t", 6)]) (g := gName 6) (by rfl) scFor.nd (pi_range1 rfl T.n_range (pa_cons (pv 4) pa_nil)) (blkOk_by (own := [("t", 6)]) (N := ["state", "names", "most", "tables", "k", "parents", "t", "first", "columns", "c"]) (sc := defScope sFor) (by decide +kernel)) (fun _ _ _ _ _ => (pg_name (i := 6) scFor.nd rfl (Or.inl rfl))) (fun _ _ _ _ _ => (pts_one (pt_cmpR op_lt (pe_callB (lenSeq K) (by rfl) T.n_len (by decide +kernel) (pa_cons (pe_call G__law_get_chain hr__law_get_chain rfl m__law_get_chain k__law_get_chain b__law_get_chain .nil pass0 (pa_cons (pv 3) (pa_cons (pv 6) pa_nil))) pa_nil)) pe_int (nomark _)))) (fun _ _ _ _ _ => (pv 6)))))
      (pss_cons (ps_set (i := 7) scFor.nd rfl (Or.inr rfl) (pe_call G__law_draw hr__law_draw rfl m__law_draw k__law_draw b__law_draw .nil pass0 (pa_cons (pv 0) (pa_cons pe_int pa_nil))))
      (pss_cons (ps_setLc (i := 8) (own := [("c", 9)]) (g := gName 9) (by rfl) scFor.nd rfl rfl (sw_true rfl rfl rfl (by decide +kernel)) (pi_range1 rfl T.n_range (pa_cons (pe_op op_add pe_int (pe_call G__law_draw hr__law_draw rfl m__law_draw k__law_draw b__law_draw .nil pass0 (pa_cons (pv 0) (pa_cons pe_int pa_nil)))) pa_nil)) (blkOk_by (own := [("c", 9)]) (N := ["state", "names", "most", "tables", "k", "parents", "t", "first", "columns", "c"]) (sc := defScope sFor) (by decide +kernel)) (fun _ _ _ _ _ => (pg_name (i := 9) scFor.nd rfl (Or.inl rfl))) (fun _ _ _ _ _ => pts_nil) (fun _ _ _ _ _ => (pe_ix (ixL K) (pv 1) (pe_op op_modN (pe_callTy call_int1 (by rfl) T.n_int (by decide +kernel) (pa_cons (pe_op op_add (pv 7) (pv 9)) pa_nil)) pe_int) (fun _ _ => rfl))))
      (pss_one (ps_expr (bmK K PySem.F.plainAttrs_list PySem.F.slot_list_append PySem.F.type_list_append mt_append (pv 3) (pa_cons (pe_tup (pa_cons (pe_ix (ixL K) (pv 1) (pv 4) (fun _ _ => rfl)) (pa_cons (pe_ix (ixL K) (pv 5) (pe_call G__law_draw hr__law_draw rfl m__law_draw k__law_draw b__law_draw .nil pass0 (pa_cons (pv 0) (pa_cons (pe_callB (lenSeq K) (by rfl) T.n_len (by decide +kernel) (pa_cons (pv 5) pa_nil)) pa_nil))) (fun _ _ => rfl)) (pa_cons (pv 8) pa_nil)))) pa_nil))))))))
    (pss_one (ps_ret (pv 3))))), ?_⟩
    refine q_asgL (el_lst ea_nil (by decide)) (fun ta H1 hta e1 h1 => ?_)
    have B1 := B.ex e1
    have ot := B.S.off hta
    refine q_rngW (w_cons (w_op (w_ev ev_c fun H2 e2 => w_draw (st := st) (l := l) (n := (m : Int)) (ea_cons (ev_var rfl) (ea_cons (ev_var rfl) ea_nil)) (B1.ex e2).S (by omega) (by omega) fun r H3 r0 rm e3 S3 => ⟨_, _, rfl, rfl, w_nil ⟨1 + r, rfl, by omega, by omega, ?_⟩⟩)))
    have B3 := (B1.ex e2).ext e3 S3
    have e03 : Ext st l H H3 := (Ext.same (e1.trans e2)).trans e3
    have h3 := e3 _ _ ot.1 ot.2 (e2 _ _ h1)
    have offp : ∀ {ps : List (Addr × Addr)}, (∀ q ∈ ps, H q.1 = none ∧ H q.2 = none) → ∀ q ∈ ps, (q.1 ≠ st ∧ q.1 ≠ l) ∧ (q.2 ≠ st ∧ q.2 ≠ l) := fun h q hq => ⟨B.S.off (h q hq).1, B.S.off (h q hq).2⟩
    refine w_rng (fun i σ' H' => ∃ v4 v5 v7 v8 ps tb, σ' = [some (.ref st), some (.ref nm), some (.int (m : Int)), some (.ref ta), v4, v5, none, v7, v8, none] ∧ B8 st l nm (ws ++ ex) H' ∧ Ext st l H H' ∧ LT H' ta ps tb ∧ Frs ws tb ∧ tb.length = i ∧ (∀ q ∈ ps, H q.1 = none ∧ H q.2 = none) ∧ (∀ q ∈ ps, q.2 ≠ ta))
      ⟨none, none, none, none, [], [], rfl, B3, e03, ⟨h3, rfl, fun i h => absurd h (Nat.not_lt_zero i), fun i h => absurd h (Nat.not_lt_zero i)⟩, Frs.nil, rfl, (fun _ z => (nomatch z)), (fun _ z => (nomatch z))⟩ (fun i σ' H' hi p => ?_) (fun σ' H' p => ?_)
    · obtain ⟨v4, v5, v7, v8, ps, tb, rfl, B', e0, L, fr, lt, pf, pd⟩ := p
      have hi5 : i ≤ 5 := by omega
      have pof := offp pf
      have chE : ∀ {σ : L2.St} {H4 : Hp} {E : XK} (j : Nat) (hj : j < tb.length), Ex H' H4 → σ[3]? = some (some (.ref ta)) → σ[6]? = some (some (.int (j : Int))) → EvL (tCall (spGch 5) [] E (tCons (tVar 3) (tCons (tVar 6) tNil))) σ H4 ((chI tb 5 j).map fun (j : Nat) => V.int (j : Int)) := fun {σ H4 E} j hj e4 h3' h6' => fun H7 e7 Q1 q1 =>
        w_call (w_eva (ea_cons (ev_var h3') (ea_cons (ev_var h6') ea_nil)) fun H8 e8 => ⟨ta, ps, tb, j, rfl, L.ex (e4.trans (e7.trans e8)), fr.wf, hj, by omega, by decide, fun p H9 e9 hp h9 => q1 p H9 (fresh_back e8 hp) (e8.trans e9) h9⟩)
      refine q_asgL (el_catLL (xs := [.int (-1)]) (zs := given i (fun t => decide ((chI tb 5 t).length < 4)) fun t => V.int (t : Int)) (el_lst (ea_cons (ev_un ev_c ru_neg) ea_nil) (by show 1 ≤ 100000; decide)) (el_lcR1 (n := (i : Int)) (fun t => decide ((chI tb 5 t).length < 4)) (fun t => V.int (t : Int)) (ea_cons (ev_var rfl) ea_nil) ⟨by omega, by omega⟩ (fun x => rfl) (fun t H4 e4 ht => et_test (ev_is (ev_op (ev_lenN (chE t (by omega) e4 rfl rfl)) ev_c rv_I0) (congrArg V.bl (decide_eq_decide.mpr (by rw [List.length_map]; show ((_ : Int) < 4) ↔ _; omega))))) (fun t H4 e4 ht _ => ev_var rfl)) ?_) (fun pa H4 hpa e4 h4 => ?_)
      · have : (given i (fun t => decide ((chI tb 5 t).length < 4)) fun t => V.int (t : Int)).length ≤ i := by
          unfold given
          rw [List.length_map]
          exact Nat.le_trans (List.length_filter_le _ _) (by rw [List.length_range]; exact Nat.le_refl _)
        show 1 + _ ≤ 100000
        omega
      have B4 := B'.ex e4
      have opa := B'.S.off hpa
      refine q_draw (st := st) (l := l) (n := 12) (ea_cons (ev_var rfl) (ea_cons ev_c ea_nil)) B4.S (by decide) (by decide) (fun f0 H5 f1 f2 e5 S5 => ?_)
      obtain ⟨fi, rfl⟩ : ∃ n : Nat, f0 = n := ⟨f0.toNat, by omega⟩
      have B5 := B4.ext e5 S5
      refine q_set (w_lcRW (w_cons (w_op (w_ev ev_c fun H6 e6 => w_draw (st := st) (l := l) (n := 4) (ea_cons (ev_var rfl) (ea_cons ev_c ea_nil)) (B5.ex e6).S (by decide) (by decide) fun r2 H7 r20 r24 e7 S7 => ⟨_, _, rfl, rfl, w_nil ⟨1 + r2, rfl, by omega, by omega, ?_⟩⟩))))
      have B7 := (B5.ex e6).ext e7 S7
      obtain ⟨cn, hcn⟩ : ∃ n : Nat, (1 : Int) + r2 = n := ⟨(1 + r2).toNat, by omega⟩
      rw [show ((1 : Int) + r2).toNat = cn by omega]
      have e07 : Ext st l H' H7 := (Ext.same e4).trans (e5.trans ((Ext.same e6).trans e7))
      refine w_evl (el_is (el_lcI (n := cn) (fun c => V.str (ws.getD ((fi + c) % 12) "")) (by omega) (fun x => wipe1 _ _ _) (fun c H8 e8 hc => ?_)) (ys := (colsN ws fi cn).map V.str) ?_) (fun co H8 hco e8 h8 => ?_)
      · refine ev_op (ev_var rfl) (ev_op (ev_cb (ea_cons (ev_op (ev_var rfl) (ev_var rfl) rv_I0) ea_nil) rc_int) ev_c (rv_I (by decide))) (rv_ixL (SqL.of (B7.ex e8).n) (atI_n (j := (fi + c) % 12) ?_ (getD_ex (by rw [W.len]; exact Nat.mod_lt _ (by decide)))))
        have : ((fi : Int) + (c : Int)) = ((fi + c : Nat) : Int) := by omega
        rw [this]
        exact (Int.fmod_eq_emod_of_nonneg _ (by decide))
      · unfold colsN
        rw [List.map_map]
        rfl
      · have B8' := B7.ex e8
        have e08 := e07.trans (Ext.same e8)
        have L8 := L.ext e08 ot pof
        have hp8 := ((e5.trans ((Ext.same e6).trans e7)).trans (Ext.same e8)) _ _ opa.1 opa.2 h4
        dsimp only
        refine w_appS L8.l (ev_var rfl) (fun H9 e9 => ?_)
        have B9' := B8'.ex e9
        -- the tuple
        refine w_tup (w_cons (w_ev (ev_op (ev_var rfl) (ev_var rfl) (rv_ixL (SqL.of B9'.n) (atI_n (j := i) rfl (getD_ex (by rw [W.len]; omega))))) fun H10 e10 => w_cons (w_op (w_ev (ev_var rfl) fun H11 e11 => ?_))))
        let pl : List Int := -1 :: ((List.range i).filter fun t => decide ((chI tb 5 t).length < 4)).map fun (t : Nat) => (t : Int)
        have hpl : [V.int (-1)] ++ given i (fun t => decide ((chI tb 5 t).length < 4)) (fun t => V.int (t : Int)) = pl.map V.int := by
          show V.int (-1) :: given _ _ _ = V.int (-1) :: _
          unfold given
          rw [List.map_map]
          rfl
        rw [hpl] at hp8
        have hp11 := (e9.trans (e10.trans e11)) _ _ hp8
        have plp : 0 < pl.length := Nat.succ_pos _
        have pll : pl.length ≤ 6 := by
          show _ + 1 ≤ 6
          rw [List.length_map]
          have := List.length_filter_le (fun t => decide ((chI tb 5 t).length < 4)) (List.range i)
          rw [List.length_range] at this
          omega
        refine w_draw (st := st) (l := l) (n := (pl.length : Int)) (ea_cons (ev_var rfl) (ea_cons (ev_is (ev_lenA (ev_var rfl) (.inl (SqL.of hp11))) (by rw [List.length_map])) ea_nil)) (B9'.ex (e10.trans e11)).S (by omega) (by omega) (fun r3 H12 r30 r3m e12 S12 => ?_)
        have B12 := (B9'.ex (e10.trans e11)).ext e12 S12
        have hp12 := e12 _ _ opa.1 opa.2 hp11
        obtain ⟨q, rfl⟩ : ∃ n : Nat, r3 = n := ⟨r3.toNat, by omega⟩
        have hq : q < pl.length := by omega
        refine ⟨pa, pl.map V.int, (q : Int), V.int pl[q], rfl, rfl, SqL.of hp12, atI_n rfl (by rw [List.getElem?_map, List.getElem?_eq_getElem hq]; rfl), ?_⟩
        refine w_cons (w_ev (ev_var rfl) fun H13 e13 => w_nil ⟨by show 3 ≤ sizeLine; decide, fun p hp => ?_⟩)
        have e013 : Ext st l H8 H13 := ((Ext.same (e9.trans (e10.trans e11))).trans e12).trans (Ext.same e13)
        have oc : co ≠ st ∧ co ≠ l := B7.S.off hco
        have h13 := e013 _ _ oc.1 oc.2 h8
        have e0p := (e0.trans e08).trans e013
        have B13 := B12.ex e13
        have L13 := L8.ext e013 ot pof
        -- the parent
        obtain ⟨par, hpar, hpx⟩ : ∃ par : Option Str, (par = none ∨ ∃ j, ∃ hj : j < tb.length, par = some tb[j].nm ∧ (chainF tb j tb[j].nm).length < 4) ∧ pl[q] = pix tb ⟨ws.getD tb.length "", par, colsN ws fi cn, []⟩ := by
          rcases List.mem_cons.mp (List.getElem_mem hq) with z | z
          · exact ⟨none, .inl rfl, z⟩
          · obtain ⟨j, hj, ej⟩ := List.mem_map.mp z
            obtain ⟨hj1, hj2⟩ := List.mem_filter.mp hj
            have hj1 := List.mem_range.mp hj1
            have hjt : j < tb.length := by omega
            refine ⟨some tb[j].nm, .inr ⟨j, hjt, rfl, ?_⟩, ?_⟩
            · rw [← chI_len fr.wf 5 j hjt (by omega)]
              exact of_decide_eq_true hj2
            · rw [← ej]
              unfold pix
              dsimp only
              rw [nmIx_at fr.wf hjt]
        have kp : ∀ y, par = some y → known tb y = true := fun y e => by
          rcases hpar with z | ⟨j, hj, z, _⟩
          · rw [z] at e; cases e
          · rw [z] at e; rw [← Option.some.inj e]; exact known_of hj
        have hco0 : H co = none := fresh_ext B.S (e0.trans e07) B7.S hco
        subst lt
        have hp0 : H p = none := fresh_ext B.S e0p B13.S hp
        have eP : Ex H13 (upd H13 p (.tup [.str (ws.getD tb.length ""), .int pl[q], .ref co])) := Ex.new hp
        have LP := L13.ex eP
        have cne : co ≠ ta := fun z => by have q := (L.ext e07 ot pof).l; rw [← z, hco] at q; cases q
        have fin := LP.snoc fr.wf (t := ⟨ws.getD tb.length "", par, colsN ws fi cn, []⟩) (p := p) (c := co) (x := pl[q]) hpx kp upd_same (eP _ _ h13) pd cne
        refine ⟨ta, _, _, rfl, rfl, LP.l, sz_lt (by rw [List.length_map, LP.n]; omega), ?_⟩
        refine ⟨_, _, _, _, ps ++ [(p, co)], tb ++ [⟨ws.getD tb.length "", par, colsN ws fi cn, []⟩], rfl, ⟨st_upd (B13.ex eP).S ot, by rw [upd_ne (fun z => by have q := B.n; rw [z, hta] at q; cases q)]; exact (B13.ex eP).n, B13.on⟩, (fun b u h1 h2 hb => by rw [upd_ne (ne_of_none hb hta)]; exact (e0p.trans (Ext.same eP)) b u h1 h2 hb), fin, ?_, by rw [List.length_append]; rfl, fun z hz => (List.mem_append.mp hz).elim (pf z) fun y => by rw [List.mem_singleton.mp y]; exact ⟨hp0, hco0⟩, fun z hz => (List.mem_append.mp hz).elim (pd z) fun y => by rw [List.mem_singleton.mp y]; exact cne⟩
        · exact fr.snoc W (by omega) hpar ⟨by rw [cols_len]; omega, by rw [cols_len]; omega, cols_nd W.len W.nd (by omega), cols_mem W.len⟩
    · obtain ⟨v4, v5, v7, v8, ps, tb, rfl, B', e0, L, fr, lt, pf, pd⟩ := p
      refine w_ret (w_ev (ev_var rfl) fun H4 e4 => k ta ps tb H4 (e0.trans (Ext.same e4)) (B'.ex e4).S (L.ex e4) fr (by omega) (by omega) hta pf pd)
end
end My

namespace My
open PySem PySem.Spec PyProof.Rows L2 Evl
/-! ### positions, as the law works them out -/
def plc (tb : List Tb) : Nat → Nat → List Str
  | 0, i => ((tb[i]?).map (·.cols)).getD []
  | d + 1, i => ((tb[i]?).map (·.cols)).getD [] ++ match (tb[i]?).bind (·.par) with
    | none => []
    | some p => (plc tb d (nmIx tb p)).map fun x => p ++ "." ++ x
theorem plc_none {tb : List Tb} {d i : Nat} (h : i < tb.length) (hp : tb[i].par = none) : plc tb d i = tb[i].cols := by
  cases d with
  | zero => unfold plc; rw [List.getElem?_eq_getElem h]; rfl
  | succ d => unfold plc; rw [List.getElem?_eq_getElem h, Option.bind_some, hp]; simp
theorem plc_some {tb : List Tb} {d i j : Nat} (w : WF tb) (h : i < tb.length) (hj : j < tb.length) (hp : tb[i].par = some tb[j].nm) : plc tb (d + 1) i = tb[i].cols ++ (plc tb d j).map fun x => tb[j].nm ++ "." ++ x := by
  conv => lhs; unfold plc
  rw [List.getElem?_eq_getElem h, Option.bind_some, hp]
  dsimp only
  rw [nmIx_at w hj]
  rfl
theorem Frs.nm12 {ws : List Str} {tb : List Tb} (W : Wsx ws) (f : Frs ws tb) {i : Nat} (h : i < tb.length) : tb[i].nm ∈ ws ∧ tb[i].nm.length ≤ 12 := by
  have m : tb[i].nm ∈ ws := by rw [f.nm i h]; exact getD_mem (by rw [W.len]; have := f.six; omega)
  exact ⟨m, (W.pl m).2⟩
theorem plc_len {ws : List Str} {tb : List Tb} (W : Wsx ws) (f : Frs ws tb) : ∀ d i (h : i < tb.length), ∀ x ∈ plc tb d i, x.length ≤ 13 * (d + 1) := by
  intro d
  induction d with
  | zero =>
    intro i h x hx
    unfold plc at hx
    rw [List.getElem?_eq_getElem h] at hx
    have := (W.pl ((f.cols i h).2.2.2 x hx)).2
    omega
  | succ d ih =>
    intro i h x hx
    rcases pix_par f.wf h with ⟨hp, _⟩ | ⟨j, hj, lt, hp, _⟩
    · rw [plc_none h hp] at hx
      have := (W.pl ((f.cols i h).2.2.2 x hx)).2
      omega
    · rw [plc_some f.wf h hj hp] at hx
      rcases List.mem_append.mp hx with z | z
      · have := (W.pl ((f.cols i h).2.2.2 x z)).2
        omega
      · obtain ⟨y, hy, rfl⟩ := List.mem_map.mp z
        have a1 := ih j hj y hy
        have a2 := (f.nm12 W hj).2
        rw [app_len, app_len]
        show _ + 1 + _ ≤ _
        omega
theorem plc_few {ws : List Str} {tb : List Tb} (f : Frs ws tb) : ∀ d i (h : i < tb.length), (plc tb d i).length ≤ 4 * (d + 1) ∧ 1 ≤ (plc tb d i).length := by
  intro d
  induction d with
  | zero =>
    intro i h
    unfold plc
    rw [List.getElem?_eq_getElem h]
    have := f.cols i h
    exact ⟨this.2.1, this.1⟩
  | succ d ih =>
    intro i h
    have c := f.cols i h
    rcases pix_par f.wf h with ⟨hp, _⟩ | ⟨j, hj, lt, hp, _⟩
    · rw [plc_none h hp]
      omega
    · rw [plc_some f.wf h hj hp, List.length_append, List.length_map]
      have := ih j hj
      omega
def spGpl (d : Nat) : Sp := fun vs H Q _ => ∃ (a : Addr) (ws : List Str) (ps : List (Addr × Addr)) (tb : List Tb) (i : Nat), vs = [.ref a, .int (i : Int)] ∧ LT H a ps tb ∧ Wsx ws ∧ Frs ws tb ∧ i < tb.length ∧ i ≤ d ∧ d ≤ 20 ∧
  ∀ (p : Addr) (H' : Hp), Ex H H' → H p = none → H' p = some (.lst ((plc tb d i).map V.str)) → Q (.ref p) H'
structure TGpl (mg : Str → Option Value) : Prop where
  n_list : mg "list" = none
section
variable {K : PySem.W.Frag} {σ : L2.St} {H : Hp} {tl te : TE} {j : Nat} {vs : List Nat}
theorem el_mapN {xs : List Str} (g : Str → V) (n : xs.length ≤ 40000) (hl : EvL tl σ H (xs.map V.str)) (hw : ∀ x, wipe ((wipe σ vs).set j (some x)) vs = wipe σ vs) (he : ∀ m ∈ xs, ∀ H1, Ex H H1 → Ev te ((wipe σ vs).set j (some (.str m))) H1 (g m)) :
    EvL (tLc (iList K tl) (gName j) tYes te vs) σ H (xs.map g) := by
  have e : given xs.length (fun _ => true) (fun i => g (xs.getD i "")) = xs.map g := by
    rw [given_map]
    apply List.ext_getElem
    · simp
    · intro i h1 h2
      simp at h2
      simp [List.getD_eq_getElem?_getD, List.getElem?_eq_getElem h2]
  rw [← e]
  refine el_lcW (n := xs.length) (fun _ => true) (fun i => g (xs.getD i "")) n (fun i x => (xs.map V.str)[i]? = some x) (fun H1 e1 R k => hl H1 e1 _ fun p H2 hp e2 h2 => ⟨p, rfl, ⟨_, sq_of h2⟩, k _ H2 e2 ⟨fun H3 => SqL K H3 p (xs.map V.str), by have q := walk_list (K := K) (a := p) (xs := xs.map V.str); rw [List.length_map] at q; exact q, fun H3 e3 => ex_l e3 (sq_of h2)⟩⟩) hw (fun _ _ _ _ _ _ => et_yes) (fun i x H1 e1 hlt hx _ => ?_)
  rw [List.getElem?_map, List.getElem?_eq_getElem hlt] at hx
  obtain rfl : x = V.str xs[i] := (Option.some.inj hx).symm
  rw [List.getD_eq_getElem?_getD, List.getElem?_eq_getElem hlt]
  exact he _ (List.getElem_mem hlt) H1 e1
end
section
variable {P : Program} {w : World} {K : PySem.W.Frag} {mg : Str → Option Value} {base : Heap}
end
end My

namespace My
open PySem PySem.Spec PyProof.Rows L2 Evl
/-! ### the line of a table; owners are drawn -/
abbrev sTLn : Stmt := top 53
theorem scTLn : FnScope ["tb", "t", "name", "parent", "columns"] ["tb", "t"] (defScope sTLn) := ⟨rfl, rfl, rfl, by decide +kernel, rfl, by decide +kernel, by decide +kernel⟩
def tabRow (t : Tb) : List Str := hdP t.nm t.par ++ t.cols
def spTLn (K : PySem.W.Frag) : Sp := fun vs H Q _ => ∃ (a : Addr) (ws : List Str) (ps : List (Addr × Addr)) (tb : List Tb) (i : Nat), vs = [.ref a, .int (i : Int)] ∧ LT H a ps tb ∧ Wsx ws ∧ Frs ws tb ∧ ∃ h : i < tb.length,
  ∀ (H' : Hp), Ex H H' → Q (.str (rowS (tabRow tb[i]))) H'
/-- tuples of a number and a position -/
structure OT (H : Hp) (oa : Addr) (qs : List Addr) (ow : List (Nat × Str)) : Prop where
  l : H oa = some (.lst (qs.map V.ref))
  r : Paired (fun q (x : Nat × Str) => H q = some (.tup [.int (x.1 : Int), .str x.2])) qs ow
theorem OT.ex {H H' : Hp} {oa : Addr} {qs : List Addr} {ow : List (Nat × Str)} (e : Ex H H') (h : OT H oa qs ow) : OT H' oa qs ow := ⟨e _ _ h.l, Paired.mapP h.r fun _ _ z => e _ _ z⟩
theorem OT.ext {st l : Addr} {H H' : Hp} {oa : Addr} {qs : List Addr} {ow : List (Nat × Str)} (h : OT H oa qs ow) (e : Ext st l H H') (ho : oa ≠ st ∧ oa ≠ l) (hq : ∀ q ∈ qs, q ≠ st ∧ q ≠ l) : OT H' oa qs ow := by
  refine ⟨e _ _ ho.1 ho.2 h.l, ?_⟩
  have r := h.r
  clear h
  induction r with
  | nil => exact .nil
  | cons a t ih => exact .cons (e _ _ (hq _ (List.mem_cons_self ..)).1 (hq _ (List.mem_cons_self ..)).2 a) (ih fun q hm => hq q (List.mem_cons_of_mem _ hm))
structure OwOk (tb : List Tb) (ow : List (Nat × Str)) : Prop where
  nd : (ow.map (·.1)).Nodup
  ok : ∀ x ∈ ow, x.1 < tb.length ∧ x.2 ∈ plc tb 5 x.1
def spGow (K : PySem.W.Frag) : Sp := fun vs H Q _ => ∃ (st l a : Addr) (ws : List Str) (ps : List (Addr × Addr)) (tb : List Tb), vs = [.ref st, .ref a] ∧ StAt H st l ∧ LT H a ps tb ∧ (a ≠ st ∧ a ≠ l) ∧ (∀ q ∈ ps, (q.1 ≠ st ∧ q.1 ≠ l) ∧ (q.2 ≠ st ∧ q.2 ≠ l)) ∧ Wsx ws ∧ Frs ws tb ∧
  ∀ (oa : Addr) (qs : List Addr) (ow : List (Nat × Str)) (H' : Hp), Ext st l H H' → StAt H' st l → OT H' oa qs ow → OwOk tb ow → ow.length ≤ 6 → H oa = none → (∀ q ∈ qs, H q = none) → Q (.ref oa) H'
theorem LT.off_new {H : Hp} {a o : Addr} {ps : List (Addr × Addr)} {tb : List Tb} (L : LT H a ps tb) (ho : H o = none) : o ≠ a ∧ ∀ p ∈ ps, o ≠ p.1 ∧ o ≠ p.2 := by
  refine ⟨fun z => (by rw [z, L.l] at ho; cases ho), fun p hp => ?_⟩
  obtain ⟨i, hi, rfl⟩ := List.mem_iff_getElem.mp hp
  have hi' : i < tb.length := by rw [← L.n]; exact hi
  exact ⟨fun z => (by rw [z, L.tup i hi' hi] at ho; cases ho), fun z => (by rw [z, L.cols i hi' hi] at ho; cases ho)⟩
structure TGow (mg : Str → Option Value) : Prop where
  n_range : mg "range" = none
  n_len : mg "len" = none
section
variable {P : Program} {w : World} {K : PySem.W.Frag} {mg : Str → Option Value} {base : Heap}
theorem ok_tln {f : Addr} {fd : FuncData} (F : Fun K "_law_table_line" "_law_table_line" sTLn f fd) : FnOk P w K mg base CX0 1 f fd ["tb", "t"] (spTLn K) := by
  refine F.ok scTLn (fun vs H Q E h => ?_) (fun cdv A outer s H vs Q E hr h => ?_)
  · obtain ⟨a, ws, ps, tb, i, rfl, _⟩ := h
    rfl
  · obtain ⟨a, ws, ps, tb, i, rfl, L, W, fr, hi, k⟩ := h
    refine ⟨_, (pss_cons (ps_asg (pe_ix (ixL K) (pv 0) (pv 1) (fun _ _ => rfl)) (pg_tup rfl (pgs_cons (pg_name (i := 2) scTLn.nd rfl (Or.inl rfl)) (pgs_cons (pg_name (i := 3) scTLn.nd rfl (Or.inl rfl)) (pgs_cons (pg_name (i := 4) scTLn.nd rfl (Or.inl rfl)) pgs_nil)))))
    (pss_one (ps_ret (bmK K PySem.F.plainAttrs_str PySem.F.slot_str_join PySem.F.type_str_join (mtJoinK K) pe_str (pa_cons (pe_op op_cat (pe_ifExp (pt_cmpR op_lt (pv 3) pe_int (nomark _)) (pe_lst (pa_cons pe_str (pa_cons (pv 2) pa_nil))) (pe_lst (pa_cons pe_str (pa_cons (pv 2) (pa_cons (pe_ix (ixT K) (pe_ix (ixL K) (pv 0) (pv 3) (fun _ _ => rfl)) pe_int (fun _ _ => rfl)) pa_nil))))) (pv 4)) pa_nil))))), ?_⟩
    refine w_seq (w_asg (w_ev (ev_rowT L hi rfl (ev_var rfl) (ev_var rfl)) fun H1 e1 => ⟨_, _, rfl, st_of (e1 _ _ (L.tupD hi).1), rfl, _, _, rfl, _, _, rfl, _, _, rfl, rfl, ?_⟩))
    have L1 := L.ex e1
    have n12 := (fr.nm12 W hi).2
    have c4 := fr.cols i hi
    have hd : ∀ {σ : L2.St}, σ[0]? = some (some (.ref a)) → σ[2]? = some (some (.str tb[i].nm)) → σ[3]? = some (some (.int (pix tb tb[i]))) → EvL (tIf (tTest (tOp (rI0 fun i j => .bl (decide (i < j))) (tVar 3) (tC (.int 0)))) (tLst (tCons (tC (.str "root")) (tCons (tVar 2) tNil))) (tLst (tCons (tC (.str "table")) (tCons (tVar 2) (tCons (tOp (rIxT K) (tOp (rIxL K) (tVar 0) (tVar 3)) (tC (.int 0))) tNil))))) σ H1 ((hdP tb[i].nm tb[i].par).map V.str) := fun {σ} h0 h2 h3 => by
      rcases pix_par fr.wf hi with ⟨hp, hx⟩ | ⟨j, hj, lt, hp, hx⟩
      · rw [hp]
        exact el_if (b := true) (et_test (ev_is (ev_op (ev_is (ev_var h3) (congrArg V.int hx)) ev_c rv_I0) rfl)) (fun _ => el_lst (ea_cons ev_c (ea_cons (ev_var h2) ea_nil)) (by show 2 ≤ 100000; decide)) (fun z => nomatch z)
      · rw [hp]
        exact el_if (b := false) (et_test (ev_is (ev_op (ev_is (ev_var h3) (congrArg V.int hx)) ev_c rv_I0) (congrArg V.bl (decide_eq_false (by show ¬ ((j : Int) < 0); omega))))) (fun z => nomatch z) (fun _ => el_lst (ea_cons ev_c (ea_cons (ev_var h2) (ea_cons (ev_nmT L1 hj rfl (ev_var h0) (ev_is (ev_var h3) (congrArg V.int hx))) ea_nil))) (by show 3 ≤ 100000; decide))
    have hl : (hdP tb[i].nm tb[i].par).length ≤ 3 := by cases tb[i].par <;> simp [hdP]
    have pm : ∀ p, tb[i].par = some p → p ∈ ws := fun p e => by
      obtain ⟨j, hj, lt, rfl⟩ := fr.wf.par i hi p e
      exact (fr.nm12 W hj).1
    have hdl := hd_pl W (fr.nm12 W hi).1 pm
    refine w_ret (w_ev (ev_joinL (K := K) (a := " ") (ys := tabRow tb[i]) ev_c (el_is (el_catLV (hd rfl rfl rfl) (ev_var rfl) (L1.tupD hi).2 (by rw [List.length_map, List.length_map]; omega)) (by unfold tabRow; rw [List.map_append])) ?_) fun H2 e2 => k H2 (e1.trans e2))
    have q := lens_sum (ys := tabRow tb[i]) (n := 12) (fun x hx => (List.mem_append.mp hx).elim (fun z => (hdl.1 x z).2) fun z => (W.pl (c4.2.2.2 x z)).2)
    have ll : (tabRow tb[i]).length ≤ 7 := by unfold tabRow; rw [List.length_append]; omega
    show _ + _ * 1 ≤ 16777216
    omega
end
end My

namespace My
open PySem PySem.Spec PyProof.Rows L2 Evl
/-! ### follow lines are drawn -/
/-- tuples of a number and two columns -/
structure FT (H : Hp) (oa : Addr) (qs : List Addr) (fl : List (Nat × Str × Str)) : Prop where
  l : H oa = some (.lst (qs.map V.ref))
  r : Paired (fun q (x : Nat × Str × Str) => H q = some (.tup [.int (x.1 : Int), .str x.2.1, .str x.2.2])) qs fl
theorem FT.ex {H H' : Hp} {oa : Addr} {qs : List Addr} {ow : List (Nat × Str × Str)} (e : Ex H H') (h : FT H oa qs ow) : FT H' oa qs ow := ⟨e _ _ h.l, Paired.mapP h.r fun _ _ z => e _ _ z⟩
theorem FT.ext {st l : Addr} {H H' : Hp} {oa : Addr} {qs : List Addr} {ow : List (Nat × Str × Str)} (h : FT H oa qs ow) (e : Ext st l H H') (ho : oa ≠ st ∧ oa ≠ l) (hq : ∀ q ∈ qs, q ≠ st ∧ q ≠ l) : FT H' oa qs ow := by
  refine ⟨e _ _ ho.1 ho.2 h.l, ?_⟩
  have r := h.r
  clear h
  induction r with
  | nil => exact .nil
  | cons a t ih => exact .cons (e _ _ (hq _ (List.mem_cons_self ..)).1 (hq _ (List.mem_cons_self ..)).2 a) (ih fun q hm => hq q (List.mem_cons_of_mem _ hm))
structure FoOk (tb : List Tb) (fl : List (Nat × Str × Str)) : Prop where
  nd : (fl.map fun x => (x.1, x.2.1)).Nodup
  ok : ∀ x ∈ fl, ∃ h : x.1 < tb.length, x.2.1 ∈ tb[x.1].cols ∧ ∃ j, ∃ hj : j < tb.length, j < x.1 ∧ tb[x.1].par = some tb[j].nm ∧ x.2.2 ∈ tb[j].cols
def spGfo (K : PySem.W.Frag) : Sp := fun vs H Q _ => ∃ (st l a : Addr) (ws : List Str) (ps : List (Addr × Addr)) (tb : List Tb) (ch : Nat), vs = [.ref st, .ref a, .int (ch : Int)] ∧ StAt H st l ∧ LT H a ps tb ∧ (a ≠ st ∧ a ≠ l) ∧ (∀ q ∈ ps, (q.1 ≠ st ∧ q.1 ≠ l) ∧ (q.2 ≠ st ∧ q.2 ≠ l)) ∧ Wsx ws ∧ Frs ws tb ∧ 1 ≤ ch ∧ ch ≤ 100 ∧
  ∀ (oa : Addr) (qs : List Addr) (fl : List (Nat × Str × Str)) (H' : Hp), Ext st l H H' → StAt H' st l → FT H' oa qs fl → FoOk tb fl → fl.length ≤ 24 → H oa = none → (∀ q ∈ qs, H q = none) → Q (.ref oa) H'
section
variable {P : Program} {w : World} {K : PySem.W.Frag} {mg : Str → Option Value} {base : Heap}
/-- what stands within the loops -/
structure GI (H0 : Hp) (st l a o : Addr) (ps : List (Addr × Addr)) (tb : List Tb) (H : Hp) (qs : List Addr) (fl : List (Nat × Str × Str)) : Prop where
  S : StAt H st l
  e : Ext st l H0 H
  L : LT H a ps tb
  F : FT H o qs fl
  ok : FoOk tb fl
  pf : ∀ q ∈ qs, H0 q = none
theorem GI.ex {H0 : Hp} {st l a o : Addr} {ps : List (Addr × Addr)} {tb : List Tb} {H H' : Hp} {qs : List Addr} {fl : List (Nat × Str × Str)} (e : Ex H H') (g : GI H0 st l a o ps tb H qs fl) : GI H0 st l a o ps tb H' qs fl := ⟨g.S.same e, g.e.trans (Ext.same e), g.L.ex e, g.F.ex e, g.ok, g.pf⟩
end
end My

namespace My
open PySem PySem.Spec PyProof.Rows L2 Evl
/-! ### owner and follow lines -/
def nmT (tb : List Tb) (k : Nat) : Str := ((tb[k]?).map (·.nm)).getD ""
theorem nmT_at {tb : List Tb} {k : Nat} (h : k < tb.length) : nmT tb k = tb[k].nm := by unfold nmT; rw [List.getElem?_eq_getElem h]; rfl
def ownRow (tb : List Tb) (x : Nat × Str) : List Str := ["owner", nmT tb x.1, x.2]
def folRow (tb : List Tb) (x : Nat × Str × Str) : List Str := ["follow", nmT tb x.1, x.2.1, x.2.2]
def xRows (tb : List Tb) (ow : List (Nat × Str)) (fl : List (Nat × Str × Str)) (t : Nat) : List (List Str) := (ow.filter fun x => decide (x.1 = t)).map (ownRow tb) ++ (fl.filter fun x => decide (x.1 = t)).map (folRow tb)
theorem pg_tupK {X : Cx} (K : PySem.W.Frag) {es : List Expr} {k : Nat} {t : TGs} {n : Nat} {pos : Pos} (hc : X.calm = true) (h : PGs X es t) (hK : X.K = K := by rfl)
    (hn : (assignEach es X.env).length = n := by rfl) (hst : (assignEach es X.env).findIdx? (·.1) = none := by rfl) : PG X (.Tuple es k pos) (gTup K n t) := by subst hK; exact pg_tup hc h hn hst
theorem el_lcG {K : PySem.W.Frag} {σ : L2.St} {H : Hp} {tl te : TE} {t : TT} {g : TG} {vs : List Nat} {a : Addr} {xs : List V} (σi : Nat → L2.St) (f : Nat → Bool) (v : Nat → V) (hn : xs.length ≤ 40000) (hl : Ev tl σ H (.ref a)) (ha : SqL K H a xs)
    (hg : ∀ (i : Nat) (x : V) (H1 : Hp) (Q' : L2.St → Hp → Prop), Ex H H1 → i < xs.length → xs[i]? = some x → Q' (σi i) H1 → g x (wipe σ vs) H1 Q') (hw : ∀ i, i < xs.length → wipe (σi i) vs = wipe σ vs)
    (ht : ∀ i H1, Ex H H1 → i < xs.length → EvT t (σi i) H1 (f i)) (he : ∀ i H1, Ex H H1 → i < xs.length → f i = true → Ev te (σi i) H1 (v i)) : EvL (tLc (iList K tl) g t te vs) σ H (given xs.length f v) := fun H0 e Q q =>
  hl H0 e _ fun H2 e2 => ⟨a, rfl, ⟨xs, ex_l (e.trans e2) ha⟩, fun Dl hD =>
    lc_it (walk_list (K := K) (a := a) (xs := xs)) (Cw H2 f v Dl) ⟨hD, Ex.new hD, upd_same⟩ (fun i H' _ p => ex_l ((e.trans e2).trans p.2.1) ha) (fun i x H3 H' hi p y => by
      obtain ⟨rfl, hx⟩ := y
      exact hg i x _ _ ((e.trans e2).trans p.2.1) hi hx ⟨hw i hi, cw_turn p (by omega) (ht i H2 (e.trans e2) hi) (fun hf => he i H2 (e.trans e2) hi hf)⟩) (fun H' p => q Dl H' (fresh_back e2 p.1) (e2.trans p.2.1) p.2.2)⟩
theorem dec_nat (x y : Nat) : decide (V.int (x : Int) = V.int (y : Int)) = decide (x = y) := decide_eq_decide.mpr ⟨fun z => by injection z with z; omega, fun z => by rw [z]⟩
def spXL (K : PySem.W.Frag) : Sp := fun vs H Q _ => ∃ (a oa fa : Addr) (ws : List Str) (ps : List (Addr × Addr)) (tb : List Tb) (qs rs : List Addr) (ow : List (Nat × Str)) (fl : List (Nat × Str × Str)) (t : Nat), vs = [.ref a, .ref oa, .ref fa, .int (t : Int)] ∧ LT H a ps tb ∧ Wsx ws ∧ Frs ws tb ∧ OT H oa qs ow ∧ FT H fa rs fl ∧ OwOk tb ow ∧ FoOk tb fl ∧ ow.length ≤ 100 ∧ fl.length ≤ 100 ∧
  ∀ p H', Ex H H' → H p = none → H' p = some (.lst (((xRows tb ow fl t).map rowS).map V.str)) → Q (.ref p) H'
section
variable {P : Program} {w : World} {K : PySem.W.Frag} {mg : Str → Option Value} {base : Heap}
theorem own_row {n pl : Str} : rowS ["owner", n, pl] = "owner " ++ n ++ " " ++ pl := by
  have r : ("owner " : Str) = "owner" ++ " " := by decide +kernel
  rw [r]
  have a1 := rowS_glue ("owner" ++ " " ++ n) pl []
  have a2 := rowS_glue "owner" n [pl]
  rw [← a2, ← a1]
  rfl
theorem fol_row {x y z : Str} : rowS ["follow", x, y, z] = "follow " ++ x ++ " " ++ y ++ " " ++ z := by
  have r : ("follow " : Str) = "follow" ++ " " := by decide +kernel
  rw [r]
  have a1 := rowS_glue ("follow" ++ " " ++ x ++ " " ++ y) z []
  have a2 := rowS_glue ("follow" ++ " " ++ x) y [z]
  have a3 := rowS_glue "follow" x [y, z]
  rw [← a3, ← a2, ← a1]
  rfl
end
end My

namespace My
open PySem PySem.Spec PyProof.Rows L2 Evl
/-! ### what a line of any kind does -/
theorem lit_ne : ¬ ("roots" : Str) = "root" ∧ ¬ ("roots" : Str) = "table" ∧ ¬ ("roots" : Str) = "owner" ∧ ¬ ("roots" : Str) = "follow" ∧ ¬ ("owner" : Str) = "root" ∧ ¬ ("owner" : Str) = "table" ∧ ¬ ("follow" : Str) = "root" ∧ ¬ ("follow" : Str) = "table" ∧ ¬ ("follow" : Str) = "owner" ∧ ¬ ("table" : Str) = "root" := by decide +kernel
theorem pl_lit : ∀ x ∈ (["roots", "owner", "follow", "root", "table"] : List Str), Pl x := by
  have : ∀ x ∈ (["roots", "owner", "follow", "root", "table"] : List Str), ∀ c ∈ x.cps.toList, c ≠ 10 ∧ c ≠ 32 := by decide +kernel
  exact this
theorem no46 {n : Nat} {w : Str} (h : IsName n w) : 46 ∉ w.cps.toList := fun z => by
  have q := h.sg 46 z
  exact absurd q (by decide +kernel)
theorem dot_split {ws path : List Str} (W : Wsx ws) (ne : path ≠ []) (h : ∀ x ∈ path, x ∈ ws) : dotS (Txt.join "." path) = path :=
  TL.split_join (y := ".") (s := 46) (S := []) (by decide +kernel) (by decide +kernel) ne fun p hp z => no46 (W.ok p (h p hp)) z
theorem dot_pl {ws path : List Str} (W : Wsx ws) (h : ∀ x ∈ path, x ∈ ws) : Pl (Txt.join "." path) := fun c hc => by
  rw [TL.join_eq] at hc
  have hc : c ∈ TL.tl (Str.join "." path) := hc
  rw [TL.tl_join] at hc
  rcases mem_joinL hc with q | ⟨p, hp, hc⟩
  · have : ∀ c ∈ TL.tl ("." : Str), c ≠ 10 ∧ c ≠ 32 := by decide +kernel
    exact this c q
  · obtain ⟨w, hw, rfl⟩ := List.mem_map.mp hp
    exact (W.pl (h w hw)).1 c hc
theorem Wsx.isn {ws : List Str} (W : Wsx ws) {x : Str} (h : x ∈ ws) : isNm x = true := name_is (W.ok x h) (by decide)
theorem soup_fit {ws r : List Str} (W : Wsx ws) (h : Soup ws r) : r ≠ [] ∧ (r.map (·.length)).sum + r.length ≤ 800 ∧ ∀ x ∈ r, Pl x := by
  cases h with
  | bad x hx =>
    have l1 := (W.pl hx).2
    refine ⟨by simp, ?_, fun y hy => ?_⟩
    · show 5 + (x.length + 0) + 2 ≤ 800; omega
    · rcases List.mem_cons.mp hy with rfl | hy
      · exact pl_lit _ (by simp)
      · rw [List.mem_singleton.mp hy]; exact (W.pl hx).1
  | tab n par c hn hp ne hc hm =>
    have hd := hd_pl W hn hp
    have all : ∀ x ∈ hdP n par ++ c, Pl x ∧ x.length ≤ 12 := fun x hx => (List.mem_append.mp hx).elim (hd.1 x) fun z => W.pl (hm x z)
    refine ⟨fun z => ne (List.append_eq_nil_iff.mp z).2, ?_, fun x hx => (all x hx).1⟩
    have q := lens_sum (ys := hdP n par ++ c) (n := 12) (fun x hx => (all x hx).2)
    have := hd.2
    rw [List.length_append] at q ⊢
    omega
  | own n path hn ne hl hm =>
    have l1 := (W.pl hn).2
    have l2 := row_names hm W (by omega)
    have jl := join_len "." path
    have e : ("." : Str).length = 1 := rfl
    rw [e] at jl
    refine ⟨by simp, ?_, fun y hy => ?_⟩
    · show 5 + (n.length + ((Txt.join "." path).length + 0)) + 3 ≤ 800; omega
    · rcases List.mem_cons.mp hy with rfl | hy
      · exact pl_lit _ (by simp)
      · rcases List.mem_cons.mp hy with rfl | hy
        · exact (W.pl hn).1
        · rw [List.mem_singleton.mp hy]; exact dot_pl W hm
  | fol n c u hn hc hu =>
    have l1 := (W.pl hn).2
    have l2 := (W.pl hc).2
    have l3 := (W.pl hu).2
    refine ⟨by simp, ?_, fun y hy => ?_⟩
    · show 6 + (n.length + (c.length + (u.length + 0))) + 4 ≤ 800; omega
    · rcases List.mem_cons.mp hy with rfl | hy
      · exact pl_lit _ (by simp)
      · rcases List.mem_cons.mp hy with rfl | hy
        · exact (W.pl hn).1
        · rcases List.mem_cons.mp hy with rfl | hy
          · exact (W.pl hc).1
          · rw [List.mem_singleton.mp hy]; exact (W.pl hu).1
theorem soup_sz {ws r : List Str} (W : Wsx ws) (h : Soup ws r) : (rowS r).length ≤ 400 := by
  have jl := join_len " " r
  have e : (" " : Str).length = 1 := rfl
  rw [e] at jl
  have jl : (rowS r).length ≤ (r.map (·.length)).sum + r.length * 1 := jl
  cases h with
  | bad x hx =>
    have l1 := (W.pl hx).2
    have : ((["roots", x] : List Str).map (·.length)).sum = 5 + (x.length + 0) := rfl
    rw [this] at jl
    have jl : _ ≤ _ + 2 * 1 := jl
    omega
  | tab n par c hn hp ne hc hm =>
    have hd := hd_pl W hn hp
    have all : ∀ x ∈ hdP n par ++ c, Pl x ∧ x.length ≤ 12 := fun x hx => (List.mem_append.mp hx).elim (hd.1 x) fun z => W.pl (hm x z)
    have q := lens_sum (ys := hdP n par ++ c) (n := 12) (fun x hx => (all x hx).2)
    have := hd.2
    rw [List.length_append] at q jl
    omega
  | own n path hn ne hl hm =>
    have l1 := (W.pl hn).2
    have l2 := row_names hm W (by omega)
    have jl2 := join_len "." path
    have e : ("." : Str).length = 1 := rfl
    rw [e] at jl2
    have : ((["owner", n, Txt.join "." path] : List Str).map (·.length)).sum = 5 + (n.length + ((Txt.join "." path).length + 0)) := rfl
    rw [this] at jl
    have jl : _ ≤ _ + 3 * 1 := jl
    omega
  | fol n c u hn hc hu =>
    have l1 := (W.pl hn).2
    have l2 := (W.pl hc).2
    have l3 := (W.pl hu).2
    have : ((["follow", n, c, u] : List Str).map (·.length)).sum = 6 + (n.length + (c.length + (u.length + 0))) := rfl
    rw [this] at jl
    have jl : _ ≤ _ + 4 * 1 := jl
    omega
theorem rl_bad {s : Sm} {x : Str} : rl isNm s ["roots", x] = .inl .bad := by
  obtain ⟨h1, h2, h3, h4, _⟩ := lit_ne
  unfold rl formOk
  rw [if_neg (show ¬ (([("roots" : Str), x] : List Str).headD "" = "root") from h1), if_neg (show ¬ (([("roots" : Str), x] : List Str).headD "" = "table") from h2), if_neg (show ¬ (([("roots" : Str), x] : List Str).headD "" = "owner") from h3), if_neg (show ¬ (([("roots" : Str), x] : List Str).headD "" = "follow") from h4), if_neg Bool.false_ne_true]
theorem rl_headS {ws : List Str} (W : Wsx ws) {s : Sm} {n : Str} {par : Option Str} {c : List Str} (hn : n ∈ ws) (hp : ∀ p, par = some p → p ∈ ws) (ne : c ≠ []) (hc : ∀ x ∈ c, x ∈ ws) : rl isNm s (hdP n par ++ c) = rlTable s n par c := by
  have al : c.all isNm = true := List.all_eq_true.mpr fun x hx => W.isn (hc x hx)
  cases par with
  | none => exact rl_root (W.isn hn) al ne
  | some p => exact rl_table (W.isn hn) (W.isn (hp p rfl)) al ne
theorem rl_own {ws : List Str} (W : Wsx ws) {s : Sm} {n : Str} {path : List Str} (hn : n ∈ ws) (ne : path ≠ []) (hm : ∀ x ∈ path, x ∈ ws) : rl isNm s ["owner", n, Txt.join "." path] = rlOwner s n (Txt.join "." path) := by
  obtain ⟨_, _, _, _, h1, h2, _⟩ := lit_ne
  have f : formOk isNm ["owner", n, Txt.join "." path] = true := by
    unfold formOk
    rw [if_neg (show ¬ (([("owner" : Str), n, Txt.join "." path] : List Str).headD "" = "root") from h1), if_neg (show ¬ (([("owner" : Str), n, Txt.join "." path] : List Str).headD "" = "table") from h2), if_pos (show (([("owner" : Str), n, Txt.join "." path] : List Str).headD "" = "owner") from rfl)]
    show (true && (isNm n && (dotS (Txt.join "." path)).all isNm)) = true
    rw [dot_split W ne hm, W.isn hn, List.all_eq_true.mpr fun x hx => W.isn (hm x hx)]
    rfl
  unfold rl
  rw [if_pos f]
  unfold rlOf
  rw [if_neg (show ¬ (([("owner" : Str), n, Txt.join "." path] : List Str).headD "" = "root") from h1), if_neg (show ¬ (([("owner" : Str), n, Txt.join "." path] : List Str).headD "" = "table") from h2), if_pos (show (([("owner" : Str), n, Txt.join "." path] : List Str).headD "" = "owner") from rfl)]
  rfl
theorem rl_fol {ws : List Str} (W : Wsx ws) {s : Sm} {n c u : Str} (hn : n ∈ ws) (hc : c ∈ ws) (hu : u ∈ ws) : rl isNm s ["follow", n, c, u] = rlFollow s n c u := by
  obtain ⟨_, _, _, _, _, _, h1, h2, h3, _⟩ := lit_ne
  have f : formOk isNm ["follow", n, c, u] = true := by
    unfold formOk
    rw [if_neg (show ¬ (([("follow" : Str), n, c, u] : List Str).headD "" = "root") from h1), if_neg (show ¬ (([("follow" : Str), n, c, u] : List Str).headD "" = "table") from h2), if_neg (show ¬ (([("follow" : Str), n, c, u] : List Str).headD "" = "owner") from h3), if_pos (show (([("follow" : Str), n, c, u] : List Str).headD "" = "follow") from rfl)]
    show (true && (isNm n && (isNm c && (isNm u && true)))) = true
    rw [W.isn hn, W.isn hc, W.isn hu]
    rfl
  unfold rl
  rw [if_pos f]
  unfold rlOf
  rw [if_neg (show ¬ (([("follow" : Str), n, c, u] : List Str).headD "" = "root") from h1), if_neg (show ¬ (([("follow" : Str), n, c, u] : List Str).headD "" = "table") from h2), if_neg (show ¬ (([("follow" : Str), n, c, u] : List Str).headD "" = "owner") from h3)]
  rfl
end My

namespace My
open PySem PySem.Spec PyProof.Rows L2 Evl
/-! ### the forest's lines are read -/
structure RI (ws : List Str) (tb : List Tb) (ow : List (Nat × Str)) (fl : List (Nat × Str × Str)) (n : Nat) (rows : List (List Str)) (s : Sm) (pO : Nat × Str → Prop) (pF : Nat × Str × Str → Prop) : Prop where
  rd : rd isNm 1 ⟨[], []⟩ rows = .inr s
  wf : WF s.tb
  ln : s.tb.length = n
  le : n ≤ tb.length
  core : ∀ i (h : i < s.tb.length) (h' : i < tb.length), s.tb[i].nm = tb[i].nm ∧ s.tb[i].par = tb[i].par ∧ s.tb[i].cols = tb[i].cols
  oA : ∀ x ∈ ow, pO x ∨ (nmT tb x.1, x.2) ∈ s.ow
  oB : ∀ y ∈ s.ow, ∃ x ∈ ow, ¬ pO x ∧ y = (nmT tb x.1, x.2)
  fB : ∀ t ∈ s.tb, ∀ y ∈ t.fol, ∃ x ∈ fl, ¬ pF x ∧ nmT tb x.1 = t.nm ∧ x.2 = y
  fA : ∀ x ∈ fl, pF x ∨ ∃ t ∈ s.tb, t.nm = nmT tb x.1 ∧ x.2 ∈ t.fol
  fit : ∀ r ∈ rows, r ≠ [] ∧ (r.map (·.length)).sum + r.length ≤ 800 ∧ ∀ w ∈ r, Pl w
  sz : ∀ r ∈ rows, (rowS r).length ≤ 400
theorem RI.nil {ws : List Str} {tb : List Tb} {ow : List (Nat × Str)} {fl : List (Nat × Str × Str)} : RI ws tb ow fl 0 [] ⟨[], []⟩ (fun x => x ∈ ow) (fun x => x ∈ fl) :=
  ⟨rfl, wf_nil, rfl, Nat.zero_le _, fun i h => absurd h (Nat.not_lt_zero i), fun x hx => .inl hx, (fun _ z => (nomatch z)), (fun _ z => (nomatch z)), (fun x hx => .inl hx), (fun _ z => (nomatch z)), (fun _ z => (nomatch z))⟩
theorem RI.congr {ws : List Str} {tb : List Tb} {ow : List (Nat × Str)} {fl : List (Nat × Str × Str)} {n : Nat} {rows : List (List Str)} {s : Sm} {pO pO' : Nat × Str → Prop} {pF pF' : Nat × Str × Str → Prop} (r : RI ws tb ow fl n rows s pO pF) (h1 : ∀ x ∈ ow, pO x ↔ pO' x) (h2 : ∀ x ∈ fl, pF x ↔ pF' x) : RI ws tb ow fl n rows s pO' pF' :=
  ⟨r.rd, r.wf, r.ln, r.le, r.core, fun x hx => (r.oA x hx).imp (h1 x hx).mp id, fun y hy => by obtain ⟨x, hx, a, b⟩ := r.oB y hy; exact ⟨x, hx, fun z => a ((h1 x hx).mpr z), b⟩, fun t ht c hc => by obtain ⟨x, hx, a, b⟩ := r.fB t ht c hc; exact ⟨x, hx, fun z => a ((h2 x hx).mpr z), b⟩, fun x hx => (r.fA x hx).imp (h2 x hx).mp id, r.fit, r.sz⟩
theorem rd_one {rows : List (List Str)} {s s' : Sm} {r : List Str} (h : rd isNm 1 ⟨[], []⟩ rows = .inr s) (hr : rl isNm s r = .inr s') : My.rd isNm 1 ⟨[], []⟩ (rows ++ [r]) = .inr s' := by
  rw [rd_app, h]
  dsimp only
  rw [rd_cons, hr]
  rfl
theorem nmT_inj {ws : List Str} {tb : List Tb} (W : Wsx ws) (f : Frs ws tb) {i j : Nat} (hi : i < tb.length) (hj : j < tb.length) (h : nmT tb i = nmT tb j) : i = j := by
  rw [nmT_at hi, nmT_at hj, f.nm i hi, f.nm j hj] at h
  have := f.six
  exact getD_inj W.nd (by rw [W.len]; omega) (by rw [W.len]; omega) h
section
variable {ws : List Str} {tb : List Tb} {ow : List (Nat × Str)} {fl : List (Nat × Str × Str)} {n : Nat} {rows : List (List Str)} {s : Sm} {pO : Nat × Str → Prop} {pF : Nat × Str × Str → Prop}
theorem RI.find (W : Wsx ws) (fr : Frs ws tb) (r : RI ws tb ow fl n rows s pO pF) {k : Nat} (hk : k < n) : ∃ h : k < s.tb.length, findT s.tb (nmT tb k) = some s.tb[k] ∧ known s.tb (nmT tb k) = true := by
  have h : k < s.tb.length := by rw [r.ln]; exact hk
  have h' : k < tb.length := Nat.lt_of_lt_of_le hk r.le
  have e := (r.core k h h').1
  rw [nmT_at h', ← e]
  exact ⟨h, find_at r.wf.nd h, known_of h⟩
theorem fit_snoc {rows : List (List Str)} {x : List Str} (a : ∀ r ∈ rows, r ≠ [] ∧ (r.map (·.length)).sum + r.length ≤ 800 ∧ ∀ w ∈ r, Pl w) (b : x ≠ [] ∧ (x.map (·.length)).sum + x.length ≤ 800 ∧ ∀ w ∈ x, Pl w) : ∀ r ∈ rows ++ [x], r ≠ [] ∧ (r.map (·.length)).sum + r.length ≤ 800 ∧ ∀ w ∈ r, Pl w := fun r hr =>
  (List.mem_append.mp hr).elim (a r) fun z => by rw [List.mem_singleton.mp z]; exact b
theorem sz_snoc {rows : List (List Str)} {x : List Str} (a : ∀ r ∈ rows, (rowS r).length ≤ 400) (b : (rowS x).length ≤ 400) : ∀ r ∈ rows ++ [x], (rowS r).length ≤ 400 := fun r hr => (List.mem_append.mp hr).elim (a r) fun z => by rw [List.mem_singleton.mp z]; exact b
/-- a table's line -/
theorem RI.tab (W : Wsx ws) (fr : Frs ws tb) (r : RI ws tb ow fl n rows s pO pF) (hn : n < tb.length) : ∃ s', RI ws tb ow fl (n + 1) (rows ++ [tabRow tb[n]]) s' pO pF := by
  have six := fr.six
  have nin := (fr.nm12 W hn).1
  have pm : ∀ p, tb[n].par = some p → p ∈ ws := fun p e => by
    obtain ⟨j, hj, lt, rfl⟩ := fr.wf.par n hn p e
    exact (fr.nm12 W hj).1
  have c := fr.cols n hn
  have cne : tb[n].cols ≠ [] := fun z => by have := c.1; rw [z] at this; simp at this
  have kn : known s.tb tb[n].nm = false := decide_eq_false fun z => by
    obtain ⟨t, ht, e⟩ := List.mem_map.mp z
    obtain ⟨i, hi, rfl⟩ := List.mem_iff_getElem.mp ht
    have hi' : i < tb.length := by have := r.ln; have := r.le; omega
    rw [(r.core i hi hi').1] at e
    have := nmT_inj W fr hi' hn (by rw [nmT_at hi', nmT_at hn]; exact e)
    have := r.ln
    omega
  have kp : ∀ p, tb[n].par = some p → known s.tb p = true := fun p e => by
    obtain ⟨j, hj, lt, rfl⟩ := fr.wf.par n hn p e
    obtain ⟨_, _, q⟩ := r.find W fr (k := j) lt
    rw [nmT_at hj] at q
    exact q
  have dn : dupIn [] tb[n].cols = none := dupIn_none [] _ c.2.2.1
  have wf' : WF (s.tb ++ [⟨tb[n].nm, tb[n].par, tb[n].cols, []⟩]) := wf_snoc r.wf kn kp
  -- the chain
  have chs : ∀ i, (h : i < s.tb.length) → (h' : i < tb.length) → chainF s.tb i s.tb[i].nm = chainF tb i tb[i].nm := by
    intro i
    induction i using Nat.strongRecOn with
    | _ i ih =>
      intro h h'
      have q := r.core i h h'
      cases hp : tb[i].par with
      | none => rw [chain_end r.wf h (by rw [q.2.1, hp]), chain_end fr.wf h' hp, q.1]
      | some p =>
        obtain ⟨j, hj, lt, rfl⟩ := fr.wf.par i h' p hp
        have hj' : j < s.tb.length := by omega
        have qj := r.core j hj' hj
        rw [chain_next r.wf h hj' lt (by rw [q.2.1, hp, qj.1]), chain_next fr.wf h' hj lt hp, q.1, ih j lt hj' hj]
  have chl : (chainT (s.tb ++ [⟨tb[n].nm, tb[n].par, tb[n].cols, []⟩]) tb[n].nm).length ≤ 4 := by
    have cn := fr.ch n hn
    rcases pix_par fr.wf hn with ⟨hp, _⟩ | ⟨j, hj, lt, hp, _⟩
    · rw [chain_root r.wf (t := ⟨tb[n].nm, tb[n].par, tb[n].cols, []⟩) kn hp]
      decide
    · have hj' : j < s.tb.length := by rw [r.ln]; exact lt
      have qj := r.core j hj' hj
      rw [chain_snoc r.wf (t := ⟨tb[n].nm, tb[n].par, tb[n].cols, []⟩) hj' kn (by show tb[n].par = _; rw [hp, qj.1]), chs j hj' hj]
      rw [chain_next fr.wf hn hj lt hp, List.length_cons] at cn
      exact cn
  have go := rlTable_go (s := s) (cols := tb[n].cols) kn kp
  rw [dn] at go
  dsimp only at go
  rw [if_neg (by have := r.ln; omega)] at go
  have hrl : rl isNm s (tabRow tb[n]) = .inr ⟨s.tb ++ [⟨tb[n].nm, tb[n].par, tb[n].cols, []⟩], s.ow⟩ := (rl_headS W nin pm cne c.2.2.2).trans go
  have sp := soup_fit W (Soup.tab tb[n].nm tb[n].par tb[n].cols nin pm cne (by omega) c.2.2.2)
  refine ⟨_, rd_one r.rd hrl, wf', by rw [List.length_append, r.ln]; rfl, hn, fun i h h' => ?_, r.oA, r.oB, fun t ht cc hc => ?_, fun x hx => (r.fA x hx).imp id fun ⟨t, ht, q⟩ => ⟨t, List.mem_append_left _ ht, q⟩, fit_snoc r.fit sp, sz_snoc r.sz (soup_sz W (Soup.tab tb[n].nm tb[n].par tb[n].cols nin pm cne (by omega) c.2.2.2))⟩
  · by_cases z : i < s.tb.length
    · rw [List.getElem_append_left z]
      exact r.core i z h'
    · rw [List.length_append] at h
      have e : i = s.tb.length := by simp at h; omega
      subst e
      rw [List.getElem_append_right (Nat.le_refl _)]
      simp only [Nat.sub_self, List.getElem_cons_zero, r.ln, and_self]
  · rcases List.mem_append.mp ht with z | z
    · exact r.fB t z cc hc
    · rw [List.mem_singleton.mp z] at hc
      cases hc
theorem join_one (x : Str) : Txt.join "." [x] = x := by rw [TL.join_eq]; rfl
theorem join_cons (x y : Str) (r : List Str) : Txt.join "." (x :: y :: r) = x ++ "." ++ Txt.join "." (y :: r) := by
  rw [TL.join_eq, TL.join_eq]
  rfl
/-- a position of a table that is there is right -/
theorem RI.path (W : Wsx ws) (fr : Frs ws tb) (r : RI ws tb ow fl n rows s pO pF) : ∀ d k, k < n → k ≤ d → ∀ pos ∈ plc tb d k, ∃ path : List Str, pos = Txt.join "." path ∧ path ≠ [] ∧ path.length ≤ d + 1 ∧ (∀ x ∈ path, x ∈ ws) ∧ posErr s.tb (nmT tb k) path = none := by
  intro d
  induction d with
  | zero =>
    intro k hk hd pos hp
    obtain rfl : k = 0 := by omega
    have h' : 0 < tb.length := Nat.lt_of_lt_of_le hk r.le
    obtain ⟨h, q, _⟩ := r.find W fr hk
    have hc : pos ∈ tb[0].cols := by
      unfold plc at hp
      rw [List.getElem?_eq_getElem h'] at hp
      exact hp
    refine ⟨[pos], (join_one pos).symm, by simp, by simp, fun x hx => by rw [List.mem_singleton.mp hx]; exact (fr.cols 0 h').2.2.2 _ hc, ?_⟩
    unfold posErr
    rw [q, Option.map_some, Option.getD_some, (r.core 0 h h').2.2, if_pos hc]
  | succ d ih =>
    intro k hk hd pos hp
    have h' : k < tb.length := Nat.lt_of_lt_of_le hk r.le
    obtain ⟨h, q, _⟩ := r.find W fr hk
    have one : pos ∈ tb[k].cols → ∃ path : List Str, pos = Txt.join "." path ∧ path ≠ [] ∧ path.length ≤ d + 1 + 1 ∧ (∀ x ∈ path, x ∈ ws) ∧ posErr s.tb (nmT tb k) path = none := fun hc => by
      refine ⟨[pos], (join_one pos).symm, by simp, by simp, fun x hx => by rw [List.mem_singleton.mp hx]; exact (fr.cols k h').2.2.2 _ hc, ?_⟩
      unfold posErr
      rw [q, Option.map_some, Option.getD_some, (r.core k h h').2.2, if_pos hc]
    rcases pix_par fr.wf h' with ⟨hq, _⟩ | ⟨j, hj, lt, hq, _⟩
    · rw [plc_none h' hq] at hp
      exact one hp
    · rw [plc_some fr.wf h' hj hq] at hp
      rcases List.mem_append.mp hp with z | z
      · exact one z
      · obtain ⟨y, hy, rfl⟩ := List.mem_map.mp z
        obtain ⟨path, e1, e2, e3, e4, e5⟩ := ih j (by omega) (by omega) y hy
        obtain ⟨c, t, rfl⟩ : ∃ c t, path = c :: t := by
          cases path with
          | nil => exact absurd rfl e2
          | cons c t => exact ⟨c, t, rfl⟩
        refine ⟨tb[j].nm :: c :: t, by rw [join_cons, ← e1], by simp, by simp at e3 ⊢; omega, fun x hx => ?_, ?_⟩
        · rcases List.mem_cons.mp hx with rfl | hx
          · exact (fr.nm12 W hj).1
          · exact e4 x hx
        · have po : parOf s.tb (nmT tb k) = some tb[j].nm := by
            unfold parOf
            rw [q, Option.bind_some, (r.core k h h').2.1, hq]
          unfold posErr
          rw [po, if_pos rfl, ← nmT_at hj]
          exact e5
/-- an owner's line -/
theorem RI.own (W : Wsx ws) (fr : Frs ws tb) (r : RI ws tb ow fl n rows s pO pF) (ok : OwOk tb ow) {x : Nat × Str} (hx : x ∈ ow) (px : pO x) (hn : x.1 < n) : ∃ s', RI ws tb ow fl n (rows ++ [ownRow tb x]) s' (fun y => pO y ∧ y ≠ x) pF := by
  have six := fr.six
  have kx := ok.ok x hx
  obtain ⟨path, e1, e2, e3, e4, e5⟩ := r.path W fr 5 x.1 hn (by omega) x.2 kx.2
  obtain ⟨h, q, kn⟩ := r.find W fr hn
  have nin : nmT tb x.1 ∈ ws := by rw [nmT_at kx.1]; exact (fr.nm12 W kx.1).1
  have notin : nmT tb x.1 ∉ s.ow.map (fun z : Str × Str => z.1) := fun z => by
    obtain ⟨y, hy, ey⟩ := List.mem_map.mp z
    obtain ⟨u, hu, np, eu⟩ := r.oB y hy
    rw [eu] at ey
    have e := nmT_inj W fr (ok.ok u hu).1 kx.1 ey
    have : u = x := by
      obtain ⟨i, hi, ei⟩ := List.mem_iff_getElem.mp hu
      obtain ⟨j, hj, ej⟩ := List.mem_iff_getElem.mp hx
      have := (List.getElem_inj (h₀ := by simpa using hi) (h₁ := by simpa using hj) ok.nd).mp (by simp only [List.getElem_map, ei, ej]; exact e)
      subst this
      rw [← ei, ← ej]
    rw [this] at np
    exact np px
  have go : rlOwner s (nmT tb x.1) x.2 = .inr ⟨s.tb, s.ow ++ [(nmT tb x.1, x.2)]⟩ := by
    unfold rlOwner
    rw [if_neg (by rw [kn]; exact fun z => nomatch z), if_neg notin, e1, dot_split W e2 e4, e5]
  have hrl : rl isNm s (ownRow tb x) = .inr ⟨s.tb, s.ow ++ [(nmT tb x.1, x.2)]⟩ := by
    show rl isNm s ["owner", nmT tb x.1, x.2] = _
    have := rl_own W (s := s) (n := nmT tb x.1) (path := path) nin e2 e4
    rw [← e1] at this
    rw [this, go]
  have sp : Soup ws (ownRow tb x) := by
    show Soup ws ["owner", nmT tb x.1, x.2]
    rw [e1]
    exact .own _ _ nin e2 (by omega) e4
  refine ⟨_, rd_one r.rd hrl, r.wf, r.ln, r.le, r.core, fun y hy => ?_, fun y hy => ?_, r.fB, r.fA, fit_snoc r.fit (soup_fit W sp), sz_snoc r.sz (soup_sz W sp)⟩
  · by_cases z : y = x
    · subst z
      exact .inr (List.mem_append_right _ (List.mem_singleton.mpr rfl))
    · rcases r.oA y hy with a | a
      · exact .inl ⟨a, z⟩
      · exact .inr (List.mem_append_left _ a)
  · rcases List.mem_append.mp hy with z | z
    · obtain ⟨u, hu, np, eu⟩ := r.oB y z
      exact ⟨u, hu, fun a => np a.1, eu⟩
    · exact ⟨x, hx, fun a => a.2 rfl, List.mem_singleton.mp z⟩
/-- a follow line -/
theorem RI.folw (W : Wsx ws) (fr : Frs ws tb) (r : RI ws tb ow fl n rows s pO pF) (ok : FoOk tb fl) {x : Nat × Str × Str} (hx : x ∈ fl) (px : pF x) (hn : x.1 < n) : ∃ s', RI ws tb ow fl n (rows ++ [folRow tb x]) s' pO (fun y => pF y ∧ y ≠ x) := by
  obtain ⟨kx, hc, j, hj, lt, hp, hu⟩ := ok.ok x hx
  obtain ⟨h, q, kn⟩ := r.find W fr hn
  obtain ⟨h2, q2, _⟩ := r.find W fr (k := j) (by omega)
  have nin : nmT tb x.1 ∈ ws := by rw [nmT_at kx]; exact (fr.nm12 W kx).1
  have core := r.core x.1 h kx
  have corej := r.core j h2 hj
  have cin : x.2.1 ∈ ws := (fr.cols x.1 kx).2.2.2 _ hc
  have uin : x.2.2 ∈ ws := (fr.cols j hj).2.2.2 _ hu
  have notin : x.2.1 ∉ s.tb[x.1].fol.map (fun z : Str × Str => z.1) := fun z => by
    obtain ⟨y0, hy0, ey0⟩ := List.mem_map.mp z
    obtain ⟨y, hy, np, e1, e2⟩ := r.fB _ (List.getElem_mem h) _ hy0
    have e2 : y.2.1 = x.2.1 := (congrArg (fun z : Str × Str => z.1) e2).trans ey0
    rw [core.1, ← nmT_at kx] at e1
    have e := nmT_inj W fr (ok.ok y hy).1 kx e1
    have : y = x := by
      obtain ⟨i, hi, ei⟩ := List.mem_iff_getElem.mp hy
      obtain ⟨m, hm, em⟩ := List.mem_iff_getElem.mp hx
      have := (List.getElem_inj (h₀ := by simpa using hi) (h₁ := by simpa using hm) ok.nd).mp (by simp only [List.getElem_map, ei, em, e, e2])
      subst this
      rw [← ei, ← em]
    rw [this] at np
    exact np px
  have go : rlFollow s (nmT tb x.1) x.2.1 x.2.2 = .inr ⟨s.tb.map (addF (nmT tb x.1) x.2.1 x.2.2), s.ow⟩ := by
    unfold rlFollow
    rw [q]
    dsimp only
    rw [core.2.2, if_neg (by simpa using hc), if_neg notin, core.2.1, hp]
    dsimp only
    rw [← nmT_at hj, q2, Option.map_some, Option.getD_some, corej.2.2, if_pos hu]
  have hrl : rl isNm s (folRow tb x) = .inr ⟨s.tb.map (addF (nmT tb x.1) x.2.1 x.2.2), s.ow⟩ := (rl_fol W nin cin uin).trans go
  refine ⟨_, rd_one r.rd hrl, wf_addF r.wf _ _ _, by rw [List.length_map]; exact r.ln, r.le, fun i hi hi' => ?_, r.oA, r.oB, fun t ht c hc' => ?_, fun z hz => ?_, fit_snoc r.fit (soup_fit W (Soup.fol _ _ _ nin cin uin)), sz_snoc r.sz (soup_sz W (Soup.fol _ _ _ nin cin uin))⟩
  · have hi0 : i < s.tb.length := by simpa using hi
    have a := addF_nm (nmT tb x.1) x.2.1 x.2.2 s.tb[i]
    have b := r.core i hi0 hi'
    rw [List.getElem_map, a.1, a.2.1, a.2.2]
    exact b
  · obtain ⟨t0, h0, rfl⟩ := List.mem_map.mp ht
    rw [(addF_nm (nmT tb x.1) x.2.1 x.2.2 t0).1]
    unfold addF at hc'
    split at hc'
    · rename_i en
      rcases List.mem_append.mp hc' with z | z
      · obtain ⟨y, hy, np, a⟩ := r.fB t0 h0 c z
        exact ⟨y, hy, fun b => np b.1, a⟩
      · exact ⟨x, hx, fun b => b.2 rfl, en.symm, (List.mem_singleton.mp z).symm⟩
    · obtain ⟨y, hy, np, a⟩ := r.fB t0 h0 c hc'
      exact ⟨y, hy, fun b => np b.1, a⟩
  · by_cases ez : z = x
    · subst ez
      refine .inr ⟨addF (nmT tb z.1) z.2.1 z.2.2 s.tb[z.1], List.mem_map_of_mem (List.getElem_mem h), (addF_nm _ _ _ _).1.trans (core.1.trans (nmT_at kx).symm), ?_⟩
      unfold addF
      rw [if_pos (core.1.trans (nmT_at kx).symm)]
      exact List.mem_append_right _ (List.mem_singleton.mpr rfl)
    · rcases r.fA z hz with a | ⟨t, ht, a, b⟩
      · exact .inl ⟨a, ez⟩
      · refine .inr ⟨addF (nmT tb x.1) x.2.1 x.2.2 t, List.mem_map_of_mem ht, (addF_nm _ _ _ _).1.trans a, ?_⟩
        unfold addF
        split
        · exact List.mem_append_left _ b
        · exact b
theorem RI.owns (W : Wsx ws) (fr : Frs ws tb) (ok : OwOk tb ow) : ∀ (L : List (Nat × Str)) {rows : List (List Str)} {s : Sm} {pO : Nat × Str → Prop}, RI ws tb ow fl n rows s pO pF → L.Nodup → (∀ x ∈ L, x ∈ ow ∧ pO x ∧ x.1 < n) → ∃ s', RI ws tb ow fl n (rows ++ L.map (ownRow tb)) s' (fun y => pO y ∧ y ∉ L) pF
  | [], rows, s, pO, r, _, _ => ⟨s, by rw [List.map_nil, List.append_nil]; exact r.congr (fun x _ => ⟨fun z => ⟨z, fun q => nomatch q⟩, fun z => z.1⟩) (fun _ _ => Iff.rfl)⟩
  | x :: L, rows, s, pO, r, nd, h => by
    rw [List.nodup_cons] at nd
    have hx := h x (List.mem_cons_self ..)
    obtain ⟨s1, r1⟩ := r.own W fr ok hx.1 hx.2.1 hx.2.2
    obtain ⟨s2, r2⟩ := RI.owns W fr ok L r1 nd.2 (fun y hy => ⟨(h y (List.mem_cons_of_mem _ hy)).1, ⟨(h y (List.mem_cons_of_mem _ hy)).2.1, fun z => nd.1 (z ▸ hy)⟩, (h y (List.mem_cons_of_mem _ hy)).2.2⟩)
    refine ⟨s2, ?_⟩
    rw [List.map_cons, List.append_cons]
    exact r2.congr (fun y _ => by simp only [List.mem_cons, not_or, and_assoc]) (fun _ _ => Iff.rfl)
theorem RI.fols (W : Wsx ws) (fr : Frs ws tb) (ok : FoOk tb fl) : ∀ (L : List (Nat × Str × Str)) {rows : List (List Str)} {s : Sm} {pF : Nat × Str × Str → Prop}, RI ws tb ow fl n rows s pO pF → L.Nodup → (∀ x ∈ L, x ∈ fl ∧ pF x ∧ x.1 < n) → ∃ s', RI ws tb ow fl n (rows ++ L.map (folRow tb)) s' pO (fun y => pF y ∧ y ∉ L)
  | [], rows, s, pF, r, _, _ => ⟨s, by rw [List.map_nil, List.append_nil]; exact r.congr (fun _ _ => Iff.rfl) (fun x _ => ⟨fun z => ⟨z, fun q => nomatch q⟩, fun z => z.1⟩)⟩
  | x :: L, rows, s, pF, r, nd, h => by
    rw [List.nodup_cons] at nd
    have hx := h x (List.mem_cons_self ..)
    obtain ⟨s1, r1⟩ := r.folw W fr ok hx.1 hx.2.1 hx.2.2
    obtain ⟨s2, r2⟩ := RI.fols W fr ok L r1 nd.2 (fun y hy => ⟨(h y (List.mem_cons_of_mem _ hy)).1, ⟨(h y (List.mem_cons_of_mem _ hy)).2.1, fun z => nd.1 (z ▸ hy)⟩, (h y (List.mem_cons_of_mem _ hy)).2.2⟩)
    refine ⟨s2, ?_⟩
    rw [List.map_cons, List.append_cons]
    exact r2.congr (fun _ _ => Iff.rfl) (fun y _ => by simp only [List.mem_cons, not_or, and_assoc])
/-- what a table's further lines do: owC and flC are the lists that are still to be read -/
theorem RI.extra (W : Wsx ws) (fr : Frs ws tb) (oo : OwOk tb ow) (fo : FoOk tb fl) (r : RI ws tb ow fl n rows s pO pF) {owC : List (Nat × Str)} {flC : List (Nat × Str × Str)} {t : Nat} (ht : t < n) (o1 : owC.Nodup) (f1 : flC.Nodup) (o2 : ∀ x ∈ owC, x ∈ ow) (f2 : ∀ x ∈ flC, x ∈ fl) (o3 : ∀ x ∈ ow, x.1 = t → (pO x ↔ x ∈ owC)) (f3 : ∀ x ∈ fl, x.1 = t → (pF x ↔ x ∈ flC)) :
    ∃ s', RI ws tb ow fl n (rows ++ xRows tb owC flC t) s' (fun x => pO x ∧ x.1 ≠ t) (fun x => pF x ∧ x.1 ≠ t) := by
  have mem1 : ∀ {x}, x ∈ owC.filter (fun x => decide (x.1 = t)) ↔ x ∈ owC ∧ x.1 = t := fun {x} => by rw [List.mem_filter, decide_eq_true_eq]
  have mem2 : ∀ {x}, x ∈ flC.filter (fun x => decide (x.1 = t)) ↔ x ∈ flC ∧ x.1 = t := fun {x} => by rw [List.mem_filter, decide_eq_true_eq]
  obtain ⟨s1, r1⟩ := RI.owns W fr oo (owC.filter fun x => decide (x.1 = t)) r (o1.filter _) (fun x hx => by
    obtain ⟨a, b⟩ := mem1.mp hx
    exact ⟨o2 x a, (o3 x (o2 x a) b).mpr a, by omega⟩)
  obtain ⟨s2, r2⟩ := RI.fols W fr fo (flC.filter fun x => decide (x.1 = t)) r1 (f1.filter _) (fun x hx => by
    obtain ⟨a, b⟩ := mem2.mp hx
    exact ⟨f2 x a, (f3 x (f2 x a) b).mpr a, by omega⟩)
  refine ⟨s2, ?_⟩
  unfold xRows
  rw [← List.append_assoc]
  refine r2.congr (fun x hx => ?_) (fun x hx => ?_)
  · rw [mem1]
    constructor
    · rintro ⟨a, b⟩
      exact ⟨a, fun e => b ⟨(o3 x hx e).mp a, e⟩⟩
    · rintro ⟨a, b⟩
      exact ⟨a, fun e => b e.2⟩
  · rw [mem2]
    constructor
    · rintro ⟨a, b⟩
      exact ⟨a, fun e => b ⟨(f3 x hx e).mp a, e⟩⟩
    · rintro ⟨a, b⟩
      exact ⟨a, fun e => b e.2⟩
end
end My

namespace My
open PySem PySem.Spec PyProof.Rows L2 Evl
/-! ### the schema of the drawn tables alone -/
theorem RI.tabs {ws : List Str} {tb : List Tb} (W : Wsx ws) (fr : Frs ws tb) : ∀ n, n ≤ tb.length → ∃ s, RI ws tb [] [] n ((tb.take n).map tabRow) s (fun _ => False) (fun _ => False)
  | 0, _ => ⟨_, RI.nil.congr (fun x hx => by cases hx) (fun x hx => by cases hx)⟩
  | n + 1, h => by
    obtain ⟨s, r⟩ := RI.tabs W fr n (by omega)
    obtain ⟨s', r'⟩ := r.tab W fr (by omega)
    refine ⟨s', ?_⟩
    rw [List.take_succ_eq_append_getElem (by omega), List.map_append]
    exact r'
theorem tabs_rd {ws : List Str} {tb : List Tb} (W : Wsx ws) (fr : Frs ws tb) : rd isNm 1 ⟨[], []⟩ (tb.map tabRow) = .inr ⟨tb, []⟩ ∧ (∀ r ∈ tb.map tabRow, r ≠ [] ∧ (r.map (·.length)).sum + r.length ≤ 800 ∧ ∀ w ∈ r, Pl w) ∧ ∀ r ∈ tb.map tabRow, (rowS r).length ≤ 400 := by
  obtain ⟨s, r⟩ := RI.tabs W fr tb.length (Nat.le_refl _)
  rw [List.take_length] at r
  have e1 : s.tb = tb := by
    apply List.ext_getElem r.ln
    intro i h1 h2
    obtain ⟨c1, c2, c3⟩ := r.core i h1 h2
    have f1 : s.tb[i].fol = [] := by
      cases z : s.tb[i].fol with
      | nil => rfl
      | cons y l =>
        obtain ⟨x, hx, _⟩ := r.fB s.tb[i] (List.getElem_mem h1) y (by rw [z]; exact List.mem_cons_self ..)
        cases hx
    have f2 := fr.fol i h2
    generalize s.tb[i] = a at c1 c2 c3 f1
    generalize tb[i] = b at c1 c2 c3 f2
    obtain ⟨an, ap, ac, af⟩ := a
    obtain ⟨bn, bp, bc, bf⟩ := b
    dsimp only at c1 c2 c3 f1 f2
    subst c1 c2 c3 f1 f2
    rfl
  have e2 : s.ow = [] := by
    cases z : s.ow with
    | nil => rfl
    | cons y l =>
      obtain ⟨x, hx, _⟩ := r.oB y (by rw [z]; exact List.mem_cons_self ..)
      cases hx
  refine ⟨?_, r.fit, r.sz⟩
  rw [r.rd]
  obtain ⟨a, b⟩ := s
  dsimp only at e1 e2
  rw [e1, e2]
theorem tabs_fit {ws : List Str} {tb : List Tb} (W : Wsx ws) (fr : Frs ws tb) (n1 : 1 ≤ tb.length) : Fit (tb.map tabRow) := by
  have := fr.six
  exact ⟨fun z => by rw [List.map_eq_nil_iff] at z; rw [z] at n1; simp at n1, by rw [List.length_map]; omega, (tabs_rd W fr).2.1⟩
def spSO (C : Addr) : Sp := fun vs H Q _ => ∃ (a : Addr) (ws : List Str) (ps : List (Addr × Addr)) (tb : List Tb), vs = [.ref a] ∧ LT H a ps tb ∧ Wsx ws ∧ Frs ws tb ∧ 1 ≤ tb.length ∧
  ∀ (A : Ad) (rs : List Row) (H' : Hp), Ex H H' → H A.a = none → SA C H' A rs [] → tbs rs = tb → New H A rs → Q (.ref A.a) H'
abbrev sSO : Stmt := top 45
theorem scSO : FnScope ["tables", "t"] ["tables"] (defScope sSO) := ⟨rfl, rfl, rfl, by decide +kernel, rfl, by decide +kernel, by decide +kernel⟩
structure TSO (mg : Str → Option Value) (C : Addr) : Prop where
  n_range : mg "range" = none
  n_len : mg "len" = none
  g_Schema : mg "Schema" = some (.ref C)
section
variable {P : Program} {w : World} {K : PySem.W.Frag} {mg : Str → Option Value} {base : Heap}
theorem ok_so {C f fT fR p : Addr} {fd fdT fdR : FuncData} {e0 : ErA} (F : Fun K "_law_schema_of" "_law_schema_of" sSO f fd) (T : TSO mg C)
    (G__law_table_line : FnOk P w K mg base CX0 1 fT fdT ["tb", "t"] (spTLn K)) (m__law_table_line : mg "_law_table_line" = some (.ref fT)) (k__law_table_line : PySem.W.keepIn K (.ref fT) = true) (b__law_table_line : Binds K fdT ["tb", "t"] [])
    (CR_Schema : ClX.CRead K C (.type "type")) (SM_Schema_read : SMet K C (.type "type") "read" p fR) (G_Schema_read : FnOk P w K mg base CX0 10 fR fdR ["text"] (fun vs H Q _ => spRead C e0 vs H Q fun _ _ _ => False)) (b_Schema_read : Binds K fdR ["text"] []) :
    FnOk P w K mg base CX0 11 f fd ["tables"] (spSO C) := by
  refine F.ok scSO (fun vs H Q E h => ?_) (fun cdv A' outer s H vs Q E hr h => ?_)
  · obtain ⟨a, ws, ps, tb, rfl, _⟩ := h
    rfl
  · obtain ⟨a, ws, ps, tb, rfl, L, W, fr, n1, k⟩ := h
    have hr__law_table_line : Room 1 _ := hr.mono (by decide)
    have hr_Schema_read : Room 10 _ := hr
    refine ⟨_, (pss_one (ps_ret (pe_smeth (pe_cls rfl T.g_Schema) CR_Schema SM_Schema_read G_Schema_read hr_Schema_read b_Schema_read pass0 (pa_cons (bmK K PySem.F.plainAttrs_str PySem.F.slot_str_join PySem.F.type_str_join (mtJoinK K) pe_str (pa_cons (pe_lc (own := [("t", 1)]) (g := gName 1) (by rfl) scSO.nd (pi_range1 rfl T.n_range (pa_cons (pe_callB (lenSeq K) (by rfl) T.n_len (by decide +kernel) (pa_cons (pv 0) pa_nil)) pa_nil)) (blkOk_by (own := [("t", 1)]) (N := ["tables", "t"]) (sc := defScope sSO) (by decide +kernel)) (fun _ _ _ _ _ => (pg_name (i := 1) scSO.nd rfl (Or.inl rfl))) (fun _ _ _ _ _ => pts_nil) (fun _ _ _ _ _ => (pe_call G__law_table_line hr__law_table_line rfl m__law_table_line k__law_table_line b__law_table_line .nil pass0 (pa_cons (pv 0) (pa_cons (pv 1) pa_nil))))) pa_nil)) pa_nil)))), ?_⟩
    obtain ⟨rdq, _, szq⟩ := tabs_rd W fr
    have fit := tabs_fit W fr n1
    have six := fr.six
    refine w_ret ⟨rfl, w_cons (w_ev (v := .str (txt (tb.map tabRow))) (ev_joinL (K := K) (a := "\n") (ys := (tb.map tabRow).map rowS) ev_c (el_is (el_lcR1 (n := (tb.length : Int)) (fun _ => true) (fun t => V.str (rowS (((tb[t]?).map tabRow).getD []))) (ea_cons (ev_is (ev_lenA (ev_var rfl) (.inl (SqL.of L.l))) (by rw [List.length_map, L.n])) ea_nil) ⟨by omega, by omega⟩ (fun _ => rfl) (fun _ _ _ _ => et_yes) (fun t H6 e6 ht _ => ?_)) ?_) (Nat.le_trans fit.sum (by decide))) fun H2 e2 => w_nil ?_)⟩
    · have ht : t < tb.length := by omega
      rw [List.getElem?_eq_getElem ht]
      exact ev_call (ea_cons (ev_var rfl) (ea_cons (ev_var rfl) ea_nil)) (fun H7 e7 Q1 q1 E1 => ⟨a, ws, ps, tb, t, rfl, L.ex (e6.trans e7), W, fr, ht, fun H8 e8 => q1 H8 e8⟩)
    · rw [given_map, List.map_map, List.map_map]
      apply List.ext_getElem
      · simp
      · intro i h1 h2
        simp at h1
        simp [List.getElem?_eq_getElem h1]
    · refine ⟨txt (tb.map tabRow), rfl, fit.tx, fun s' hs H' A rs _ hA e3 S htb wf few new => ?_, fun er k' her => ?_⟩
      · unfold rdT at hs
        rw [lines_txt fit.ne fun r hr => ⟨(fit.ok r hr).1, (fit.ok r hr).2.2⟩, rdq] at hs
        cases hs
        exact k A rs H' (e2.trans e3) (fresh_back e2 hA) S htb ⟨fun b hb => fresh_back e2 (new.m b hb), fun r hr => fresh_back e2 (new.c r hr)⟩
      · unfold rdT at her
        rw [lines_txt fit.ne fun r hr => ⟨(fit.ok r hr).1, (fit.ok r hr).2.2⟩, rdq] at her
        cases her
end
end My

namespace My
open PySem PySem.Spec PyProof.Rows L2 Evl
/-! ### lines that are written out, and their forms -/
theorem fit_nm (w : Str) : fitsW w "NAME" = isNm w := by unfold fitsW; rw [if_pos rfl]
theorem fit_tm (w : Str) : fitsW w "TERM" = isTerm w := by
  unfold fitsW
  rw [if_neg (by decide +kernel), if_neg (by decide +kernel), if_pos rfl]
theorem fit_lit {p : Str} (h1 : p ≠ "NAME") (h2 : p ≠ "NAME.NAME") (h3 : p ≠ "TERM") : fitsW p p = true := by
  unfold fitsW
  rw [if_neg h1, if_neg h2, if_neg h3, decide_eq_true rfl]
theorem fh_fix {ws : List Str} {form : Str} {ps : List Str} {p : Str} (hs : Txt.split form " " = ps) (hl : ps.getLastD "" ≠ "..") (h0 : 0 < ps.length) (hp : ps.getD 0 "" = p) (h1 : p ≠ "NAME") (h2 : p ≠ "NAME.NAME") (h3 : p ≠ "TERM") (hw : ws.getD 0 "" ≠ p) : formH ws form = false := by
  cases h : formH ws form with
  | false => rfl
  | true =>
    obtain ⟨_, a⟩ := lok_fix h hs hl
    have q := a 0 h0
    rw [hp] at q
    exact absurd (fit_word h1 h2 h3 q) hw
theorem no_A {ws : List Str} (h : ws.getD 0 "" ≠ "handler") : formH ws "handler NAME" = false := fh_fix partsA (by decide +kernel) (by decide) rfl (by decide +kernel) (by decide +kernel) (by decide +kernel) h
theorem no_B {ws : List Str} (h : ws.getD 0 "" ≠ "row") : formH ws "row NAME in NAME" = false := fh_fix partsB (by decide +kernel) (by decide) rfl (by decide +kernel) (by decide +kernel) (by decide +kernel) h
theorem no_C {ws : List Str} (h : ws.getD 0 "" ≠ "value") : formH ws "value NAME" = false := fh_fix partsC (by decide +kernel) (by decide) rfl (by decide +kernel) (by decide +kernel) (by decide +kernel) h
theorem no_D {ws : List Str} (h : ws.getD 0 "" ≠ "need") : formH ws "need TERM = TERM" = false := fh_fix partsD (by decide +kernel) (by decide) rfl (by decide +kernel) (by decide +kernel) (by decide +kernel) h
theorem no_G {ws : List Str} (h : ws.getD 0 "" ≠ "move") : formH ws "move NAME under NAME" = false := fh_fix partsG (by decide +kernel) (by decide) rfl (by decide +kernel) (by decide +kernel) (by decide +kernel) h
theorem no_H {ws : List Str} (h : ws.getD 0 "" ≠ "set") : formH ws "set NAME.NAME = TERM" = false := fh_fix partsH (by decide +kernel) (by decide) rfl (by decide +kernel) (by decide +kernel) (by decide +kernel) h
theorem no_I {ws : List Str} (h : ws.getD 0 "" ≠ "each") : formH ws "each NAME below NAME sets NAME = TERM" = false := fh_fix partsI (by decide +kernel) (by decide) rfl (by decide +kernel) (by decide +kernel) (by decide +kernel) h
theorem no_J {ws : List Str} (h : ws.getD 0 "" ≠ "take") : formH ws "take NAME" = false := fh_fix partsJ (by decide +kernel) (by decide) rfl (by decide +kernel) (by decide +kernel) (by decide +kernel) h
theorem no_E {ws : List Str} (ne : ws ≠ []) (h : ws.getD 0 "" ≠ "new" ∨ ws.getD 4 "" ≠ "with") : formH ws "new NAME in NAME with TERM .." = false := by
  cases hf : formH ws "new NAME in NAME with TERM .." with
  | false => rfl
  | true =>
    obtain ⟨el, a⟩ := form_at hf
    rw [parts_dots partsE (by decide +kernel)] at el a
    have l : ws.length = 6 + (ws.length + 1 - 7) := by
      rw [List.length_append, List.length_replicate] at el
      exact el
    have w0 : ws.getD 0 "" = "new" := fit_word (by decide +kernel) (by decide +kernel) (by decide +kernel) (a 0 (by omega))
    have w4 : ws.getD 4 "" = "with" := fit_word (by decide +kernel) (by decide +kernel) (by decide +kernel) (a 4 (by omega))
    rcases h with h | h
    · exact absurd w0 h
    · exact absurd w4 h
theorem no_F {ws : List Str} (ne : ws ≠ []) (h : ws.getD 0 "" ≠ "new") : formH ws "new NAME in NAME under NAME with TERM .." = false := by
  cases hf : formH ws "new NAME in NAME under NAME with TERM .." with
  | false => rfl
  | true =>
    obtain ⟨el, a⟩ := form_at hf
    rw [parts_dots partsF (by decide +kernel)] at el a
    have l : ws.length = 8 + (ws.length + 1 - 9) := by
      rw [List.length_append, List.length_replicate] at el
      exact el
    have w0 : ws.getD 0 "" = "new" := fit_word (by decide +kernel) (by decide +kernel) (by decide +kernel) (a 0 (by omega))
    exact absurd w0 h
theorem yes_fix {ws : List Str} {form : Str} {ps : List Str} (hs : Txt.split form " " = ps) (hl : ps.getLastD "" ≠ "..") (l : ws.length = ps.length) (a : (ws.zip ps).all (fun x => fitsW x.1 x.2) = true) : formH ws form = true := by
  unfold formH
  rw [parts_fix hs hl, l, decide_eq_true rfl, Bool.true_and]
  exact a
theorem find_step {f : Int × Str} {fs : List (Int × Str)} {ws : List Str} (h : formH ws f.2 = false) : placeOf (f :: fs) ws = placeOf fs ws := by
  unfold placeOf
  rw [List.find?_cons, h]
theorem find_here {f : Int × Str} {fs : List (Int × Str)} {ws : List Str} (h : formH ws f.2 = true) : placeOf (f :: fs) ws = some f.1 := by
  unfold placeOf
  rw [List.find?_cons, h]
  rfl
theorem isTerm_me : isTerm "me" = true := by decide +kernel
def fm10 : List (Int × Str) := []
def fm9 : List (Int × Str) := (3, "take NAME") :: fm10
def fm8 : List (Int × Str) := (3, "each NAME below NAME sets NAME = TERM") :: fm9
def fm7 : List (Int × Str) := (3, "set NAME.NAME = TERM") :: fm8
def fm6 : List (Int × Str) := (3, "move NAME under NAME") :: fm7
def fm5 : List (Int × Str) := (3, "new NAME in NAME under NAME with TERM ..") :: fm6
def fm4 : List (Int × Str) := (3, "new NAME in NAME with TERM ..") :: fm5
def fm3 : List (Int × Str) := (2, "need TERM = TERM") :: fm4
def fm2 : List (Int × Str) := (1, "value NAME") :: fm3
def fm1 : List (Int × Str) := (1, "row NAME in NAME") :: fm2
def fm0 : List (Int × Str) := (0, "handler NAME") :: fm1
theorem fm_eq : formsH = fm0 := rfl
theorem st0 {ws : List Str} (h : formH ws "handler NAME" = false) : placeOf fm0 ws = placeOf fm1 ws := find_step (f := (0, "handler NAME")) (fs := fm1) h
theorem st1 {ws : List Str} (h : formH ws "row NAME in NAME" = false) : placeOf fm1 ws = placeOf fm2 ws := find_step (f := (1, "row NAME in NAME")) (fs := fm2) h
theorem st2 {ws : List Str} (h : formH ws "value NAME" = false) : placeOf fm2 ws = placeOf fm3 ws := find_step (f := (1, "value NAME")) (fs := fm3) h
theorem st3 {ws : List Str} (h : formH ws "need TERM = TERM" = false) : placeOf fm3 ws = placeOf fm4 ws := find_step (f := (2, "need TERM = TERM")) (fs := fm4) h
theorem st4 {ws : List Str} (h : formH ws "new NAME in NAME with TERM .." = false) : placeOf fm4 ws = placeOf fm5 ws := find_step (f := (3, "new NAME in NAME with TERM ..")) (fs := fm5) h
theorem st5 {ws : List Str} (h : formH ws "new NAME in NAME under NAME with TERM .." = false) : placeOf fm5 ws = placeOf fm6 ws := find_step (f := (3, "new NAME in NAME under NAME with TERM ..")) (fs := fm6) h
theorem st6 {ws : List Str} (h : formH ws "move NAME under NAME" = false) : placeOf fm6 ws = placeOf fm7 ws := find_step (f := (3, "move NAME under NAME")) (fs := fm7) h
theorem st7 {ws : List Str} (h : formH ws "set NAME.NAME = TERM" = false) : placeOf fm7 ws = placeOf fm8 ws := find_step (f := (3, "set NAME.NAME = TERM")) (fs := fm8) h
theorem st8 {ws : List Str} (h : formH ws "each NAME below NAME sets NAME = TERM" = false) : placeOf fm8 ws = placeOf fm9 ws := find_step (f := (3, "each NAME below NAME sets NAME = TERM")) (fs := fm9) h
theorem st9 {ws : List Str} (h : formH ws "take NAME" = false) : placeOf fm9 ws = placeOf fm10 ws := find_step (f := (3, "take NAME")) (fs := fm10) h
theorem he0 {ws : List Str} (h : formH ws "handler NAME" = true) : placeOf fm0 ws = some 0 := find_here (f := (0, "handler NAME")) (fs := fm1) h
theorem he1 {ws : List Str} (h : formH ws "row NAME in NAME" = true) : placeOf fm1 ws = some 1 := find_here (f := (1, "row NAME in NAME")) (fs := fm2) h
theorem he2 {ws : List Str} (h : formH ws "value NAME" = true) : placeOf fm2 ws = some 1 := find_here (f := (1, "value NAME")) (fs := fm3) h
theorem he3 {ws : List Str} (h : formH ws "need TERM = TERM" = true) : placeOf fm3 ws = some 2 := find_here (f := (2, "need TERM = TERM")) (fs := fm4) h
theorem he4 {ws : List Str} (h : formH ws "new NAME in NAME with TERM .." = true) : placeOf fm4 ws = some 3 := find_here (f := (3, "new NAME in NAME with TERM ..")) (fs := fm5) h
theorem he5 {ws : List Str} (h : formH ws "new NAME in NAME under NAME with TERM .." = true) : placeOf fm5 ws = some 3 := find_here (f := (3, "new NAME in NAME under NAME with TERM ..")) (fs := fm6) h
theorem he6 {ws : List Str} (h : formH ws "move NAME under NAME" = true) : placeOf fm6 ws = some 3 := find_here (f := (3, "move NAME under NAME")) (fs := fm7) h
theorem he7 {ws : List Str} (h : formH ws "set NAME.NAME = TERM" = true) : placeOf fm7 ws = some 3 := find_here (f := (3, "set NAME.NAME = TERM")) (fs := fm8) h
theorem he8 {ws : List Str} (h : formH ws "each NAME below NAME sets NAME = TERM" = true) : placeOf fm8 ws = some 3 := find_here (f := (3, "each NAME below NAME sets NAME = TERM")) (fs := fm9) h
theorem he9 {ws : List Str} (h : formH ws "take NAME" = true) : placeOf fm9 ws = some 3 := find_here (f := (3, "take NAME")) (fs := fm10) h
theorem pl_row {ws : List Str} (w0 : ws.getD 0 "" = "row") (ne : ws ≠ []) (h : formH ws "row NAME in NAME" = true) : placeOf formsH ws = some 1 :=
  (st0 (no_A (by rw [w0]; decide +kernel))).trans (he1 h)
theorem pl_value {ws : List Str} (w0 : ws.getD 0 "" = "value") (ne : ws ≠ []) (h : formH ws "value NAME" = true) : placeOf formsH ws = some 1 :=
  (st0 (no_A (by rw [w0]; decide +kernel))).trans ((st1 (no_B (by rw [w0]; decide +kernel))).trans (he2 h))
theorem pl_need {ws : List Str} (w0 : ws.getD 0 "" = "need") (ne : ws ≠ []) (h : formH ws "need TERM = TERM" = true) : placeOf formsH ws = some 2 :=
  (st0 (no_A (by rw [w0]; decide +kernel))).trans ((st1 (no_B (by rw [w0]; decide +kernel))).trans ((st2 (no_C (by rw [w0]; decide +kernel))).trans (he3 h)))
theorem pl_new {ws : List Str} (w0 : ws.getD 0 "" = "new") (ne : ws ≠ []) (h : formH ws "new NAME in NAME with TERM .." = true) : placeOf formsH ws = some 3 :=
  (st0 (no_A (by rw [w0]; decide +kernel))).trans ((st1 (no_B (by rw [w0]; decide +kernel))).trans ((st2 (no_C (by rw [w0]; decide +kernel))).trans ((st3 (no_D (by rw [w0]; decide +kernel))).trans (he4 h))))
theorem pl_newU {ws : List Str} (w0 : ws.getD 0 "" = "new") (ne : ws ≠ []) (w4 : ws.getD 4 "" ≠ "with") (h : formH ws "new NAME in NAME under NAME with TERM .." = true) : placeOf formsH ws = some 3 :=
  (st0 (no_A (by rw [w0]; decide +kernel))).trans ((st1 (no_B (by rw [w0]; decide +kernel))).trans ((st2 (no_C (by rw [w0]; decide +kernel))).trans ((st3 (no_D (by rw [w0]; decide +kernel))).trans ((st4 (no_E ne (.inr w4))).trans (he5 h)))))
theorem pl_move {ws : List Str} (w0 : ws.getD 0 "" = "move") (ne : ws ≠ []) (h : formH ws "move NAME under NAME" = true) : placeOf formsH ws = some 3 :=
  (st0 (no_A (by rw [w0]; decide +kernel))).trans ((st1 (no_B (by rw [w0]; decide +kernel))).trans ((st2 (no_C (by rw [w0]; decide +kernel))).trans ((st3 (no_D (by rw [w0]; decide +kernel))).trans ((st4 (no_E ne (.inl (by rw [w0]; decide +kernel)))).trans ((st5 (no_F ne (by rw [w0]; decide +kernel))).trans (he6 h))))))
theorem pl_set {ws : List Str} (w0 : ws.getD 0 "" = "set") (ne : ws ≠ []) (h : formH ws "set NAME.NAME = TERM" = true) : placeOf formsH ws = some 3 :=
  (st0 (no_A (by rw [w0]; decide +kernel))).trans ((st1 (no_B (by rw [w0]; decide +kernel))).trans ((st2 (no_C (by rw [w0]; decide +kernel))).trans ((st3 (no_D (by rw [w0]; decide +kernel))).trans ((st4 (no_E ne (.inl (by rw [w0]; decide +kernel)))).trans ((st5 (no_F ne (by rw [w0]; decide +kernel))).trans ((st6 (no_G (by rw [w0]; decide +kernel))).trans (he7 h)))))))
theorem pl_each {ws : List Str} (w0 : ws.getD 0 "" = "each") (ne : ws ≠ []) (h : formH ws "each NAME below NAME sets NAME = TERM" = true) : placeOf formsH ws = some 3 :=
  (st0 (no_A (by rw [w0]; decide +kernel))).trans ((st1 (no_B (by rw [w0]; decide +kernel))).trans ((st2 (no_C (by rw [w0]; decide +kernel))).trans ((st3 (no_D (by rw [w0]; decide +kernel))).trans ((st4 (no_E ne (.inl (by rw [w0]; decide +kernel)))).trans ((st5 (no_F ne (by rw [w0]; decide +kernel))).trans ((st6 (no_G (by rw [w0]; decide +kernel))).trans ((st7 (no_H (by rw [w0]; decide +kernel))).trans (he8 h))))))))
theorem pl_take {ws : List Str} (w0 : ws.getD 0 "" = "take") (ne : ws ≠ []) (h : formH ws "take NAME" = true) : placeOf formsH ws = some 3 :=
  (st0 (no_A (by rw [w0]; decide +kernel))).trans ((st1 (no_B (by rw [w0]; decide +kernel))).trans ((st2 (no_C (by rw [w0]; decide +kernel))).trans ((st3 (no_D (by rw [w0]; decide +kernel))).trans ((st4 (no_E ne (.inl (by rw [w0]; decide +kernel)))).trans ((st5 (no_F ne (by rw [w0]; decide +kernel))).trans ((st6 (no_G (by rw [w0]; decide +kernel))).trans ((st7 (no_H (by rw [w0]; decide +kernel))).trans ((st8 (no_I (by rw [w0]; decide +kernel))).trans (he9 h)))))))))
theorem pl_none {ws : List Str} (w0 : ws.getD 0 "" = "") (ne : ws ≠ []) : placeOf formsH ws = none :=
  (st0 (no_A (by rw [w0]; decide +kernel))).trans ((st1 (no_B (by rw [w0]; decide +kernel))).trans ((st2 (no_C (by rw [w0]; decide +kernel))).trans ((st3 (no_D (by rw [w0]; decide +kernel))).trans ((st4 (no_E ne (.inl (by rw [w0]; decide +kernel)))).trans ((st5 (no_F ne (by rw [w0]; decide +kernel))).trans ((st6 (no_G (by rw [w0]; decide +kernel))).trans ((st7 (no_H (by rw [w0]; decide +kernel))).trans ((st8 (no_I (by rw [w0]; decide +kernel))).trans ((st9 (no_J (by rw [w0]; decide +kernel))).trans (rfl))))))))))
theorem place_handler {n : Str} (hn : isNm n = true) : placeOf formsH ["handler", n] = some 0 :=
  find_here (yes_fix partsA (by decide +kernel) rfl (by simp only [List.zip_cons_cons, List.zip_nil_right, List.all_cons, List.all_nil, fit_nm, hn, fit_lit (show ("handler" : Str) ≠ "NAME" by decide +kernel) (by decide +kernel) (by decide +kernel), Bool.and_true]))
theorem place_row {a b : Str} (ha : isNm a = true) (hb : isNm b = true) : placeOf formsH ["row", a, "in", b] = some 1 := by
  exact pl_row rfl (by simp) (yes_fix partsB (by decide +kernel) rfl (by simp only [List.zip_cons_cons, List.zip_nil_right, List.all_cons, List.all_nil, fit_nm, ha, hb, fit_lit (show ("row" : Str) ≠ "NAME" by decide +kernel) (by decide +kernel) (by decide +kernel), fit_lit (show ("in" : Str) ≠ "NAME" by decide +kernel) (by decide +kernel) (by decide +kernel), Bool.and_true]))
theorem place_move {a b : Str} (ha : isNm a = true) (hb : isNm b = true) : placeOf formsH ["move", a, "under", b] = some 3 := by
  exact pl_move rfl (by simp) (yes_fix partsG (by decide +kernel) rfl (by simp only [List.zip_cons_cons, List.zip_nil_right, List.all_cons, List.all_nil, fit_nm, ha, hb, fit_lit (show ("move" : Str) ≠ "NAME" by decide +kernel) (by decide +kernel) (by decide +kernel), fit_lit (show ("under" : Str) ≠ "NAME" by decide +kernel) (by decide +kernel) (by decide +kernel), Bool.and_true]))
theorem place_each {t r c : Str} (ht : isNm t = true) (hr : isNm r = true) (hc : isNm c = true) : placeOf formsH ["each", t, "below", r, "sets", c, "=", "me"] = some 3 := by
  exact pl_each rfl (by simp) (yes_fix partsI (by decide +kernel) rfl (by simp only [List.zip_cons_cons, List.zip_nil_right, List.all_cons, List.all_nil, fit_nm, fit_tm, isTerm_me, ht, hr, hc, fit_lit (show ("each" : Str) ≠ "NAME" by decide +kernel) (by decide +kernel) (by decide +kernel), fit_lit (show ("below" : Str) ≠ "NAME" by decide +kernel) (by decide +kernel) (by decide +kernel), fit_lit (show ("sets" : Str) ≠ "NAME" by decide +kernel) (by decide +kernel) (by decide +kernel), fit_lit (show ("=" : Str) ≠ "NAME" by decide +kernel) (by decide +kernel) (by decide +kernel), Bool.and_true]))
theorem place_empty : placeOf formsH [""] = none := pl_none rfl (by simp)
theorem zip_me (n : Nat) : ((List.replicate n ("me" : Str)).zip (List.replicate n ("TERM" : Str))).all (fun x => fitsW x.1 x.2) = true := by
  rw [List.all_eq_true]
  intro x hx
  obtain ⟨h1, h2⟩ := List.of_mem_zip (show (x.1, x.2) ∈ _ from hx)
  rw [(List.mem_replicate.mp h1).2, (List.mem_replicate.mp h2).2, fit_tm]
  exact isTerm_me
theorem place_new {n t : Str} (hn : isNm n = true) (ht : isNm t = true) (c : Nat) : placeOf formsH (([("new" : Str), n, "in", t, "with"] : List Str) ++ List.replicate (c + 1) ("me" : Str)) = some 3 := by
  refine pl_new rfl (by simp) ?_
  unfold formH
  rw [parts_dots partsE (by decide +kernel)]
  have l : (([("new" : Str), n, "in", t, "with"] : List Str) ++ List.replicate (c + 1) ("me" : Str)).length = c + 6 := by rw [List.length_append, List.length_replicate]; show 5 + (c + 1) = c + 6; omega
  rw [l, List.length_append, List.length_replicate]
  rw [decide_eq_true (by show c + 6 = 6 + (c + 6 + 1 - 7); omega), Bool.true_and, show c + 6 + 1 - ([("new" : Str), "NAME", "in", "NAME", "with", "TERM", ".."] : List Str).length = c by show c + 6 + 1 - 7 = c; omega]
  show ((([("new" : Str), n, "in", t, "with"] ++ List.replicate (c + 1) ("me" : Str)).zip ([("new" : Str), "NAME", "in", "NAME", "with", "TERM"] ++ List.replicate c ("TERM" : Str))).all fun x => fitsW x.1 x.2) = true
  rw [List.replicate_succ]
  simp only [List.cons_append, List.nil_append, List.zip_cons_cons, List.all_cons, fit_nm, fit_tm, isTerm_me, hn, ht, zip_me, fit_lit (show ("new" : Str) ≠ "NAME" by decide +kernel) (by decide +kernel) (by decide +kernel), fit_lit (show ("in" : Str) ≠ "NAME" by decide +kernel) (by decide +kernel) (by decide +kernel), fit_lit (show ("with" : Str) ≠ "NAME" by decide +kernel) (by decide +kernel) (by decide +kernel), Bool.and_true]
theorem place_newU {n t r : Str} (hn : isNm n = true) (ht : isNm t = true) (hr : isNm r = true) (c : Nat) : placeOf formsH (([("new" : Str), n, "in", t, "under", r, "with"] : List Str) ++ List.replicate (c + 1) ("me" : Str)) = some 3 := by
  refine pl_newU rfl (by simp) (show ("under" : Str) ≠ "with" by decide +kernel) ?_
  unfold formH
  rw [parts_dots partsF (by decide +kernel)]
  have l : (([("new" : Str), n, "in", t, "under", r, "with"] : List Str) ++ List.replicate (c + 1) ("me" : Str)).length = c + 8 := by rw [List.length_append, List.length_replicate]; show 7 + (c + 1) = c + 8; omega
  rw [l, List.length_append, List.length_replicate]
  rw [decide_eq_true (by show c + 8 = 8 + (c + 8 + 1 - 9); omega), Bool.true_and, show c + 8 + 1 - ([("new" : Str), "NAME", "in", "NAME", "under", "NAME", "with", "TERM", ".."] : List Str).length = c by show c + 8 + 1 - 9 = c; omega]
  show ((([("new" : Str), n, "in", t, "under", r, "with"] ++ List.replicate (c + 1) ("me" : Str)).zip ([("new" : Str), "NAME", "in", "NAME", "under", "NAME", "with", "TERM"] ++ List.replicate c ("TERM" : Str))).all fun x => fitsW x.1 x.2) = true
  rw [List.replicate_succ]
  simp only [List.cons_append, List.nil_append, List.zip_cons_cons, List.all_cons, fit_nm, fit_tm, isTerm_me, hn, ht, hr, zip_me, fit_lit (show ("new" : Str) ≠ "NAME" by decide +kernel) (by decide +kernel) (by decide +kernel), fit_lit (show ("in" : Str) ≠ "NAME" by decide +kernel) (by decide +kernel) (by decide +kernel), fit_lit (show ("under" : Str) ≠ "NAME" by decide +kernel) (by decide +kernel) (by decide +kernel), fit_lit (show ("with" : Str) ≠ "NAME" by decide +kernel) (by decide +kernel) (by decide +kernel), Bool.and_true]
end My

namespace My
open PySem PySem.Spec PyProof.Rows L2 Evl
/-! ### rows, word by word -/
theorem Ext.mutE {st l : Addr} {H H' : Hp} {p : Addr} {o : HO} (e : Ext st l H H') (h : H p = none) : Ext st l H (upd H' p o) := fun a u n m ha => by
  rw [upd_ne (ne_of_none ha h)]
  exact e a u n m ha
theorem row_cons (x y : Str) (r : List Str) : rowS (x :: y :: r) = x ++ " " ++ rowS (y :: r) := by
  unfold rowS
  rw [TL.join_eq, TL.join_eq]
  rfl
theorem row_snoc (x : Str) : ∀ r : List Str, r ≠ [] → rowS (r ++ [x]) = rowS r ++ " " ++ x
  | [], h => absurd rfl h
  | [a], _ => by
    show rowS [a, x] = rowS [a] ++ " " ++ x
    rw [row_cons]
    rfl
  | a :: b :: t, _ => by
    show rowS (a :: b :: (t ++ [x])) = _
    rw [row_cons, row_cons]
    have e : rowS (b :: (t ++ [x])) = rowS (b :: t) ++ " " ++ x := row_snoc x (b :: t) (by simp)
    rw [e]
    apply TL.ext_tl
    simp only [TL.tl_append, List.append_assoc]
end My

namespace My
open PySem PySem.Spec PyProof.Rows L2 Evl
/-! ### what the lines of the law do -/
theorem chI_nm {tb : List Tb} (w : WF tb) : ∀ d i (h : i < tb.length), i ≤ d → (chI tb d i).map (nmT tb) = chainF tb i tb[i].nm ∧ ∀ j ∈ chI tb d i, j < tb.length := by
  intro d
  induction d with
  | zero =>
    intro i h hd
    obtain rfl : i = 0 := by omega
    unfold chI chainF
    exact ⟨by rw [List.map_cons, List.map_nil, nmT_at h], fun j hj => by rw [List.mem_singleton.mp hj]; exact h⟩
  | succ d ih =>
    intro i h hd
    unfold chI
    rw [List.getElem?_eq_getElem h, Option.bind_some]
    cases hp : tb[i].par with
    | none =>
      rw [chain_end w h hp]
      exact ⟨by rw [List.map_cons, List.map_nil, nmT_at h], fun j hj => by rw [List.mem_singleton.mp hj]; exact h⟩
    | some p =>
      obtain ⟨j, hj, lt, rfl⟩ := w.par i h p hp
      dsimp only
      rw [nmIx_at w hj, chain_next w h hj lt hp]
      obtain ⟨a, b⟩ := ih j hj (by omega)
      refine ⟨by rw [List.map_cons, nmT_at h, a], fun x hx => ?_⟩
      rcases List.mem_cons.mp hx with rfl | hx
      · exact h
      · exact b x hx
theorem ch_mem {ws : List Str} {tb : List Tb} (W : Wsx ws) (fr : Frs ws tb) {t k : Nat} (ht : t < tb.length) (hk : k < tb.length) : nmT tb t ∈ (chainT tb (nmT tb k)).drop 1 ↔ t ∈ (chI tb 5 k).drop 1 := by
  have six := fr.six
  obtain ⟨a, b⟩ := chI_nm fr.wf 5 k hk (by omega)
  have e : chainT tb (nmT tb k) = (chI tb 5 k).map (nmT tb) := by
    unfold chainT
    rw [nmT_at hk, chain_stable fr.wf k hk _ (Nat.le_of_lt hk), a]
  rw [e, ← List.map_drop, List.mem_map]
  constructor
  · rintro ⟨j, hj, ej⟩
    have := nmT_inj W fr (b j (List.mem_of_mem_drop hj)) ht ej
    subst this
    exact hj
  · exact fun h => ⟨t, h, rfl⟩
theorem par_nm {tb : List Tb} (w : WF tb) {k : Nat} (hk : k < tb.length) : parOf tb (nmT tb k) = tb[k].par := by rw [nmT_at hk]; exact par_at w hk
/-- a table's number of its parent, and its parent -/
theorem pix_is {ws : List Str} {tb : List Tb} (W : Wsx ws) (fr : Frs ws tb) {t k : Nat} (ht : t < tb.length) (hk : k < tb.length) : pix tb tb[k] = (t : Int) ↔ parOf tb (nmT tb k) = some (nmT tb t) := by
  rw [par_nm fr.wf hk]
  rcases pix_par fr.wf hk with ⟨h1, h2⟩ | ⟨j, hj, lt, h1, h2⟩
  · rw [h1, h2]
    exact ⟨fun z => by omega, fun z => nomatch z⟩
  · rw [h1, h2, ← nmT_at hj]
    exact ⟨fun z => by rw [show j = t by omega], fun z => by rw [nmT_inj W fr hj ht (Option.some.inj z)]⟩
theorem pix_root {tb : List Tb} (w : WF tb) {k : Nat} (hk : k < tb.length) : (0 ≤ pix tb tb[k]) ↔ parOf tb (nmT tb k) ≠ none := by
  rw [par_nm w hk]
  rcases pix_par w hk with ⟨h1, h2⟩ | ⟨j, hj, lt, h1, h2⟩
  · rw [h1, h2]
    exact ⟨fun z => by omega, fun z => absurd rfl z⟩
  · rw [h1, h2]
    exact ⟨fun _ z => (nomatch z), fun _ => by omega⟩
/-! the rows of the handler -/
def rowsS (ws : List Str) (tb : List Tb) (ts : List Nat) (n : Nat) : List (Str × Str) := (List.range n).map fun r => (ws.getD r "", nmT tb (ts.getD r 0))
theorem rowsS_succ (ws : List Str) (tb : List Tb) (ts : List Nat) (n : Nat) : rowsS ws tb ts (n + 1) = rowsS ws tb ts n ++ [(ws.getD n "", nmT tb (ts.getD n 0))] := by
  unfold rowsS
  rw [List.range_succ, List.map_append]
  rfl
theorem fst_no {ws : List Str} {tb : List Tb} {ts : List Nat} {x : Str} : ∀ {n : Nat}, (∀ r, r < n → ws.getD r "" ≠ x) → fstOf (rowsS ws tb ts n) x = none := fun {n} h => by
  unfold fstOf
  rw [Option.map_eq_none_iff, List.find?_eq_none]
  intro y hy
  obtain ⟨r, hr, rfl⟩ := List.mem_map.mp hy
  simpa using h r (List.mem_range.mp hr)
theorem ws_ne {ws : List Str} (W : Wsx ws) {i j : Nat} (hi : i < 12) (hj : j < 12) (h : i ≠ j) : ws.getD i "" ≠ ws.getD j "" := fun z => h (getD_inj W.nd (by rw [W.len]; exact hi) (by rw [W.len]; exact hj) z)
theorem fst_yes {ws : List Str} {tb : List Tb} {ts : List Nat} (W : Wsx ws) {r : Nat} : ∀ {n : Nat}, r < n → n ≤ 12 → fstOf (rowsS ws tb ts n) (ws.getD r "") = some (nmT tb (ts.getD r 0))
  | 0, h, _ => absurd h (Nat.not_lt_zero _)
  | n + 1, h, hn => by
    have q : fstOf (rowsS ws tb ts (n + 1)) (ws.getD r "") = ((rowsS ws tb ts n).find? (fun x => decide (x.1 = ws.getD r "")) |>.or ([(ws.getD n "", nmT tb (ts.getD n 0))].find? fun x => decide (x.1 = ws.getD r ""))).map (·.2) := by
      unfold fstOf
      rw [rowsS_succ, List.find?_append]
    rw [q]
    by_cases z : r < n
    · have ih := fst_yes (tb := tb) (ts := ts) W z (by omega)
      unfold fstOf at ih
      cases hf : (rowsS ws tb ts n).find? (fun x => decide (x.1 = ws.getD r "")) with
      | none => rw [hf] at ih; cases ih
      | some y => rw [hf] at ih; exact ih
    · obtain rfl : r = n := by omega
      have no := fst_no (ws := ws) (tb := tb) (ts := ts) (x := ws.getD r "") (n := r) (fun i hi => ws_ne W (by omega) (by omega) (by omega))
      unfold fstOf at no
      rw [Option.map_eq_none_iff] at no
      rw [no, List.find?_cons, decide_eq_true rfl]
      rfl
theorem ck_no {ws : List Str} {tb : List Tb} {ts : List Nat} {x : Str} {n : Nat} (h : ∀ r, r < n → ws.getD r "" ≠ x) (me : x ≠ "me") : ckNew ⟨rowsS ws tb ts n, [], []⟩ x = false := by
  have nr : x ∉ (rowsS ws tb ts n).map (·.1) := fun z => by
    obtain ⟨y, hy, e⟩ := List.mem_map.mp z
    obtain ⟨r, hr, rfl⟩ := List.mem_map.mp hy
    exact h r (List.mem_range.mp hr) e
  unfold ckNew
  rw [decide_eq_false me, decide_eq_false nr]
  rfl
def hsR (ws : List Str) (tb : List Tb) (ts : List Nat) (n : Nat) : Hs := ⟨ws.getD 7 "", ⟨rowsS ws tb ts n, [], []⟩, [], [], []⟩
def rowR (ws : List Str) (tb : List Tb) (ts : List Nat) (r : Nat) : List Str := ["row", ws.getD r "", "in", nmT tb (ts.getD r 0)]
def baseR (ws : List Str) (tb : List Tb) (ts : List Nat) : List (List Str) := ["handler", ws.getD 7 ""] :: (List.range ts.length).map (rowR ws tb ts)
structure TsOk (tb : List Tb) (ts : List Nat) : Prop where
  l1 : 1 ≤ ts.length
  l3 : ts.length ≤ 3
  ok : ∀ r, r < ts.length → ts.getD r 0 < tb.length
theorem Wsx.me {ws : List Str} (W : Wsx ws) {i : Nat} (h : i < 12) : ws.getD i "" ≠ "me" := (W.ok _ (getD_mem (by rw [W.len]; exact h))).me
theorem known_nm {tb : List Tb} {k : Nat} (hk : k < tb.length) : known tb (nmT tb k) = true := by rw [nmT_at hk]; exact known_of hk
theorem nm_is {ws : List Str} {tb : List Tb} (W : Wsx ws) (fr : Frs ws tb) {k : Nat} (hk : k < tb.length) : isNm (nmT tb k) = true := by rw [nmT_at hk]; exact name_is (W.ok _ (fr.nm12 W hk).1) (by decide)
theorem rdH_ok {tb : List Tb} {k : Nat} {last p : Int} {h h' : Hs} {ws : List Str} {r : List (List Str)} (hp : placeOf formsH ws = some p) (c : ¬ (p < last ∨ decide (p = 0) ≠ decide (k = 1))) (hr : rlH tb h ws = .inr h') : rdH tb k last h (ws :: r) = rdH tb (k + 1) p h' r := by
  conv => lhs; unfold rdH
  rw [hp]
  dsimp only
  rw [if_neg c, hr]
theorem rdH_er {tb : List Tb} {k : Nat} {last p : Int} {h : Hs} {e : HE} {ws : List Str} {r : List (List Str)} (hp : placeOf formsH ws = some p) (c : ¬ (p < last ∨ decide (p = 0) ≠ decide (k = 1))) (hr : rlH tb h ws = .inl e) : rdH tb k last h (ws :: r) = .inl (e, k) := by
  conv => lhs; unfold rdH
  rw [hp]
  dsimp only
  rw [if_neg c, hr]
theorem rdH_no {tb : List Tb} {k : Nat} {last : Int} {h : Hs} {ws : List Str} {r : List (List Str)} (hp : placeOf formsH ws = none) : rdH tb k last h (ws :: r) = .inl (.bad, k) := by
  conv => lhs; unfold rdH
  rw [hp]
theorem rl_row {tb : List Tb} {h : Hs} {a b : Str} (c : ckNew h.sc a = false) (k : known tb b = true) (l : h.sc.rows.length < 3) (v : h.sc.vals.length ≤ 4) : rlH tb h ["row", a, "in", b] = .inr { h with sc := { h.sc with rows := h.sc.rows ++ [(a, b)] } } := by
  unfold rlH
  rw [if_neg (show ¬ (["row", a, "in", b] : List Str).getD 0 "" = "handler" from (show ¬ ("row" : Str) = "handler" by decide +kernel)), if_pos (show (["row", a, "in", b] : List Str).getD 0 "" = "row" ∨ (["row", a, "in", b] : List Str).getD 0 "" = "value" from .inl rfl)]
  have e : rdPar tb h.sc ["row", a, "in", b] = .inr { h.sc with rows := h.sc.rows ++ [(a, b)] } := by
    unfold rdPar
    rw [if_neg (show ¬ ckNew h.sc ((["row", a, "in", b] : List Str).getD 1 "") = true from (show ¬ ckNew h.sc a = true by rw [c]; decide)), if_neg (show ¬ (["row", a, "in", b] : List Str).getD 0 "" = "value" from (show ¬ ("row" : Str) = "value" by decide +kernel)), if_neg (show ¬ known tb ((["row", a, "in", b] : List Str).getD 3 "") = false from (show ¬ known tb b = false by rw [k]; decide))]
    rfl
  rw [e]
  dsimp only
  rw [if_neg (by rw [List.length_append]; simp only [List.length_cons, List.length_nil]; omega)]
theorem rd_rows {ws : List Str} {tb : List Tb} {ts : List Nat} (W : Wsx ws) (fr : Frs ws tb) (T : TsOk tb ts) (rest : List (List Str)) : ∀ m j (last : Int), j + m = ts.length → last ≤ 1 → ∃ last', last' ≤ 1 ∧ rdH tb (2 + j) last (hsR ws tb ts j) ((List.range' j m).map (rowR ws tb ts) ++ rest) = rdH tb (2 + ts.length) last' (hsR ws tb ts ts.length) rest
  | 0, j, last, e, l => ⟨last, l, by
    have e : j = ts.length := by omega
    subst e
    rfl⟩
  | m + 1, j, last, e, l => by
    have l3 := T.l3
    obtain ⟨last', l', q⟩ := rd_rows W fr T rest m (j + 1) 1 (by omega) (Int.le_refl _)
    refine ⟨last', l', ?_⟩
    rw [← q, List.range'_succ, List.map_cons, List.cons_append]
    have pl : placeOf formsH (rowR ws tb ts j) = some 1 := place_row (W.nm (by omega)) (nm_is W fr (T.ok j (by omega)))
    have st : rlH tb (hsR ws tb ts j) (rowR ws tb ts j) = .inr (hsR ws tb ts (j + 1)) := by
      refine (rl_row (h := hsR ws tb ts j) (ck_no (fun r hr => ws_ne W (by omega) (by omega) (by omega)) (W.me (by omega))) (known_nm (T.ok j (by omega))) ?_ (Nat.zero_le _)).trans ?_
      · show (rowsS ws tb ts j).length < 3
        unfold rowsS
        rw [List.length_map, List.length_range]
        omega
      · unfold hsR
        rw [rowsS_succ]
    rw [rdH_ok pl (by
      rintro (z | z)
      · omega
      · rw [decide_eq_false (by decide), decide_eq_false (by omega)] at z
        exact z rfl) st]
    rw [show 2 + j + 1 = 2 + (j + 1) by omega]
theorem rd_base {ws : List Str} {tb : List Tb} {ts : List Nat} (W : Wsx ws) (fr : Frs ws tb) (T : TsOk tb ts) (rest : List (List Str)) : ∃ last', last' ≤ 1 ∧ rdH tb 1 0 hs0 (baseR ws tb ts ++ rest) = rdH tb (2 + ts.length) last' (hsR ws tb ts ts.length) rest := by
  obtain ⟨last', l', q⟩ := rd_rows W fr T rest ts.length 0 0 (by omega) (by decide)
  refine ⟨last', l', ?_⟩
  rw [← q]
  unfold baseR
  rw [List.cons_append]
  have pl : placeOf formsH ["handler", ws.getD 7 ""] = some 0 := place_handler (W.nm (by decide))
  have st : rlH tb hs0 ["handler", ws.getD 7 ""] = .inr (hsR ws tb ts 0) := by
    unfold rlH
    rw [if_pos (show (["handler", ws.getD 7 ""] : List Str).getD 0 "" = "handler" from rfl)]
    rfl
  rw [rdH_ok pl (by decide) st, List.range_eq_range']
/-- what a line more does -/
def Out (tb : List Tb) (h : Hs) (ws : List Str) : Option HE → Prop
  | none => ∃ h', rlH tb h ws = .inr h'
  | some e => rlH tb h ws = .inl e
def endR (n : Nat) : Option HE → HE × Nat
  | some e => (e, 2 + n)
  | none => (.bad, 3 + n)
theorem rd_more {ws : List Str} {tb : List Tb} {ts : List Nat} (W : Wsx ws) (fr : Frs ws tb) (T : TsOk tb ts) {ln : List Str} {o : Option HE} (pl : placeOf formsH ln = some 3) (ou : Out tb (hsR ws tb ts ts.length) ln o) :
    rdH tb 1 0 hs0 (baseR ws tb ts ++ [ln, [""]]) = .inl (endR ts.length o) ∧ (o = none → ∃ h', rdH tb 1 0 hs0 (baseR ws tb ts ++ [ln]) = .inr h') := by
  have l1 := T.l1
  have c : ∀ {last : Int}, last ≤ 1 → ¬ ((3 : Int) < last ∨ decide ((3 : Int) = 0) ≠ decide (2 + ts.length = 1)) := fun {last} l => by
    rintro (z | z)
    · omega
    · rw [decide_eq_false (by decide), decide_eq_false (by omega)] at z
      exact z rfl
  constructor
  · obtain ⟨last, l, q⟩ := rd_base W fr T [ln, [""]]
    rw [q]
    cases o with
    | some e => exact rdH_er pl (c l) ou
    | none =>
      obtain ⟨h', e⟩ := ou
      rw [rdH_ok pl (c l) e, rdH_no place_empty]
      show Sum.inl (HE.bad, 2 + ts.length + 1) = .inl (.bad, 3 + ts.length)
      rw [show 2 + ts.length + 1 = 3 + ts.length by omega]
  · rintro rfl
    obtain ⟨last, l, q⟩ := rd_base W fr T [ln]
    rw [q]
    obtain ⟨h', e⟩ := ou
    rw [rdH_ok pl (c l) e]
    exact ⟨h', rfl⟩
theorem rd_none {ws : List Str} {tb : List Tb} {ts : List Nat} (W : Wsx ws) (fr : Frs ws tb) (T : TsOk tb ts) : rdH tb 1 0 hs0 (baseR ws tb ts) = .inr (hsR ws tb ts ts.length) := by
  obtain ⟨last, l, q⟩ := rd_base W fr T []
  rw [List.append_nil] at q
  rw [q]
  rfl
/-! the lines -/
theorem ck_mes (tb : List Tb) (s : Sc) : ∀ c, ckTerms tb s (List.replicate c "me") = none
  | 0 => rfl
  | c + 1 => by
    rw [List.replicate_succ]
    unfold ckTerms
    have : ckTerm tb s "me" = none := by
      unfold ckTerm
      rw [if_pos (by unfold tmPlain; rw [decide_eq_true rfl]; rfl)]
    rw [this]
    exact ck_mes tb s c
theorem cols_nm {tb : List Tb} (w : WF tb) {k : Nat} (hk : k < tb.length) : colsOf tb (nmT tb k) = tb[k].cols := by
  unfold colsOf
  rw [nmT_at hk, find_at w.nd hk]
  rfl
def eachD (y : Sc × Dd) : Option HE → HE ⊕ (Sc × Dd)
  | some e => .inl e
  | none => .inr y
def outD : HE ⊕ (Sc × Dd) → Option HE
  | .inl e => some e
  | .inr _ => none
theorem out_deed {tb : List Tb} {ws : List Str} {n : Str} {sc : Sc} (h1 : ws.getD 0 "" ≠ "handler") (h2 : ws.getD 0 "" ≠ "row") (h3 : ws.getD 0 "" ≠ "value") (h4 : ws.getD 0 "" ≠ "need") {x : HE ⊕ (Sc × Dd)} (e : rdDeed tb sc ws = x) : Out tb ⟨n, sc, [], [], []⟩ ws (outD x) := by
  cases x with
  | inl y =>
    show rlH tb ⟨n, sc, [], [], []⟩ ws = .inl y
    unfold rlH
    rw [if_neg h1, if_neg (fun z => z.elim h2 h3), if_neg h4]
    dsimp only
    rw [e]
  | inr y =>
    obtain ⟨s, d⟩ := y
    refine ⟨⟨n, s, [], [Txt.join " " ws], [d]⟩, ?_⟩
    unfold rlH
    rw [if_neg h1, if_neg (fun z => z.elim h2 h3), if_neg h4]
    dsimp only
    rw [e]
    rfl
def lnNew (n t : Str) (c : Nat) : List Str := ([("new" : Str), n, "in", t, "with"] : List Str) ++ List.replicate c ("me" : Str)
def lnNewU (n t r : Str) (c : Nat) : List Str := ([("new" : Str), n, "in", t, "under", r, "with"] : List Str) ++ List.replicate c ("me" : Str)
def lnEach (t r c : Str) : List Str := ["each", t, "below", r, "sets", c, "=", "me"]
def lnMove (r u : Str) : List Str := ["move", r, "under", u]
section
variable {ws : List Str} {tb : List Tb} {ts : List Nat}
theorem out_new (W : Wsx ws) (fr : Frs ws tb) (T : TsOk tb ts) {k c : Nat} {nw : Str} (hk : k < tb.length) (hn : ∀ r, r < ts.length → ws.getD r "" ≠ nw) (me : nw ≠ "me") :
    Out tb (hsR ws tb ts ts.length) (lnNew nw (nmT tb k) c) (if parOf tb (nmT tb k) = none then (if c = tb[k].cols.length then none else some .cnt) else some (.tab (nmT tb k))) := by
  have e : rdNew tb ⟨rowsS ws tb ts ts.length, [], []⟩ nw (nmT tb k) none (List.replicate c ("me" : Str)) = if parOf tb (nmT tb k) = none then (if c = tb[k].cols.length then .inr ⟨rowsS ws tb ts ts.length, [] ++ [(nw, nmT tb k)], []⟩ else .inl .cnt) else .inl (.tab (nmT tb k)) := by
    unfold rdNew
    rw [if_neg (by rw [ck_no hn me]; decide), if_neg (by rw [known_nm hk]; decide)]
    simp only [Option.bind_none, ck_mes, cols_nm fr.wf hk, List.length_replicate]
    unfold ckFit
    by_cases z : parOf tb (nmT tb k) = none
    · rw [if_pos z, if_pos z]
    · rw [if_neg z, if_neg z]
  have d : rdDeed tb ⟨rowsS ws tb ts ts.length, [], []⟩ (lnNew nw (nmT tb k) c) = (rdNew tb ⟨rowsS ws tb ts ts.length, [], []⟩ nw (nmT tb k) none (List.replicate c ("me" : Str))).map id fun s' => (s', ⟨"new", nw, nmT tb k, none, none, List.replicate c ("me" : Str)⟩) := by
    have u : undOf (lnNew nw (nmT tb k) c) = none := by unfold undOf; rw [if_neg (show ¬ (lnNew nw (nmT tb k) c).getD 4 "" = "under" from (show ¬ ("with" : Str) = "under" by decide +kernel))]
    have m : tmsOf (lnNew nw (nmT tb k) c) = List.replicate c ("me" : Str) := by unfold tmsOf; rw [if_neg (show ¬ (lnNew nw (nmT tb k) c).getD 4 "" = "under" from (show ¬ ("with" : Str) = "under" by decide +kernel))]; rfl
    unfold rdDeed
    rw [if_pos (show (lnNew nw (nmT tb k) c).getD 0 "" = "new" from rfl), u, m]
    rfl
  have q := out_deed (n := ws.getD 7 "") (sc := ⟨rowsS ws tb ts ts.length, [], []⟩) (ws := lnNew nw (nmT tb k) c) (show ("new" : Str) ≠ "handler" by decide +kernel) (show ("new" : Str) ≠ "row" by decide +kernel) (show ("new" : Str) ≠ "value" by decide +kernel) (show ("new" : Str) ≠ "need" by decide +kernel) (d.trans (congrArg _ e))
  by_cases z : parOf tb (nmT tb k) = none
  · rw [if_pos z] at q ⊢
    by_cases z2 : c = tb[k].cols.length
    · rw [if_pos z2] at q ⊢
      exact q
    · rw [if_neg z2] at q ⊢
      exact q
  · rw [if_neg z] at q ⊢
    exact q
theorem tab_row (W : Wsx ws) (T : TsOk tb ts) {r : Nat} (hr : r < ts.length) : tabOf ⟨rowsS ws tb ts ts.length, [], []⟩ (ws.getD r "") = some (nmT tb (ts.getD r 0)) ∧ tabAny ⟨rowsS ws tb ts ts.length, [], []⟩ (ws.getD r "") = some (nmT tb (ts.getD r 0)) := by
  have l3 := T.l3
  have q := fst_yes (tb := tb) (ts := ts) W hr (by omega)
  refine ⟨q, ?_⟩
  unfold tabAny
  exact q
theorem out_newU (W : Wsx ws) (fr : Frs ws tb) (T : TsOk tb ts) {k c r : Nat} {nw : Str} (hk : k < tb.length) (hr : r < ts.length) (hn : ∀ r, r < ts.length → ws.getD r "" ≠ nw) (me : nw ≠ "me") :
    Out tb (hsR ws tb ts ts.length) (lnNewU nw (nmT tb k) (ws.getD r "") c) (if parOf tb (nmT tb k) = some (nmT tb (ts.getD r 0)) then (if c = tb[k].cols.length then none else some .cnt) else some (.tab (ws.getD r ""))) := by
  have tr := (tab_row W T hr).2
  have e : rdNew tb ⟨rowsS ws tb ts ts.length, [], []⟩ nw (nmT tb k) (some (ws.getD r "")) (List.replicate c ("me" : Str)) = if parOf tb (nmT tb k) = some (nmT tb (ts.getD r 0)) then (if c = tb[k].cols.length then .inr ⟨rowsS ws tb ts ts.length, [] ++ [(nw, nmT tb k)], []⟩ else .inl .cnt) else .inl (.tab (ws.getD r "")) := by
    unfold rdNew
    rw [if_neg (by rw [ck_no hn me]; decide), if_neg (by rw [known_nm hk]; decide)]
    simp only [Option.bind_some, tr, Option.isSome_some, if_true, ck_mes, cols_nm fr.wf hk, List.length_replicate]
    unfold ckFit ckUnder
    dsimp only
    rw [tr]
    dsimp only
    by_cases z : parOf tb (nmT tb k) = some (nmT tb (ts.getD r 0))
    · rw [if_pos z, if_pos z]
    · rw [if_neg z, if_neg z]
  have d : rdDeed tb ⟨rowsS ws tb ts ts.length, [], []⟩ (lnNewU nw (nmT tb k) (ws.getD r "") c) = (rdNew tb ⟨rowsS ws tb ts ts.length, [], []⟩ nw (nmT tb k) (some (ws.getD r "")) (List.replicate c ("me" : Str))).map id fun s' => (s', ⟨"new", nw, nmT tb k, some (ws.getD r ""), none, List.replicate c ("me" : Str)⟩) := by
    have u : undOf (lnNewU nw (nmT tb k) (ws.getD r "") c) = some (ws.getD r "") := by unfold undOf; rw [if_pos (show (lnNewU nw (nmT tb k) (ws.getD r "") c).getD 4 "" = "under" from rfl)]; rfl
    have m : tmsOf (lnNewU nw (nmT tb k) (ws.getD r "") c) = List.replicate c ("me" : Str) := by unfold tmsOf; rw [if_pos (show (lnNewU nw (nmT tb k) (ws.getD r "") c).getD 4 "" = "under" from rfl)]; rfl
    unfold rdDeed
    rw [if_pos (show (lnNewU nw (nmT tb k) (ws.getD r "") c).getD 0 "" = "new" from rfl), u, m]
    rfl
  have q := out_deed (n := ws.getD 7 "") (sc := ⟨rowsS ws tb ts ts.length, [], []⟩) (ws := lnNewU nw (nmT tb k) (ws.getD r "") c) (show ("new" : Str) ≠ "handler" by decide +kernel) (show ("new" : Str) ≠ "row" by decide +kernel) (show ("new" : Str) ≠ "value" by decide +kernel) (show ("new" : Str) ≠ "need" by decide +kernel) (d.trans (congrArg _ e))
  by_cases z : parOf tb (nmT tb k) = some (nmT tb (ts.getD r 0))
  · rw [if_pos z] at q ⊢
    by_cases z2 : c = tb[k].cols.length
    · rw [if_pos z2] at q ⊢
      exact q
    · rw [if_neg z2] at q ⊢
      exact q
  · rw [if_neg z] at q ⊢
    exact q
theorem out_each (W : Wsx ws) (fr : Frs ws tb) (T : TsOk tb ts) {k r : Nat} {c : Str} (hk : k < tb.length) (hr : r < ts.length) (hc : c ∈ tb[k].cols) :
    Out tb (hsR ws tb ts ts.length) (lnEach (nmT tb k) (ws.getD r "") c) (if nmT tb (ts.getD r 0) ∈ (chainT tb (nmT tb k)).drop 1 then none else some (.tab (nmT tb k))) := by
  have tr := (tab_row W T hr).2
  have e : rdEach tb ⟨rowsS ws tb ts ts.length, [], []⟩ (nmT tb k) (ws.getD r "") c "me" = if nmT tb (ts.getD r 0) ∈ (chainT tb (nmT tb k)).drop 1 then none else some (.tab (nmT tb k)) := by
    unfold rdEach
    rw [if_neg (by rw [known_nm hk]; decide), tr]
    have p : posErr tb (nmT tb k) [c] = none := by
      unfold posErr
      rw [if_pos]
      have := cols_nm fr.wf hk
      unfold colsOf at this
      rw [this]
      exact hc
    have m : ckTerm tb ⟨rowsS ws tb ts ts.length, [], []⟩ "me" = none := by
      unfold ckTerm
      rw [if_pos (by unfold tmPlain; rw [decide_eq_true rfl]; rfl)]
    dsimp only
    rw [p]
    dsimp only
    rw [m]
  have d : rdDeed tb ⟨rowsS ws tb ts ts.length, [], []⟩ (lnEach (nmT tb k) (ws.getD r "") c) = eachD (⟨rowsS ws tb ts ts.length, [], []⟩, ⟨"each", ws.getD r "", nmT tb k, none, some c, ["me"]⟩) (rdEach tb ⟨rowsS ws tb ts ts.length, [], []⟩ (nmT tb k) (ws.getD r "") c "me") := by
    unfold rdDeed
    rw [if_neg (show ¬ (lnEach (nmT tb k) (ws.getD r "") c).getD 0 "" = "new" from (show ¬ ("each" : Str) = "new" by decide +kernel)), if_neg (show ¬ (lnEach (nmT tb k) (ws.getD r "") c).getD 0 "" = "move" from (show ¬ ("each" : Str) = "move" by decide +kernel)), if_neg (show ¬ (lnEach (nmT tb k) (ws.getD r "") c).getD 0 "" = "set" from (show ¬ ("each" : Str) = "set" by decide +kernel)), if_pos (show (lnEach (nmT tb k) (ws.getD r "") c).getD 0 "" = "each" from rfl)]
    rfl
  have q := out_deed (n := ws.getD 7 "") (sc := ⟨rowsS ws tb ts ts.length, [], []⟩) (ws := lnEach (nmT tb k) (ws.getD r "") c) (show ("each" : Str) ≠ "handler" by decide +kernel) (show ("each" : Str) ≠ "row" by decide +kernel) (show ("each" : Str) ≠ "value" by decide +kernel) (show ("each" : Str) ≠ "need" by decide +kernel) (d.trans (congrArg _ e))
  by_cases z : nmT tb (ts.getD r 0) ∈ (chainT tb (nmT tb k)).drop 1
  · rw [if_pos z] at q ⊢
    exact q
  · rw [if_neg z] at q ⊢
    exact q
theorem out_move (W : Wsx ws) (fr : Frs ws tb) (T : TsOk tb ts) {r u : Nat} (hr : r < ts.length) (hu : u < ts.length) :
    Out tb (hsR ws tb ts ts.length) (lnMove (ws.getD r "") (ws.getD u "")) (if parOf tb (nmT tb (ts.getD r 0)) = some (nmT tb (ts.getD u 0)) then none else some (.tab (ws.getD u ""))) := by
  have t1 := (tab_row W T hr).1
  have t2 := (tab_row W T hu).2
  have e : rdMove tb ⟨rowsS ws tb ts ts.length, [], []⟩ (ws.getD r "") (ws.getD u "") = if parOf tb (nmT tb (ts.getD r 0)) = some (nmT tb (ts.getD u 0)) then .inr (nmT tb (ts.getD r 0)) else .inl (.tab (ws.getD u "")) := by
    unfold rdMove ckUnder
    rw [t1, t2]
    dsimp only
    by_cases z : parOf tb (nmT tb (ts.getD r 0)) = some (nmT tb (ts.getD u 0))
    · rw [if_pos z, if_pos z]
    · rw [if_neg z, if_neg z]
  have d : rdDeed tb ⟨rowsS ws tb ts ts.length, [], []⟩ (lnMove (ws.getD r "") (ws.getD u "")) = (rdMove tb ⟨rowsS ws tb ts ts.length, [], []⟩ (ws.getD r "") (ws.getD u "")).map id fun t => (⟨rowsS ws tb ts ts.length, [], []⟩, ⟨"move", ws.getD r "", t, some (ws.getD u ""), none, []⟩) := by
    unfold rdDeed
    rw [if_neg (show ¬ (lnMove (ws.getD r "") (ws.getD u "")).getD 0 "" = "new" from (show ¬ ("move" : Str) = "new" by decide +kernel)), if_pos (show (lnMove (ws.getD r "") (ws.getD u "")).getD 0 "" = "move" from rfl)]
    rfl
  have q := out_deed (n := ws.getD 7 "") (sc := ⟨rowsS ws tb ts ts.length, [], []⟩) (ws := lnMove (ws.getD r "") (ws.getD u "")) (show ("move" : Str) ≠ "handler" by decide +kernel) (show ("move" : Str) ≠ "row" by decide +kernel) (show ("move" : Str) ≠ "value" by decide +kernel) (show ("move" : Str) ≠ "need" by decide +kernel) (d.trans (congrArg _ e))
  by_cases z : parOf tb (nmT tb (ts.getD r 0)) = some (nmT tb (ts.getD u 0))
  · rw [if_pos z] at q ⊢
    exact q
  · rw [if_neg z] at q ⊢
    exact q
end
end My

namespace My
open PySem PySem.Spec PyProof.Rows L2 Evl
/-! ### lines that are due -/
def dueTup : HE → List V
  | .bad => [.str "BadLine"]
  | .dup n => [.str "DuplicateName", .str n]
  | .unk n => [.str "UnknownName", .str n]
  | .tab n => [.str "WrongTable", .str n]
  | .cnt => [.str "WrongCount"]
  | .many => [.str "TooMany"]
def DueV (H : Hp) (v : V) : Option HE → Prop
  | none => v = .non
  | some e => ∃ d, v = .ref d ∧ H d = some (.tup (dueTup e))
theorem DueV.ex {H H' : Hp} {v : V} {o : Option HE} (e : Ex H H') (h : DueV H v o) : DueV H' v o := by
  cases o with
  | none => exact h
  | some x =>
    obtain ⟨d, hv, hd⟩ := h
    exact ⟨d, hv, e _ _ hd⟩
theorem upd_tup {H : Hp} {p q : Addr} {xs ys : List V} {u : HO} (h : H q = some (.tup xs)) (hp : H p = some (.lst ys)) : upd H p u q = some (.tup xs) := by
  rw [upd_ne (fun z => by rw [z, hp] at h; cases h)]
  exact h
theorem DueV.upd {H : Hp} {v : V} {o : Option HE} {p : Addr} {ys : List V} {u : HO} (h : DueV H v o) (hp : H p = some (.lst ys)) : DueV (upd H p u) v o := by
  cases o with
  | none => exact h
  | some x =>
    obtain ⟨d, hv, hd⟩ := h
    exact ⟨d, hv, upd_tup hd hp⟩
/-- an expression that gives what is due -/
def EvD (te : TE) (σ : L2.St) (H : Hp) (o : Option HE) : Prop := ∀ H1, Ex H H1 → ∀ Q : VK, (∀ v H2, Ex H1 H2 → DueV H2 v o → Q v H2) → te σ H1 Q
section
variable {te ta tb : TE} {t : TT} {σ : L2.St} {H : Hp} {o : Option HE} {D : Ends} {tz : TS}
theorem ed_if {b : Bool} (h : EvT t σ H b) (h1 : b = true → EvD ta σ H o) (h2 : b = false → EvD tb σ H o) : EvD (tIf t ta tb) σ H o := fun H1 e Q q => h H1 e _ fun H2 e2 => by
  cases b with
  | true =>
    show ta σ H2 Q
    exact h1 rfl H2 (e.trans e2) Q fun v H3 e3 d => q v H3 (e2.trans e3) d
  | false =>
    show tb σ H2 Q
    exact h2 rfl H2 (e.trans e2) Q fun v H3 e3 d => q v H3 (e2.trans e3) d
theorem ed_var {i : Nat} {v : V} (h : σ[i]? = some (some v)) (d : DueV H v o) : EvD (tVar i) σ H o := fun H1 e Q q => ⟨v, h, q v H1 (Ex.refl H1) (d.ex e)⟩
theorem ed_non : EvD (tC .non) σ H none := fun H1 e Q q => q .non H1 (Ex.refl H1) rfl
theorem ed_tup {x : HE} (h : EvU te σ H (dueTup x)) : EvD te σ H (some x) := fun H1 e Q q => h H1 e _ fun p H2 hp e2 h2 => q _ H2 e2 ⟨p, rfl, h2⟩
theorem ed_is {o' : Option HE} (h : EvD te σ H o) (e : o = o') : EvD te σ H o' := e ▸ h
theorem q_asgD {i : Nat} (h : EvD te σ H o) (k : ∀ v H1, Ex H H1 → DueV H1 v o → tz D (σ.set i (some v)) H1) : tSeq (tAsg te (gName i)) tz D σ H := h H (Ex.refl H) _ fun v H1 e d => k v H1 e d
end
/-! texts of lines -/
theorem row_one (x : Str) : rowS [x] = x := by unfold rowS; rw [TL.join_eq]; rfl
theorem row_app {ys : List Str} (hy : ys ≠ []) : ∀ xs : List Str, rowS (xs ++ [rowS ys]) = rowS (xs ++ ys)
  | [] => row_one _
  | [x] => by
    cases ys with
    | nil => exact absurd rfl hy
    | cons y t =>
      show rowS [x, rowS (y :: t)] = rowS (x :: y :: t)
      rw [row_cons, row_cons, row_one]
  | x :: y :: r => by
    show rowS (x :: y :: (r ++ [rowS ys])) = rowS (x :: y :: (r ++ ys))
    rw [row_cons, row_cons]
    have e : rowS (y :: (r ++ [rowS ys])) = rowS (y :: (r ++ ys)) := row_app hy (y :: r)
    rw [e]
theorem mes_ne {c : Nat} (h : 1 ≤ c) : List.replicate c ("me" : Str) ≠ [] := fun z => by
  have := congrArg List.length z
  rw [List.length_replicate] at this
  exact absurd this (by simp; omega)
theorem new_row (n t : Str) {c : Nat} (h : 1 ≤ c) : "new " ++ n ++ " in " ++ t ++ " with " ++ rowS (List.replicate c "me") = rowS (lnNew n t c) := by
  unfold lnNew
  rw [← row_app (mes_ne h)]
  show _ = rowS ["new", n, "in", t, "with", rowS (List.replicate c "me")]
  rw [row_cons, row_cons, row_cons, row_cons, row_cons, row_one]
  rw [show ("new " : Str) = "new" ++ " " by decide +kernel, show (" in " : Str) = " " ++ "in" ++ " " by decide +kernel, show (" with " : Str) = " " ++ "with" ++ " " by decide +kernel]
  apply TL.ext_tl
  simp only [TL.tl_append, List.append_assoc]
theorem newU_row (n t r : Str) {c : Nat} (h : 1 ≤ c) : rowS ["new", n, "in", t, "under", r, "with", rowS (List.replicate c "me")] = rowS (lnNewU n t r c) := row_app (mes_ne h) ["new", n, "in", t, "under", r, "with"]
theorem each_row (t r c : Str) : rowS ["each", t, "below", r, "sets", c, "= me"] = rowS (lnEach t r c) := by
  have e : ("= me" : Str) = rowS ["=", "me"] := by rw [row_cons, row_one]; decide +kernel
  rw [e]
  exact row_app (ys := ["=", "me"]) (by simp) ["each", t, "below", r, "sets", c]
theorem move_row (r u : Str) : "move " ++ r ++ " under " ++ u = rowS (lnMove r u) := by
  unfold lnMove
  rw [row_cons, row_cons, row_cons, row_one]
  rw [show ("move " : Str) = "move" ++ " " by decide +kernel, show (" under " : Str) = " " ++ "under" ++ " " by decide +kernel]
  apply TL.ext_tl
  simp only [TL.tl_append, List.append_assoc]
theorem hand_row (n : Str) : "handler " ++ n = rowS ["handler", n] := by
  rw [row_cons, row_one, show ("handler " : Str) = "handler" ++ " " by decide +kernel]
theorem rowR_row (n t : Str) : "row " ++ n ++ " in " ++ t = rowS ["row", n, "in", t] := by
  rw [row_cons, row_cons, row_cons, row_one]
  rw [show ("row " : Str) = "row" ++ " " by decide +kernel, show (" in " : Str) = " " ++ "in" ++ " " by decide +kernel]
  apply TL.ext_tl
  simp only [TL.tl_append, List.append_assoc]
theorem plL {w : Str} (h : (w.cps.toList.all fun c => decide (c ≠ 10) && decide (c ≠ 32)) = true) : Pl w := fun c hc => by
  have := List.all_eq_true.mp h c hc
  rw [Bool.and_eq_true] at this
  exact ⟨of_decide_eq_true this.1, of_decide_eq_true this.2⟩
/-- short words without signs of ends -/
def Sh (w : Str) : Prop := Pl w ∧ w.length ≤ 12
def FitR (r : List Str) : Prop := r ≠ [] ∧ (r.map (·.length)).sum + r.length ≤ 800 ∧ ∀ w ∈ r, Pl w
theorem fit_sh {r : List Str} (ne : r ≠ []) (l : r.length ≤ 60) (h : ∀ w ∈ r, Sh w) : FitR r := by
  refine ⟨ne, ?_, fun w hw => (h w hw).1⟩
  have := lens_sum (ys := r) (n := 12) fun w hw => (h w hw).2
  omega
theorem sh_lit {w : Str} (h : (w.cps.toList.all fun c => decide (c ≠ 10) && decide (c ≠ 32)) = true) (l : w.length ≤ 12) : Sh w := ⟨plL h, l⟩
theorem sh_me : Sh "me" := sh_lit (by decide +kernel) (by decide +kernel)
theorem sh_name {w : Str} (h : IsName 12 w) : Sh w := ⟨name_pl h, h.le⟩
/-- what a line more is, and does -/
structure LnOk (ws : List Str) (tb : List Tb) (ts : List Nat) (ln : List Str) (o : Option HE) : Prop where
  pl : placeOf formsH ln = some 3
  ou : Out tb (hsR ws tb ts ts.length) ln o
  fit : FitR ln
  nm : o = none ∨ o = some .cnt ∨ ∃ n, IsName 12 n ∧ o = some (.tab n)
section
variable {ws : List Str} {tb : List Tb} {ts : List Nat}
theorem sh_nm (W : Wsx ws) (fr : Frs ws tb) {k : Nat} (hk : k < tb.length) : IsName 12 (nmT tb k) := by rw [nmT_at hk]; exact W.ok _ (fr.nm12 W hk).1
theorem sh_ws (W : Wsx ws) {i : Nat} (h : i < 12) : IsName 12 (ws.getD i "") := W.ok _ (getD_mem (by rw [W.len]; exact h))
theorem fit_new {n t : Str} {c : Nat} (hn : IsName 12 n) (ht : IsName 12 t) (h : c ≤ 40) : FitR (lnNew n t c) := by
  refine fit_sh (by unfold lnNew; simp) (by unfold lnNew; rw [List.length_append, List.length_replicate]; show 5 + c ≤ 60; omega) fun w hw => ?_
  rcases List.mem_append.mp hw with z | z
  · simp only [List.mem_cons, List.not_mem_nil, or_false] at z
    rcases z with rfl | rfl | rfl | rfl | rfl
    · exact sh_lit (by decide +kernel) (by decide +kernel)
    · exact sh_name hn
    · exact sh_lit (by decide +kernel) (by decide +kernel)
    · exact sh_name ht
    · exact sh_lit (by decide +kernel) (by decide +kernel)
  · rw [(List.mem_replicate.mp z).2]
    exact sh_me
theorem fit_newU {n t r : Str} {c : Nat} (hn : IsName 12 n) (ht : IsName 12 t) (hr : IsName 12 r) (h : c ≤ 40) : FitR (lnNewU n t r c) := by
  refine fit_sh (by unfold lnNewU; simp) (by unfold lnNewU; rw [List.length_append, List.length_replicate]; show 7 + c ≤ 60; omega) fun w hw => ?_
  rcases List.mem_append.mp hw with z | z
  · simp only [List.mem_cons, List.not_mem_nil, or_false] at z
    rcases z with rfl | rfl | rfl | rfl | rfl | rfl | rfl
    · exact sh_lit (by decide +kernel) (by decide +kernel)
    · exact sh_name hn
    · exact sh_lit (by decide +kernel) (by decide +kernel)
    · exact sh_name ht
    · exact sh_lit (by decide +kernel) (by decide +kernel)
    · exact sh_name hr
    · exact sh_lit (by decide +kernel) (by decide +kernel)
  · rw [(List.mem_replicate.mp z).2]
    exact sh_me
theorem fit_each {t r c : Str} (ht : IsName 12 t) (hr : IsName 12 r) (hc : IsName 12 c) : FitR (lnEach t r c) := by
  refine fit_sh (by unfold lnEach; simp) (by show 8 ≤ 60; decide) fun w hw => ?_
  unfold lnEach at hw
  simp only [List.mem_cons, List.not_mem_nil, or_false] at hw
  rcases hw with rfl | rfl | rfl | rfl | rfl | rfl | rfl | rfl
  · exact sh_lit (by decide +kernel) (by decide +kernel)
  · exact sh_name ht
  · exact sh_lit (by decide +kernel) (by decide +kernel)
  · exact sh_name hr
  · exact sh_lit (by decide +kernel) (by decide +kernel)
  · exact sh_name hc
  · exact sh_lit (by decide +kernel) (by decide +kernel)
  · exact sh_me
theorem fit_move {r u : Str} (hr : IsName 12 r) (hu : IsName 12 u) : FitR (lnMove r u) := by
  refine fit_sh (by unfold lnMove; simp) (by show 4 ≤ 60; decide) fun w hw => ?_
  unfold lnMove at hw
  simp only [List.mem_cons, List.not_mem_nil, or_false] at hw
  rcases hw with rfl | rfl | rfl | rfl
  · exact sh_lit (by decide +kernel) (by decide +kernel)
  · exact sh_name hr
  · exact sh_lit (by decide +kernel) (by decide +kernel)
  · exact sh_name hu
theorem fit_base (W : Wsx ws) (fr : Frs ws tb) (T : TsOk tb ts) : ∀ r ∈ baseR ws tb ts, FitR r := fun r hr => by
  have l3 := T.l3
  rcases List.mem_cons.mp hr with rfl | hr
  · refine fit_sh (by simp) (by show 2 ≤ 60; decide) fun w hw => ?_
    simp only [List.mem_cons, List.not_mem_nil, or_false] at hw
    rcases hw with rfl | rfl
    · exact sh_lit (by decide +kernel) (by decide +kernel)
    · exact sh_name (sh_ws W (by decide))
  · obtain ⟨i, hi, rfl⟩ := List.mem_map.mp hr
    have hi := List.mem_range.mp hi
    refine fit_sh (by unfold rowR; simp) (by show 4 ≤ 60; decide) fun w hw => ?_
    unfold rowR at hw
    simp only [List.mem_cons, List.not_mem_nil, or_false] at hw
    rcases hw with rfl | rfl | rfl | rfl
    · exact sh_lit (by decide +kernel) (by decide +kernel)
    · exact sh_name (sh_ws W (by omega))
    · exact sh_lit (by decide +kernel) (by decide +kernel)
    · exact sh_name (sh_nm W fr (T.ok i hi))
theorem base_len (ws : List Str) (tb : List Tb) (ts : List Nat) : (baseR ws tb ts).length = ts.length + 1 := by unfold baseR; rw [List.length_cons, List.length_map, List.length_range]
theorem fit_all (W : Wsx ws) (fr : Frs ws tb) (T : TsOk tb ts) {more : List (List Str)} (h : ∀ r ∈ more, FitR r) (l : more.length ≤ 2) : Fit (baseR ws tb ts ++ more) := by
  have l3 := T.l3
  refine ⟨by unfold baseR; simp, by rw [List.length_append, base_len]; omega, fun r hr => ?_⟩
  rcases List.mem_append.mp hr with z | z
  · exact fit_base W fr T r z
  · exact h r z
theorem fit_empty : FitR [""] := ⟨by simp, by decide +kernel, fun w hw => by rw [List.mem_singleton.mp hw]; exact plL (by decide +kernel)⟩
end
/-- what drawn names are -/
structure Exx (ws ex : List Str) : Prop where
  len : ex.length = 8
  ok : ∀ w ∈ ex, IsName 12 w
  no : ∀ w ∈ ex, w ∉ ws
theorem Exx.ne {ws ex : List Str} (X : Exx ws ex) (W : Wsx ws) {i r : Nat} (hi : i < 8) (hr : r < 12) : ws.getD r "" ≠ ex.getD i "" := fun z => X.no _ (getD_mem (by rw [X.len]; exact hi)) (by rw [← z]; exact getD_mem (by rw [W.len]; exact hr))
theorem Exx.is {ws ex : List Str} (X : Exx ws ex) {i : Nat} (hi : i < 8) : IsName 12 (ex.getD i "") := X.ok _ (getD_mem (by rw [X.len]; exact hi))
theorem getE {ws ex : List Str} (W : Wsx ws) (X : Exx ws ex) {i : Nat} (hi : i < 8) : ((ws ++ ex).map V.str)[12 + i]? = some (.str (ex.getD i "")) := by
  rw [List.map_append, List.getElem?_append_right (by rw [List.length_map, W.len]; omega), List.length_map, W.len, show 12 + i - 12 = i by omega]
  exact getD_at (by rw [X.len]; exact hi)
/-- lists of tuples of a line's text and what is due -/
structure LdAt (H : Hp) (p : Addr) (xs : List (Addr × V × List Str × Option HE)) : Prop where
  l : H p = some (.lst (xs.map fun x => V.ref x.1))
  t : ∀ x ∈ xs, H x.1 = some (.tup [.str (rowS x.2.2.1), x.2.1]) ∧ DueV H x.2.1 x.2.2.2
theorem LdAt.ex {H H' : Hp} {p : Addr} {xs : List (Addr × V × List Str × Option HE)} (e : Ex H H') (h : LdAt H p xs) : LdAt H' p xs := ⟨e _ _ h.l, fun x hx => ⟨e _ _ (h.t x hx).1, (h.t x hx).2.ex e⟩⟩
theorem LdAt.snoc {H : Hp} {p q : Addr} {v : V} {ln : List Str} {o : Option HE} {xs : List (Addr × V × List Str × Option HE)} (h : LdAt H p xs) (hq : H q = some (.tup [.str (rowS ln), v])) (d : DueV H v o) : LdAt (upd H p (.lst ((xs.map fun x => V.ref x.1) ++ [V.ref q]))) p (xs ++ [(q, v, ln, o)]) := by
  refine ⟨by rw [upd_same, List.map_append]; rfl, fun x hx => ?_⟩
  rcases List.mem_append.mp hx with z | z
  · exact ⟨upd_tup (h.t x z).1 h.l, (h.t x z).2.upd h.l⟩
  · obtain rfl := List.mem_singleton.mp z
    exact ⟨upd_tup hq h.l, d.upd h.l⟩
theorem q_appLd {K : PySem.W.Frag} {ta : TE} {tt : TA} {σ : L2.St} {D : Ends} {tz : TS} {H H0 : Hp} {p : Addr} {v : V} {ln : List Str} {o : Option HE} {xs : List (Addr × V × List Str × Option HE)} (ld : LdAt H p xs) (n : xs.length ≤ 1000) (ha : Ev ta σ H (.ref p)) (he : EvA tt σ H [.str (rowS ln), v]) (d : DueV H v o) (e0 : Ex H0 H) (p0 : H0 p = none)
    (k : ∀ q G, Ex H0 G → (∀ v o, DueV H v o → DueV G v o) → LdAt G p (xs ++ [(q, v, ln, o)]) → tz D σ G) : tSeq (tDrop (tBM K "list" rAppend ta (tCons (tTup tt) tNil))) tz D σ H :=
  q_appU ld.l ha (eu_tup he (by show 2 ≤ 100000; decide)) (by rw [List.length_map]; omega) fun q H1 hq e h1 => k q _ (Ex.mut (e0.trans e) p0) (fun v o dv => (dv.ex e).upd (e _ _ ld.l)) ((ld.ex e).snoc h1 (d.ex e))
abbrev sLD : Stmt := top 54
theorem scLD : FnScope ["state", "tables", "names", "k", "row", "t", "count", "terms", "wrong", "found", "due", "line"] ["state", "tables", "names", "k", "row", "t"] (defScope sLD) := ⟨rfl, rfl, rfl, by decide +kernel, rfl, by decide +kernel, by decide +kernel⟩
def spLD (K : PySem.W.Frag) : Sp := fun vs H Q _ => ∃ (st l ta nm : Addr) (ws ex : List Str) (ps : List (Addr × Addr)) (tb : List Tb) (ts : List Nat) (k r : Nat), vs = [.ref st, .ref ta, .ref nm, .int (k : Int), .str (ws.getD r ""), .int ((ts.getD r 0 : Nat) : Int)] ∧
  B8 st l nm (ws ++ ex) H ∧ LT H ta ps tb ∧ (ta ≠ st ∧ ta ≠ l) ∧ (∀ q ∈ ps, (q.1 ≠ st ∧ q.1 ≠ l) ∧ (q.2 ≠ st ∧ q.2 ≠ l)) ∧ Wsx ws ∧ Exx ws ex ∧ Frs ws tb ∧ TsOk tb ts ∧ k < tb.length ∧ r < ts.length ∧
  ∀ p xs H', Ext st l H H' → StAt H' st l → H p = none → LdAt H' p xs → (∀ x ∈ xs, LnOk ws tb ts x.2.2.1 x.2.2.2) → xs.length ≤ 3 → Q (.ref p) H'
structure TLd (mg : Str → Option Value) : Prop where
  n_len : mg "len" = none
theorem inV_nats (t : Nat) : ∀ xs : List Nat, inV (.int (t : Int)) (xs.map fun (j : Nat) => V.int (j : Int)) = decide (t ∈ xs)
  | [] => by simp [inV]
  | p :: ps => by
    have ih := inV_nats t ps
    show (eqV (.int (p : Int)) (.int (t : Int)) || inV (.int (t : Int)) (ps.map fun (j : Nat) => V.int (j : Int))) = _
    rw [ih]
    show (((p : Int) == (t : Int)) || decide (t ∈ ps)) = _
    by_cases h : p = t
    · subst h; simp
    · have h' : ¬ t = p := fun e => h e.symm
      have h2 : ((p : Int) == (t : Int)) = false := beq_eq_false_iff_ne.mpr (by omega)
      rw [h2]
      simp [h']
section
variable {P : Program} {w : World} {K : PySem.W.Frag} {mg : Str → Option Value} {base : Heap}
theorem ok_ld {f fD fG : Addr} {fd fdD fdG : FuncData} (F : Fun K "_law_lines_due" "_law_lines_due" sLD f fd) (T : TLd mg) (G__law_draw : FnOk P w K mg base CX0 1 fD fdD ["st", "limit"] spDraw) (m__law_draw : mg "_law_draw" = some (.ref fD)) (k__law_draw : PySem.W.keepIn K (.ref fD) = true) (b__law_draw : Binds K fdD ["st", "limit"] [])
    (G__law_get_chain : FnOk P w K mg base CX0 7 fG fdG ["tb", "t"] (spGch 5)) (m__law_get_chain : mg "_law_get_chain" = some (.ref fG)) (k__law_get_chain : PySem.W.keepIn K (.ref fG) = true) (b__law_get_chain : Binds K fdG ["tb", "t"] []) :
    FnOk P w K mg base CX0 8 f fd ["state", "tables", "names", "k", "row", "t"] (spLD K) := by
  refine F.ok scLD (fun vs H Q E h => ?_) (fun cdv A outer s H vs Q E hr h => ?_)
  · obtain ⟨st, l, ta, nm, ws, ex, ps, tb, ts, k, r, rfl, _⟩ := h
    rfl
  · obtain ⟨st, l, ta, nm, ws, ex, ps, tb, ts, k, r, rfl, B, L, ot, op, W, X8, fr, TT, hk, hrl, kk⟩ := h
    have hr__law_draw : Room 1 _ := hr.mono (by decide)
    have hr__law_get_chain : Room 7 _ := hr
    refine ⟨_, (pss_cons (ps_set (i := 6) scLD.nd rfl (Or.inl rfl) (pe_op op_add (pe_callB (lenSeq K) (by rfl) T.n_len (by decide +kernel) (pa_cons (pe_ix (ixT K) (pe_ix (ixL K) (pv 1) (pv 3) (fun _ _ => rfl)) pe_int (fun _ _ => rfl)) pa_nil)) (pe_call G__law_draw hr__law_draw rfl m__law_draw k__law_draw b__law_draw .nil pass0 (pa_cons (pv 0) (pa_cons pe_int pa_nil)))))
    (pss_cons (ps_set (i := 7) scLD.nd rfl (Or.inl rfl) (bmK K PySem.F.plainAttrs_str PySem.F.slot_str_join PySem.F.type_str_join (mtJoinK K) pe_str (pa_cons (pe_op op_rep (pe_lst (pa_cons pe_str pa_nil)) (pv 6)) pa_nil)))
    (pss_cons (ps_set (i := 8) scLD.nd rfl (Or.inl rfl) (pe_ifExp (pt_cmpR op_ne (pv 6) (pe_callB (lenSeq K) (by rfl) T.n_len (by decide +kernel) (pa_cons (pe_ix (ixT K) (pe_ix (ixL K) (pv 1) (pv 3) (fun _ _ => rfl)) pe_int (fun _ _ => rfl)) pa_nil)) (nomark _)) (pe_tup (pa_cons pe_str pa_nil)) pe_non))
    (pss_cons (ps_set (i := 9) scLD.nd rfl (Or.inl rfl) (pe_lst pa_nil))
    (pss_cons (ps_set (i := 10) scLD.nd rfl (Or.inl rfl) (pe_ifExp (pt_cmpR op_ge (pe_ix (ixT K) (pe_ix (ixL K) (pv 1) (pv 3) (fun _ _ => rfl)) pe_int (fun _ _ => rfl)) pe_int (nomark _)) (pe_tup (pa_cons pe_str (pa_cons (pe_ix (ixT K) (pe_ix (ixL K) (pv 1) (pv 3) (fun _ _ => rfl)) pe_int (fun _ _ => rfl)) pa_nil))) (pv 8)))
    (pss_cons (ps_expr (bmK K PySem.F.plainAttrs_list PySem.F.slot_list_append PySem.F.type_list_append mt_append (pv 9) (pa_cons (pe_tup (pa_cons (pe_op op_add_str (pe_op op_add_str (pe_op op_add_str (pe_op op_add_str (pe_op op_add_str pe_str (pe_ix (ixL K) (pv 2) pe_int (fun _ _ => rfl))) pe_str) (pe_ix (ixT K) (pe_ix (ixL K) (pv 1) (pv 3) (fun _ _ => rfl)) pe_int (fun _ _ => rfl))) pe_str) (pv 7)) (pa_cons (pv 10) pa_nil))) pa_nil)))
    (pss_cons (ps_set (i := 10) scLD.nd rfl (Or.inl rfl) (pe_ifExp (pt_cmpR op_eq (pe_ix (ixT K) (pe_ix (ixL K) (pv 1) (pv 3) (fun _ _ => rfl)) pe_int (fun _ _ => rfl)) (pv 5) (nomark _)) (pv 8) (pe_tup (pa_cons pe_str (pa_cons (pv 4) pa_nil)))))
    (pss_cons (ps_set (i := 11) scLD.nd rfl (Or.inl rfl) (bmK K PySem.F.plainAttrs_str PySem.F.slot_str_join PySem.F.type_str_join (mtJoinK K) pe_str (pa_cons (pe_lst (pa_cons pe_str (pa_cons (pe_ix (ixL K) (pv 2) pe_int (fun _ _ => rfl)) (pa_cons pe_str (pa_cons (pe_ix (ixT K) (pe_ix (ixL K) (pv 1) (pv 3) (fun _ _ => rfl)) pe_int (fun _ _ => rfl)) (pa_cons pe_str (pa_cons (pv 4) (pa_cons pe_str (pa_cons (pv 7) pa_nil))))))))) pa_nil)))
    (pss_cons (ps_expr (bmK K PySem.F.plainAttrs_list PySem.F.slot_list_append PySem.F.type_list_append mt_append (pv 9) (pa_cons (pe_tup (pa_cons (pv 11) (pa_cons (pv 10) pa_nil))) pa_nil)))
    (pss_cons (ps_set (i := 10) scLD.nd rfl (Or.inl rfl) (pe_ifExp (pt_cmpR (inSeq K) (pv 5) (pe_slice (slL K) (pe_call G__law_get_chain hr__law_get_chain rfl m__law_get_chain k__law_get_chain b__law_get_chain .nil pass0 (pa_cons (pv 1) (pa_cons (pv 3) pa_nil))) (po_some pe_int) po_none) (by rfl)) pe_non (pe_tup (pa_cons pe_str (pa_cons (pe_ix (ixT K) (pe_ix (ixL K) (pv 1) (pv 3) (fun _ _ => rfl)) pe_int (fun _ _ => rfl)) pa_nil)))))
    (pss_cons (ps_set (i := 11) scLD.nd rfl (Or.inl rfl) (bmK K PySem.F.plainAttrs_str PySem.F.slot_str_join PySem.F.type_str_join (mtJoinK K) pe_str (pa_cons (pe_lst (pa_cons pe_str (pa_cons (pe_ix (ixT K) (pe_ix (ixL K) (pv 1) (pv 3) (fun _ _ => rfl)) pe_int (fun _ _ => rfl)) (pa_cons pe_str (pa_cons (pv 4) (pa_cons pe_str (pa_cons (pe_ix (ixL K) (pe_ix (ixT K) (pe_ix (ixL K) (pv 1) (pv 3) (fun _ _ => rfl)) pe_int (fun _ _ => rfl)) pe_int (fun _ _ => rfl)) (pa_cons pe_str pa_nil)))))))) pa_nil)))
    (pss_cons (ps_expr (bmK K PySem.F.plainAttrs_list PySem.F.slot_list_append PySem.F.type_list_append mt_append (pv 9) (pa_cons (pe_tup (pa_cons (pv 11) (pa_cons (pv 10) pa_nil))) pa_nil)))
    (pss_one (ps_ret (pv 9))))))))))))))), ?_⟩
    have six := fr.six
    have l3 := TT.l3
    have ht : ts.getD r 0 < tb.length := TT.ok r hrl
    obtain ⟨c1, c4, cnd, cws⟩ := fr.cols k hk
    have lenE : ∀ {H1 : Hp} {σ : L2.St}, LT H1 ta ps tb → σ[1]? = some (some (.ref ta)) → σ[3]? = some (some (.int (k : Int))) → Ev (tCB (rLenS K) (tCons (tOp (rIxT K) (tOp (rIxL K) (tVar 1) (tVar 3)) (tC (.int 2))) tNil)) σ H1 (.int (tb[k].cols.length : Int)) := fun {H1 σ} L1 h1 h3 => ev_is (ev_lenA (ev_csT L1 hk rfl (ev_var h1) (ev_var h3)) (.inl (SqL.of (L1.tupD hk).2))) (by rw [List.length_map])
    refine q_set (w_op (w_ev (lenE L rfl rfl) fun H1 e1 => w_draw (st := st) (l := l) (n := 2) (ea_cons (ev_var rfl) (ea_cons ev_c ea_nil)) (B.ex e1).S (by decide) (by decide) fun d H2 d0 d1 e2 S2 => ⟨_, _, rfl, rfl, ?_⟩))
    obtain ⟨dn, rfl⟩ : ∃ n : Nat, d = n := ⟨d.toNat, by omega⟩
    have hc : ((tb[k].cols.length : Int) + (dn : Int)) = ((tb[k].cols.length + dn : Nat) : Int) := by omega
    refine s_norm [some (.ref st), some (.ref ta), some (.ref nm), some (.int (k : Int)), some (.str (ws.getD r "")), some (.int ((ts.getD r 0 : Nat) : Int)), some (.int ((tb[k].cols.length + dn : Nat) : Int)), none, none, none, none, none] (by rw [← hc]; rfl) ?_
    have lc : 1 ≤ tb[k].cols.length + dn ∧ tb[k].cols.length + dn ≤ 5 := by omega
    generalize tb[k].cols.length + dn = c at lc ⊢
    have B2 := (B.ex e1).ext e2 S2
    have L2' := (L.ex e1).ext e2 ot op
    have e02 : Ext st l H H2 := (Ext.same e1).trans e2
    refine q_asg (v := .str (rowS (List.replicate c "me"))) (ev_joinL (K := K) (a := " ") (ys := List.replicate c "me") ev_c (el_is (el_repI (el_lst (ea_cons ev_c ea_nil) (by show 1 ≤ 100000; decide)) (ev_var rfl) (by omega) (by omega)) (by rw [List.map_replicate]; rfl)) ?_) (fun H3 e3 => ?_)
    · have := lens_sum (ys := List.replicate c ("me" : Str)) (n := 12) fun m hm => by rw [(List.mem_replicate.mp hm).2]; decide +kernel
      rw [List.length_replicate] at this ⊢
      have e1 : (" " : Str).length = 1 := rfl
      rw [e1]
      omega
    have nmE : ∀ {H1 : Hp} {σ : L2.St}, LT H1 ta ps tb → σ[1]? = some (some (.ref ta)) → σ[3]? = some (some (.int (k : Int))) → Ev (tOp (rIxT K) (tOp (rIxL K) (tVar 1) (tVar 3)) (tC (.int 0))) σ H1 (.str (nmT tb k)) := fun {H1 σ} L1 h1 h3 => by
      rw [nmT_at hk]
      exact ev_nmT L1 hk rfl (ev_var h1) (ev_var h3)
    have nwE : ∀ {H1 : Hp} {σ : L2.St}, B8 st l nm (ws ++ ex) H1 → σ[2]? = some (some (.ref nm)) → Ev (tOp (rIxL K) (tVar 2) (tC (.int 16))) σ H1 (.str (ex.getD 4 "")) := fun {H1 σ} B1 h2 => ev_op (ev_var h2) ev_c (rv_ixL (SqL.of B1.n) (atI_n (j := 16) rfl (getE W X8 (i := 4) (by decide))))
    have nwI := X8.is (i := 4) (by decide)
    have nwN : ∀ r, r < ts.length → ws.getD r "" ≠ ex.getD 4 "" := fun r h => X8.ne W (by decide) (by omega)
    have nmI := sh_nm W fr hk
    have rI := sh_ws W (i := r) (by omega)
    -- the count
    refine q_asgD (o := if c = tb[k].cols.length then none else some .cnt) (ed_if (b := !decide (c = tb[k].cols.length)) (et_test (ev_is (ev_op (ev_var rfl) (lenE (L2'.ex e3) rfl rfl) (rv_ne rfl)) (congrArg V.bl (congrArg not (dec_nat _ _))))) (fun hb => ?_) (fun hb => ?_)) (fun wv H4 e4 d4 => ?_)
    · rw [if_neg (by simpa using hb)]
      exact ed_tup (x := .cnt) (eu_tup (ea_cons ev_c ea_nil) (by show 1 ≤ 100000; decide))
    · rw [if_pos (by simpa using hb)]
      exact ed_non
    refine q_asgL (el_lst ea_nil (by decide)) (fun p H5 hp e5 h5 => ?_)
    have e25 := e3.trans (e4.trans e5)
    have d5 := d4.ex e5
    have p2 := fresh_back (e3.trans e4) hp
    have ld5 : LdAt H5 p [] := ⟨h5, (fun x z => (nomatch z))⟩
    -- without under
    refine q_asgD (o := if parOf tb (nmT tb k) = none then (if c = tb[k].cols.length then none else some .cnt) else some (.tab (nmT tb k))) (ed_if (b := decide (pix tb tb[k] ≥ 0)) (et_test (ev_op (ev_pxT (L2'.ex e25) hk rfl (ev_var rfl) (ev_var rfl)) ev_c rv_I0)) (fun hb => ?_) (fun hb => ?_)) (fun v6 H6 e6 d6 => ?_)
    · rw [if_neg ((pix_root fr.wf hk).mp (of_decide_eq_true hb))]
      exact ed_tup (x := .tab (nmT tb k)) (eu_tup (ea_cons ev_c (ea_cons (nmE (L2'.ex e25) rfl rfl) ea_nil)) (by show 2 ≤ 100000; decide))
    · rw [if_pos (Decidable.byContradiction fun z => of_decide_eq_false hb ((pix_root fr.wf hk).mpr z))]
      exact ed_var rfl d5
    have e26 := e25.trans e6
    have nlen := nwI.le
    have klen := nmI.le
    have tlen : (rowS (List.replicate c "me")).length ≤ 100 := by
      have q := join_len " " (List.replicate c ("me" : Str))
      have := lens_sum (ys := List.replicate c ("me" : Str)) (n := 12) fun m hm => by rw [(List.mem_replicate.mp hm).2]; decide +kernel
      rw [List.length_replicate] at this q
      have e1 : (" " : Str).length = 1 := rfl
      rw [e1] at q
      unfold rowS
      omega
    refine q_appLd (ln := lnNew (ex.getD 4 "") (nmT tb k) c) (ld5.ex e6) (by decide) (ev_var rfl) (ea_cons ?_ (ea_cons (ev_var rfl) ea_nil)) d6 e26 p2 (fun q1 G7 ex7 up7 ld7 => ?_)
    · refine ev_is (ev_add (ev_add (ev_add (ev_add (ev_add ev_c (nwE (B2.ex e26) rfl) (by show 4 + _ ≤ 1000; omega)) ev_c (by rw [app_len]; show 4 + _ + 4 ≤ 1000; omega)) (nmE (L2'.ex e26) rfl rfl) (by rw [app_len, app_len]; show 4 + _ + 4 + _ ≤ 1000; omega)) ev_c (by rw [app_len, app_len, app_len]; show 4 + _ + 4 + _ + 6 ≤ 1000; omega)) (ev_var rfl) (by rw [app_len, app_len, app_len, app_len]; show 4 + _ + 4 + _ + 6 + _ ≤ 1000; omega)) ?_
      exact congrArg V.str (new_row _ _ lc.1)
    have d7 := up7 _ _ (d5.ex e6)
    -- with under
    refine q_asgD (o := if parOf tb (nmT tb k) = some (nmT tb (ts.getD r 0)) then (if c = tb[k].cols.length then none else some .cnt) else some (.tab (ws.getD r ""))) (ed_if (b := decide (pix tb tb[k] = ((ts.getD r 0 : Nat) : Int))) (et_test (ev_is (ev_op (ev_pxT (L2'.ex ex7) hk rfl (ev_var rfl) (ev_var rfl)) (ev_var rfl) (rv_eq rfl)) (congrArg V.bl (decide_eq_decide.mpr ⟨fun z => V.int.inj z, fun z => congrArg V.int z⟩)))) (fun hb => ?_) (fun hb => ?_)) (fun v8 H8 e8 d8 => ?_)
    · rw [if_pos ((pix_is W fr ht hk).mp (of_decide_eq_true hb))]
      exact ed_var rfl d7
    · rw [if_neg fun z => of_decide_eq_false hb ((pix_is W fr ht hk).mpr z)]
      exact ed_tup (x := .tab (ws.getD r "")) (eu_tup (ea_cons ev_c (ea_cons (ev_var rfl) ea_nil)) (by show 2 ≤ 100000; decide))
    have ex8 := ex7.trans e8
    have bd : ∀ {ys : List Str}, ys.length ≤ 20 → (∀ m ∈ ys, m.length ≤ 100) → (ys.map (·.length)).sum + ys.length * (" " : Str).length ≤ 16777216 := fun {ys} h1 h2 => by
      have := lens_sum h2
      have e1 : (" " : Str).length = 1 := rfl
      rw [e1]
      omega
    have rlen := rI.le
    refine q_asg (v := .str (rowS (lnNewU (ex.getD 4 "") (nmT tb k) (ws.getD r "") c))) (ev_is (ev_joinL (K := K) (a := " ") (ys := ["new", ex.getD 4 "", "in", nmT tb k, "under", ws.getD r "", "with", rowS (List.replicate c "me")]) ev_c (el_lst (ea_cons ev_c (ea_cons (nwE (B2.ex ex8) rfl) (ea_cons ev_c (ea_cons (nmE (L2'.ex ex8) rfl rfl) (ea_cons ev_c (ea_cons (ev_var rfl) (ea_cons ev_c (ea_cons (ev_var rfl) ea_nil)))))))) (by show 8 ≤ 100000; decide)) (bd (by show 8 ≤ 20; decide) fun m hm => ?_)) (congrArg V.str (newU_row _ _ _ lc.1))) (fun H9 e9 => ?_)
    · simp only [List.mem_cons, List.not_mem_nil, or_false] at hm
      rcases hm with rfl | rfl | rfl | rfl | rfl | rfl | rfl | rfl
      · decide +kernel
      · omega
      · decide +kernel
      · omega
      · decide +kernel
      · omega
      · decide +kernel
      · exact tlen
    have ld9 := ld7.ex (e8.trans e9)
    refine q_appLd (ln := lnNewU (ex.getD 4 "") (nmT tb k) (ws.getD r "") c) ld9 (by show 1 ≤ 1000; decide) (ev_var rfl) (ea_cons (ev_var rfl) (ea_cons (ev_var rfl) ea_nil)) (d8.ex e9) (ex8.trans e9) p2 (fun q2 G10 ex10 up10 ld10 => ?_)
    -- each
    have chE : ∀ {σ : L2.St} {H4 : Hp} {E : XK}, Ex H2 H4 → σ[1]? = some (some (.ref ta)) → σ[3]? = some (some (.int (k : Int))) → EvL (tCall (spGch 5) [] E (tCons (tVar 1) (tCons (tVar 3) tNil))) σ H4 ((chI tb 5 k).map fun (j : Nat) => V.int (j : Int)) := fun {σ H4 E} e4 h1 h3 => fun H7 e7 Q1 q1 =>
      w_call (w_eva (ea_cons (ev_var h1) (ea_cons (ev_var h3) ea_nil)) fun H8 e8 => ⟨ta, ps, tb, k, rfl, L2'.ex (e4.trans (e7.trans e8)), fr.wf, hk, by omega, by decide, fun p H9 e9 hp h9 => q1 p H9 (fresh_back e8 hp) (e8.trans e9) h9⟩)
    have chl : 1 ≤ (chI tb 5 k).length := by unfold chI; simp
    have flat : (((chI tb 5 k).drop 1).map fun (j : Nat) => V.int (j : Int)).all flatV = true := by rw [List.all_map, List.all_eq_true]; intro x _; rfl
    refine q_asgD (o := if nmT tb (ts.getD r 0) ∈ (chainT tb (nmT tb k)).drop 1 then none else some (.tab (nmT tb k))) (ed_if (b := decide (ts.getD r 0 ∈ (chI tb 5 k).drop 1)) (et_test (ev_is (ev_opL (xs := ((chI tb 5 k).drop 1).map fun (j : Nat) => V.int (j : Int)) (ev_var rfl) (el_is (el_slE (lo := some ((1 : Nat) : Int)) (hi := none) (chE ex10 rfl rfl) (eo_some ev_c) eo_none) (by rw [cutV_drop _ _ (by rw [List.length_map]; exact chl), List.map_drop])) (fun p H5 h5 e5 => rv_isL (SqL.of h5) rfl flat)) (congrArg V.bl (inV_nats _ _)))) (fun hb => ?_) (fun hb => ?_)) (fun v11 H11 e11 d11 => ?_)
    · rw [if_pos ((ch_mem W fr ht hk).mpr (of_decide_eq_true hb))]
      exact ed_non
    · rw [if_neg fun z => of_decide_eq_false hb ((ch_mem W fr ht hk).mp z)]
      exact ed_tup (x := .tab (nmT tb k)) (eu_tup (ea_cons ev_c (ea_cons (nmE (L2'.ex ex10) rfl rfl) ea_nil)) (by show 2 ≤ 100000; decide))
    have ex11 := ex10.trans e11
    obtain ⟨c0, cr, hcc⟩ : ∃ x t, tb[k].cols = x :: t := by
      cases z : tb[k].cols with
      | nil => rw [z] at c1; simp at c1
      | cons x t => exact ⟨x, t, rfl⟩
    have c0m : c0 ∈ tb[k].cols := by rw [hcc]; exact List.mem_cons_self ..
    have c0I : IsName 12 c0 := W.ok _ (cws _ c0m)
    have c0l := c0I.le
    refine q_asg (v := .str (rowS (lnEach (nmT tb k) (ws.getD r "") c0))) (ev_is (ev_joinL (K := K) (a := " ") (ys := ["each", nmT tb k, "below", ws.getD r "", "sets", c0, "= me"]) ev_c (el_lst (ea_cons ev_c (ea_cons (nmE (L2'.ex ex11) rfl rfl) (ea_cons ev_c (ea_cons (ev_var rfl) (ea_cons ev_c (ea_cons (ev_op (ev_csT (L2'.ex ex11) hk rfl (ev_var rfl) (ev_var rfl)) ev_c (rv_ixL (SqL.of ((L2'.ex ex11).tupD hk).2) (atI_n (j := 0) rfl (by rw [hcc]; rfl)))) (ea_cons ev_c ea_nil))))))) (by show 7 ≤ 100000; decide)) (bd (by show 7 ≤ 20; decide) fun m hm => ?_)) (congrArg V.str (each_row _ _ _))) (fun H12 e12 => ?_)
    · simp only [List.mem_cons, List.not_mem_nil, or_false] at hm
      rcases hm with rfl | rfl | rfl | rfl | rfl | rfl | rfl
      · decide +kernel
      · omega
      · decide +kernel
      · omega
      · decide +kernel
      · omega
      · decide +kernel
    have ld12 := ld10.ex (e11.trans e12)
    refine q_appLd (ln := lnEach (nmT tb k) (ws.getD r "") c0) ld12 (by show 2 ≤ 1000; decide) (ev_var rfl) (ea_cons (ev_var rfl) (ea_cons (ev_var rfl) ea_nil)) (d11.ex e12) (ex11.trans e12) p2 (fun q3 G13 ex13 up13 ld13 => ?_)
    have hp0 : H p = none := fresh_ext B.S e02 S2 p2
    refine s_ret (ev_var rfl) (fun H14 e14 => kk p _ H14 (e02.trans (Ext.same (ex13.trans e14))) (S2.same (ex13.trans e14)) hp0 (ld13.ex e14) (fun x hx => ?_) (by simp))
    simp only [List.nil_append, List.cons_append, List.mem_cons, List.not_mem_nil, or_false] at hx
    rcases hx with rfl | rfl | rfl
    · refine ⟨?_, out_new W fr TT hk nwN nwI.me, fit_new nwI nmI (by omega), ?_⟩
      · obtain ⟨c', rfl⟩ : ∃ c', c = c' + 1 := ⟨c - 1, by omega⟩
        exact place_new (name_is nwI (by decide)) (nm_is W fr hk) c'
      · dsimp only
        split
        · split
          · exact .inl rfl
          · exact .inr (.inl rfl)
        · exact .inr (.inr ⟨_, nmI, rfl⟩)
    · refine ⟨?_, out_newU W fr TT hk hrl nwN nwI.me, fit_newU nwI nmI rI (by omega), ?_⟩
      · obtain ⟨c', rfl⟩ : ∃ c', c = c' + 1 := ⟨c - 1, by omega⟩
        exact place_newU (name_is nwI (by decide)) (nm_is W fr hk) (W.nm (by omega)) c'
      · dsimp only
        split
        · split
          · exact .inl rfl
          · exact .inr (.inl rfl)
        · exact .inr (.inr ⟨_, rI, rfl⟩)
    · refine ⟨place_each (nm_is W fr hk) (W.nm (by omega)) (name_is c0I (by decide)), out_each W fr TT hk hrl c0m, fit_each nmI rI c0I, ?_⟩
      dsimp only
      split
      · exact .inl rfl
      · exact .inr (.inr ⟨_, nmI, rfl⟩)
end
end My

namespace My
open PySem PySem.Spec PyProof.Rows L2 Evl
/-! ### is it told as it is due -/
theorem eu_catT {K : PySem.W.Frag} {ta tb : TE} {σ : L2.St} {H : Hp} {xs ys : List V} (ha : EvU ta σ H xs) (hb : EvU tb σ H ys) (ne : xs ≠ []) (hz : xs.length + ys.length ≤ 100000) : EvU (tOp (rCatT K) ta tb) σ H (xs ++ ys) := fun H1 e Q q =>
  ha H1 e _ fun a H2 ha' e2 h2 => hb H2 (e.trans e2) _ fun b H3 _ e3 h3 => ⟨a, b, xs, ys, rfl, rfl, st_of (e3 _ _ h2), st_of h3, ne, sz_of hz, fun z => q a H3 ha' (e2.trans e3) (by rw [e3 _ _ h2, z, List.append_nil]), fun _ p hp => q p _ (fresh_back (e2.trans e3) hp) ((e2.trans e3).trans (Ex.new hp)) upd_same⟩
theorem eu_slT {K : PySem.W.Frag} {te : TE} {tl th : TO} {σ : L2.St} {H : Hp} {a : Addr} {xs : List V} {lo hi : Option Int} (h : Ev te σ H (.ref a)) (h1 : EvO tl σ H lo) (h2 : EvO th σ H hi) (hs : H a = some (.tup xs)) (no : ¬ (HT.sIx xs.length 0 lo = 0 ∧ HT.sIx xs.length xs.length hi = xs.length)) : EvU (tSl (rSlT K) te tl th) σ H (cutV xs lo hi) := fun H1 e _ q =>
  h H1 e _ fun H2 e2 => h1 H2 (e.trans e2) _ fun H3 e3 => h2 H3 ((e.trans e2).trans e3) _ fun H4 e4 =>
    ⟨a, xs, rfl, st_of ((((e.trans e2).trans e3).trans e4) _ _ hs), no, fun p hp => q p _ (fresh_back ((e2.trans e3).trans e4) hp) (((e2.trans e3).trans e4).trans (Ex.new hp)) upd_same⟩
section
variable {C : Addr} {H : Hp} {A : Ad} {rs : List Row} {ow : List (Str × Str)} {tx : Str} {σ : L2.St} {te : TE} {E : XK}
theorem ev_htold (h : Ev te σ H (.str tx)) (hv : σ[0]? = some (some (.ref A.a))) (S : SA C H A rs ow) (wf : WF (tbs rs)) (few : rs.length ≤ 900) (ok : TxOk tx) {x : Hs} (hs : rdHT (tbs rs) tx = .inr x) : Ev (tCall (spHTold C) [] E (tCons (tVar 0) (tCons te tNil))) σ H .non := fun H1 e Q q =>
  w_call (w_eva (ea_cons (ev_var hv) (ea_cons (h.mono e) ea_nil)) fun H2 e2 => ⟨A, rs, ow, tx, rfl, S.ex (e.trans e2), wf, few, ok, fun _ _ H3 e3 => q H3 (e2.trans e3), fun er k z => by rw [hs] at z; cases z⟩)
theorem eu_htold (h : Ev te σ H (.str tx)) (hv : σ[0]? = some (some (.ref A.a))) (S : SA C H A rs ow) (wf : WF (tbs rs)) (few : rs.length ≤ 900) (ok : TxOk tx) {er : HE} {k : Nat} (hs : rdHT (tbs rs) tx = .inl (er, k)) : EvU (tCall (spHTold C) [] E (tCons (tVar 0) (tCons te tNil))) σ H (heTup (k : Int) er) := fun H1 e Q q =>
  w_call (w_eva (ea_cons (ev_var hv) (ea_cons (h.mono e) ea_nil)) fun H2 e2 => ⟨A, rs, ow, tx, rfl, S.ex (e.trans e2), wf, few, ok, (fun x z => by rw [hs] at z; cases z), fun er' k' z p H3 hp e3 h3 => by
    rw [hs] at z
    cases z
    exact q p H3 (fresh_back e2 hp) (e2.trans e3) h3⟩)
end
/-- errors of names that are shaped -/
def ErN (e : HE) : Prop := ∀ n, e = .dup n ∨ e = .unk n ∨ e = .tab n → PyData.strOk n = true
theorem rv_eqHe {K : PySem.W.Frag} {H : Hp} {p q : Addr} {k : Int} {e : HE} (hp : H p = some (.tup (heTup k e))) (hq : H q = some (.tup (heTup k e))) (ok : ErN e) : RV (rEqD K) (.ref p) (.ref q) H (.bl true) := by
  have sh2 : ∀ {x : Str} {i : Int}, PyData.strOk x = true → SeqAt.shaped (.tuple [PyData.str x, .int i]) = true ∧ PyData.eqv (.tuple [PyData.str x, .int i]) (.tuple [PyData.str x, .int i]) = true := fun {x i} h =>
    ⟨by unfold SeqAt.shaped; simp [PyData.canLay0, PyData.canLayAll0, PyData.depth, PyData.depthAll, h], SeqAt.eqv_refl _ (by simp [PyData.canLay0, PyData.canLayAll0, h])⟩
  have two : ∀ {x : Str}, PyData.strOk x = true → H p = some (.tup [.str x, .int k]) → H q = some (.tup [.str x, .int k]) → RV (rEqD K) (.ref p) (.ref q) H (.bl true) := fun {x} h hp hq =>
    rv_eqD (d := .tuple [.str x, .int k]) (e := .tuple [.str x, .int k]) (.tup (st_of hp) (.cons (.str _) (.cons (.int _) .nil))) (.tup (st_of hq) (.cons (.str _) (.cons (.int _) .nil))) (sh2 h).1 (sh2 h).1 (sh2 h).2
  have three : ∀ {x n : Str}, PyData.strOk x = true → PyData.strOk n = true → H p = some (.tup [.str x, .int k, .str n]) → H q = some (.tup [.str x, .int k, .str n]) → RV (rEqD K) (.ref p) (.ref q) H (.bl true) := fun {x n} h hn hp hq =>
    rv_eqD (d := .tuple [.str x, .int k, .str n]) (e := .tuple [.str x, .int k, .str n]) (.tup (st_of hp) (.cons (.str _) (.cons (.int _) (.cons (.str _) .nil)))) (.tup (st_of hq) (.cons (.str _) (.cons (.int _) (.cons (.str _) .nil)))) (sh_dup h hn) (sh_dup h hn) (eq_dup h hn)
  cases e with
  | bad => exact two (x := "BadLine") (by decide +kernel) hp hq
  | cnt => exact two (x := "WrongCount") (by decide +kernel) hp hq
  | many => exact two (x := "TooMany") (by decide +kernel) hp hq
  | dup n => exact three (x := "DuplicateName") (by decide +kernel) (ok n (.inl rfl)) hp hq
  | unk n => exact three (x := "UnknownName") (by decide +kernel) (ok n (.inr (.inl rfl))) hp hq
  | tab n => exact three (x := "WrongTable") (by decide +kernel) (ok n (.inr (.inr rfl))) hp hq
theorem due_at (e : HE) : ∃ w r, dueTup e = .str w :: r ∧ r.length ≤ 1 ∧ ∀ k, heTup k e = [.str w, .int k] ++ r := by
  cases e with
  | bad => exact ⟨_, _, rfl, by decide, fun _ => rfl⟩
  | cnt => exact ⟨_, _, rfl, by decide, fun _ => rfl⟩
  | many => exact ⟨_, _, rfl, by decide, fun _ => rfl⟩
  | dup n => exact ⟨_, _, rfl, by show 1 ≤ 1; decide, fun _ => rfl⟩
  | unk n => exact ⟨_, _, rfl, by show 1 ≤ 1; decide, fun _ => rfl⟩
  | tab n => exact ⟨_, _, rfl, by show 1 ≤ 1; decide, fun _ => rfl⟩
abbrev sGRt : Stmt := top 55
theorem scGRt : FnScope ["schema", "lines", "line", "due", "told", "number"] ["schema", "lines", "line", "due"] (defScope sGRt) := ⟨rfl, rfl, rfl, by decide +kernel, rfl, by decide +kernel, by decide +kernel⟩
def spGRt (C : Addr) : Sp := fun vs H Q _ => ∃ (A : Ad) (rs : List Row) (ow : List (Str × Str)) (li : Addr) (ws : List Str) (tb : List Tb) (ts : List Nat) (ln : List Str) (v : V) (o : Option HE), vs = [.ref A.a, .ref li, .str (rowS ln), v] ∧ SA C H A rs ow ∧ tbs rs = tb ∧ Wsx ws ∧ Frs ws tb ∧ TsOk tb ts ∧
  H li = some (.lst (((baseR ws tb ts).map rowS).map V.str)) ∧ DueV H v o ∧ LnOk ws tb ts ln o ∧ ∀ H', Ex H H' → Q (.bl true) H'
structure TGr (mg : Str → Option Value) : Prop where
  n_len : mg "len" = none
section
variable {P : Program} {w : World} {K : PySem.W.Frag} {mg : Str → Option Value} {base : Heap}
theorem ok_grt {C f fT : Addr} {fd fdT : FuncData} (F : Fun K "_law_get_right" "_law_get_right" sGRt f fd) (T : TGr mg)
    (G__law_handler_told : FnOk P w K mg base CX0 12 fT fdT ["schema", "text"] (spHTold C)) (m__law_handler_told : mg "_law_handler_told" = some (.ref fT)) (k__law_handler_told : PySem.W.keepIn K (.ref fT) = true) (b__law_handler_told : Binds K fdT ["schema", "text"] []) :
    FnOk P w K mg base CX0 13 f fd ["schema", "lines", "line", "due"] (spGRt C) := by
  refine F.ok scGRt (fun vs H Q E h => ?_) (fun cdv A0 outer s H vs Q E hr h => ?_)
  · obtain ⟨A, rs, ow, li, ws, tb, ts, ln, v, o, rfl, _⟩ := h
    rfl
  · obtain ⟨A, rs, ow, li, ws, tb, ts, ln, v, o, rfl, S, htb, W, fr, TT, hli, dv, lo, kk⟩ := h
    have hr__law_handler_told : Room 12 _ := hr
    have hu64 := hr.units
    refine ⟨_, (pss_cons (ps_set (i := 4) scGRt.nd rfl (Or.inl rfl) (pe_call G__law_handler_told hr__law_handler_told rfl m__law_handler_told k__law_handler_told b__law_handler_told .nil pass0 (pa_cons (pv 0) (pa_cons (bmK K PySem.F.plainAttrs_str PySem.F.slot_str_join PySem.F.type_str_join (mtJoinK K) pe_str (pa_cons (pe_op op_cat (pv 1) (pe_lst (pa_cons (pv 2) (pa_cons pe_str pa_nil)))) pa_nil)) pa_nil))))
    (pss_cons (ps_set (i := 5) scGRt.nd rfl (Or.inl rfl) (pe_op op_add (pe_callB (lenSeq K) (by rfl) T.n_len (by decide +kernel) (pa_cons (pv 1) pa_nil)) pe_int))
    (pss_cons (ps_if (pt_cmpR op_isN (pv 3) pe_non (nomark _))
      (pss_one (ps_ret (pe_and (pe_cmpR (eqDK K hu64) (pv 4) (pe_tup (pa_cons pe_str (pa_cons (pe_op op_add (pv 5) pe_int) pa_nil))) (nomark _)) (pe_one (pe_cmpR op_isN (pe_call G__law_handler_told hr__law_handler_told rfl m__law_handler_told k__law_handler_told b__law_handler_told .nil pass0 (pa_cons (pv 0) (pa_cons (bmK K PySem.F.plainAttrs_str PySem.F.slot_str_join PySem.F.type_str_join (mtJoinK K) pe_str (pa_cons (pe_op op_cat (pv 1) (pe_lst (pa_cons (pv 2) pa_nil))) pa_nil)) pa_nil))) pe_non (nomark _))))))
      pss_nil)
    (pss_one (ps_ret (pe_cmpR (eqDK K hu64) (pv 4) (pe_op op_catT (pe_tup (pa_cons (pe_ix (ixT K) (pv 3) pe_int (fun _ _ => rfl)) (pa_cons (pv 5) pa_nil))) (pe_slice (slT K) (pv 3) (po_some pe_int) po_none)) (nomark _))))))), ?_⟩
    have six := fr.six
    have wf : WF (tbs rs) := by rw [htb]; exact fr.wf
    have few : rs.length ≤ 900 := by
      have : rs.length = tb.length := by rw [← htb, List.length_map]
      omega
    obtain ⟨m1, m2⟩ := rd_more W fr TT lo.pl lo.ou
    have fit2 : Fit (baseR ws tb ts ++ [ln, [""]]) := fit_all W fr TT (fun r hr => by
      simp only [List.mem_cons, List.not_mem_nil, or_false] at hr
      rcases hr with rfl | rfl
      · exact lo.fit
      · exact fit_empty) (by show 2 ≤ 2; decide)
    have fit1 : Fit (baseR ws tb ts ++ [ln]) := fit_all W fr TT (fun r hr => by rw [List.mem_singleton.mp hr]; exact lo.fit) (by show 1 ≤ 2; decide)
    have blen : (((baseR ws tb ts).map rowS).map V.str).length = ts.length + 1 := by rw [List.length_map, List.length_map, base_len]
    have l3 := TT.l3
    have rd2 : rdHT (tbs rs) (txt (baseR ws tb ts ++ [ln, [""]])) = .inl (endR ts.length o) := by
      unfold rdHT
      rw [fit2.lines, htb]
      exact m1
    have tx2 : ∀ {σ : L2.St} {H1 : Hp}, Ex H H1 → σ[1]? = some (some (.ref li)) → σ[2]? = some (some (.str (rowS ln))) → Ev (tBM K "str" (rJoin K) (tC (.str "\n")) (tCons (tOp rCat (tVar 1) (tLst (tCons (tVar 2) (tCons (tC (.str "")) tNil)))) tNil)) σ H1 (.str (txt (baseR ws tb ts ++ [ln, [""]]))) := fun {σ H1} e h1 h2 =>
      ev_joinL (K := K) (a := "\n") (ys := (baseR ws tb ts ++ [ln, [""]]).map rowS) ev_c (el_is (el_catL (ev_var h1) (e _ _ hli) (el_lst (ea_cons (ev_var h2) (ea_cons ev_c ea_nil)) (by show 2 ≤ 100000; decide)) (by rw [blen]; show _ + 2 ≤ 100000; omega)) (by rw [List.map_append, List.map_append]; show _ ++ _ = _ ++ [V.str (rowS ln), V.str (rowS [""])]; rw [row_one])) (Nat.le_trans fit2.sum (by decide))
    have tx1 : ∀ {σ : L2.St} {H1 : Hp}, Ex H H1 → σ[1]? = some (some (.ref li)) → σ[2]? = some (some (.str (rowS ln))) → Ev (tBM K "str" (rJoin K) (tC (.str "\n")) (tCons (tOp rCat (tVar 1) (tLst (tCons (tVar 2) tNil))) tNil)) σ H1 (.str (txt (baseR ws tb ts ++ [ln]))) := fun {σ H1} e h1 h2 =>
      ev_joinL (K := K) (a := "\n") (ys := (baseR ws tb ts ++ [ln]).map rowS) ev_c (el_is (el_catL (ev_var h1) (e _ _ hli) (el_lst (ea_cons (ev_var h2) ea_nil) (by show 1 ≤ 100000; decide)) (by rw [blen]; show _ + 1 ≤ 100000; omega)) (by rw [List.map_append, List.map_append]; rfl)) (Nat.le_trans fit1.sum (by decide))
    have num : ((((baseR ws tb ts).map rowS).map V.str).length : Int) + 1 = ((2 + ts.length : Nat) : Int) := by rw [blen]; omega
    cases o with
    | none =>
      obtain rfl : v = .non := dv
      refine q_asgU (eu_htold (tx2 (Ex.refl H) rfl rfl) rfl S wf few fit2.tx rd2) (fun p H1 hp e1 h1 => ?_)
      refine q_asg (ev_is (ev_op (ev_lenA (ev_var rfl) (.inl (SqL.of (e1 _ _ hli)))) ev_c rv_I0) (congrArg V.int num)) (fun H2 e2 => ?_)
      refine q_when (b := true) (et_test (ev_isNon (ev_var rfl))) (fun _ H3 e3 => ?_) (fun z => nomatch z)
      have e03 := e1.trans (e2.trans e3)
      obtain ⟨x, hx⟩ := m2 rfl
      have rd1 : rdHT (tbs rs) (txt (baseR ws tb ts ++ [ln])) = .inr x := by
        unfold rdHT
        rw [fit1.lines, htb]
        exact hx
      refine s_ret (v := .bl (true && true)) (ev_andV (ev_opV (ys := heTup ((3 + ts.length : Nat) : Int) .bad) (ev_var rfl) (eu_tup (ea_cons ev_c (ea_cons (ev_is (ev_op (ev_var rfl) ev_c rv_I0) (congrArg V.int (show ((2 + ts.length : Nat) : Int) + 1 = ((3 + ts.length : Nat) : Int) by omega))) ea_nil)) (by show 2 ≤ 100000; decide)) (fun q H4 hq e4 => rv_eqHe ((e2.trans (e3.trans e4)) _ _ h1) hq (fun n z => by rcases z with z | z | z <;> cases z))) (fun _ => ev_isNon (ev_htold (tx1 e03 rfl rfl) rfl (S.ex e03) wf few fit1.tx rd1))) (fun H4 e4 => kk H4 (e03.trans e4))
    | some e =>
      obtain ⟨d, rfl, hd⟩ := dv
      obtain ⟨wd, rr, ed, lr, eh⟩ := due_at e
      refine q_asgU (eu_htold (tx2 (Ex.refl H) rfl rfl) rfl S wf few fit2.tx rd2) (fun p H1 hp e1 h1 => ?_)
      refine q_asg (ev_is (ev_op (ev_lenA (ev_var rfl) (.inl (SqL.of (e1 _ _ hli)))) ev_c rv_I0) (congrArg V.int num)) (fun H2 e2 => ?_)
      refine q_when (b := false) (et_test (ev_is (ev_op (ev_var rfl) ev_c (rv_val fun H3 _ Q q => ⟨rfl, q⟩)) rfl)) (fun z => nomatch z) (fun _ H3 e3 => ?_)
      have e03 := e1.trans (e2.trans e3)
      have hd3 : H3 d = some (.tup (.str wd :: rr)) := by rw [← ed]; exact e03 _ _ hd
      have okE : ErN e := by
        intro n hn
        rcases lo.nm with z | z | ⟨m, hm, z⟩
        · cases z
        · cases z
          rcases hn with z | z | z <;> cases z
        · cases z
          rcases hn with z | z | z <;> cases z
          exact name_ok hm
      have cut : cutV (V.str wd :: rr) (some ((1 : Nat) : Int)) none = rr := by rw [cutV_drop _ _ (by rw [List.length_cons]; omega)]; rfl
      refine s_ret (v := .bl true) (ev_opV (ys := heTup ((2 + ts.length : Nat) : Int) e) (ev_var rfl) ?_ (fun q H4 hq e4 => rv_eqHe ((e2.trans (e3.trans e4)) _ _ h1) hq okE)) (fun H4 e4 => kk H4 (e03.trans e4))
      rw [eh]
      refine eu_catT (eu_tup (ea_cons (ev_op (ev_var rfl) ev_c (rv_ixT (st_of hd3) (atI_n (j := 0) rfl rfl))) (ea_cons (ev_var rfl) ea_nil)) (by show 2 ≤ 100000; decide)) ?_ (by simp) (by show 2 + _ ≤ 100000; omega)
      have sl := eu_slT (K := K) (tl := tPart (tC (.int 1))) (th := tNoPart) (lo := some ((1 : Nat) : Int)) (hi := none) (ev_var (σ := [some (.ref A.a), some (.ref li), some (.str (rowS ln)), some (.ref d), some (.ref p), some (.int ((2 + ts.length : Nat) : Int))]) (i := 3) (H := H3) rfl) (eo_some ev_c) eo_none hd3 (fun z => by
        have z1 := z.1
        unfold HT.sIx at z1
        dsimp only at z1
        rw [List.length_cons] at z1
        split at z1 <;> omega)
      rw [cut] at sl
      exact sl
end
end My

namespace My
open PySem PySem.Spec PyProof.Rows L2 Evl
/-! ### texts that are right; a schema stands while numbers are drawn -/
theorem w_methS0 {C : Addr} {A : Ad} {rs : List Row} {ow : List (Str × Str)} {σ : L2.St} {H : Hp} {te : TE} {m : Str} {sp : Sp} {dvs : List V} {E : XK} {Q : VK} (h : Ev te σ H (.ref A.a)) (S : SA C H A rs ow) (no : ∀ a b c d e : V, List.lookup m [(("text" : Str), a), ("_parents", b), ("_columns", c), ("_owners", d), ("_follows", e)] = none)
    (k : ∀ H1, Ex H H1 → sp (.ref A.a :: dvs) H1 Q E) : tMeth C m sp dvs E te tNil σ H Q :=
  h H (Ex.refl H) _ fun H1 e1 => ⟨A.a, A.dx, _, rfl, (S.ex e1).ins, no _ _ _ _ _, k H1 e1⟩
theorem sok_iff {w : Str} : PyData.strOk w = true ↔ ∀ c ∈ TL.tl w, c < 0x110000 := by
  unfold PyData.strOk
  rw [Array.all_eq_true']
  exact ⟨fun h c hc => of_decide_eq_true (h c (Array.mem_toList_iff.mp hc)), fun h c hc => decide_eq_true (h c (Array.mem_toList_iff.mpr hc))⟩
theorem sok_app {a b : Str} (h1 : PyData.strOk a = true) (h2 : PyData.strOk b = true) : PyData.strOk (a ++ b) = true := sok_iff.mpr fun c hc => by
  rw [TL.tl_append] at hc
  exact (List.mem_append.mp hc).elim (sok_iff.mp h1 c) (sok_iff.mp h2 c)
theorem sok_cut {a : Str} {lo hi : Option Int} (h : PyData.strOk a = true) : PyData.strOk (cutS a lo hi) = true := sok_iff.mpr fun c hc => by
  refine sok_iff.mp h c ?_
  unfold cutS at hc
  exact List.mem_of_mem_drop (List.mem_of_mem_take hc)
theorem SA.ext {C st l : Addr} {H0 H H' : Hp} {A : Ad} {rs : List Row} {ow : List (Str × Str)} (S : SA C H A rs ow) (e : Ext st l H H') (S0 : StAt H0 st l) (ha : H0 A.a = none) (new : New H0 A rs) : SA C H' A rs ow := by
  have o : ∀ b ∈ mutS A rs, b ≠ st ∧ b ≠ l := fun b hb => S0.off (new.m b hb)
  have x : ∀ {b : Addr} {u : HO}, b ≠ st ∧ b ≠ l → H b = some u → H' b = some u := fun {b u} h hb => e b u h.1 h.2 hb
  have mem_fa : ∀ r ∈ rs, r.fa ∈ mutS A rs := fun r hr => List.mem_cons_of_mem _ (List.mem_cons_of_mem _ (List.mem_cons_of_mem _ (List.mem_cons_of_mem _ (List.mem_map_of_mem hr))))
  exact ⟨x (S0.off ha) S.ins, x (o _ (List.mem_cons_self ..)) S.hp, x (o _ (List.mem_cons_of_mem _ (List.mem_cons_self ..))) S.hc, x (o _ (List.mem_cons_of_mem _ (List.mem_cons_of_mem _ (List.mem_cons_self ..)))) S.ho, x (o _ (List.mem_cons_of_mem _ (List.mem_cons_of_mem _ (List.mem_cons_of_mem _ (List.mem_cons_self ..))))) S.hf, fun r hr => x (S0.off (new.c r hr)) (S.cs r hr), fun r hr => x (o _ (mem_fa r hr)) (S.fs r hr), S.ne⟩
end My

namespace My
open PySem PySem.Spec PyProof.Rows L2 Evl
section
variable {P : Program} {w : World} {K : PySem.W.Frag} {mg : Str → Option Value} {base : Heap}
abbrev sI_WrongTable : Stmt := inClass (top 7) 0
theorem scI_WrongTable : FnScope ["self", "line", "name"] ["self", "line", "name"] (defScope sI_WrongTable) := ⟨rfl, rfl, rfl, by decide +kernel, rfl, by decide +kernel, by decide +kernel⟩
theorem ok_I_WrongTable {f C : Addr} {fd : FuncData} (F : Fun K "__init__" "WrongTable.__init__" sI_WrongTable f fd) (T : OexC K C) (n1 : PySem.W.findIn K (.ref C) "line" = some none) (n2 : PySem.W.findIn K (.ref C) "name" = some none) : FnOk P w K mg base CX0 1 f fd ["self", "line", "name"] (spX K C ["line", "name"]) := by
  refine F.ok scI_WrongTable (fun vs H Q E h => ?_) (fun cdv A outer s H vs Q E hr h => ?_)
  · obtain ⟨a, ws, rfl, hl, _⟩ := h
    exact congrArg Nat.succ hl
  · obtain ⟨a, ws, rfl, hl, hH, k⟩ := h
    refine ⟨_, (pss_cons (ps_ost (pv 0) (pv 1))
    (pss_one (ps_ost (pv 0) (pv 2)))), ?_⟩
    match ws, hl with
    | [v, w], _ => exact rd_init2 T n1 n2 (by decide +kernel) hH k
abbrev sI_WrongCount : Stmt := inClass (top 8) 0
theorem scI_WrongCount : FnScope ["self", "line"] ["self", "line"] (defScope sI_WrongCount) := ⟨rfl, rfl, rfl, by decide +kernel, rfl, by decide +kernel, by decide +kernel⟩
theorem ok_I_WrongCount {f C : Addr} {fd : FuncData} (F : Fun K "__init__" "WrongCount.__init__" sI_WrongCount f fd) (T : OexC K C) (n1 : PySem.W.findIn K (.ref C) "line" = some none) : FnOk P w K mg base CX0 1 f fd ["self", "line"] (spX K C ["line"]) := by
  refine F.ok scI_WrongCount (fun vs H Q E h => ?_) (fun cdv A outer s H vs Q E hr h => ?_)
  · obtain ⟨a, ws, rfl, hl, _⟩ := h
    exact congrArg Nat.succ hl
  · obtain ⟨a, ws, rfl, hl, hH, k⟩ := h
    refine ⟨_, (pss_one (ps_ost (pv 0) (pv 1))), ?_⟩
    match ws, hl with
    | [v], _ => exact rd_init1 T n1 hH k
end
/-- a written tuple of the top -/
theorem sqt_look {K : PySem.W.Frag} {a : Addr} {od : Option Addr} {us : List Value} {n : Nat} {osl : Array (Option Value)} {xs : List V} (l : K.lookup a = some ⟨.type "tuple", od, .seq us.toArray n, osl⟩) (v : Vals xs us) (z : us.length ≤ 1000) (H : Hp) : SqT K H a xs :=
  .inr ⟨_, _, _, l, rfl, rfl, by show us.toArray.size ≤ sizeLine; rw [List.size_toArray]; exact Nat.le_trans z (by decide), by rw [List.toList_toArray]; exact v⟩
end My

namespace My
open PySem PySem.Spec PyProof.Rows L2 Evl
/-! ### the law -/
theorem w_lcIn {j n : Nat} {te : TE} {vs : List Nat} {σ : L2.St} {H : Hp} {Q : VK} (hw : ∀ x, wipe ((wipe σ vs).set j (some x)) vs = wipe σ vs) (Pv : Addr → Nat → Hp → Prop) (h0 : ∀ D, H D = none → Pv D 0 (upd H D (.lst [])))
    (hs : ∀ D i H', i < n → Pv D i H' → te ((wipe σ vs).set j (some (.int (i : Int)))) H' fun y H4 => ∃ acc, H4 D = some (.lst acc) ∧ acc.length < sizeLine ∧ Pv D (i + 1) (upd H4 D (.lst (acc ++ [y])))) (hd : ∀ D H', Pv D n H' → Q (.ref D) H') : tLc (fun _ H R => R (Itr 0 n) H) (gName j) tYes te vs σ H Q := fun D hD =>
  lc_range (lo := 0) (n := n) (Pv D) (h0 D hD) (fun i H' hi p => by
    have e0 : (0 : Int) + (i : Int) = (i : Int) := Int.zero_add _
    show wipe ((wipe σ vs).set j (some (.int ((0 : Int) + (i : Int))))) vs = wipe σ vs ∧ (if true = true then te ((wipe σ vs).set j (some (.int ((0 : Int) + (i : Int))))) H' fun y H4 => ∃ acc, H4 D = some (.lst acc) ∧ acc.length < sizeLine ∧ Pv D (i + 1) (upd H4 D (.lst (acc ++ [y]))) else Pv D (i + 1) H')
    rw [e0, if_pos rfl]
    exact ⟨hw _, hs D i H' hi p⟩) (fun H' p => hd D H' p)
def spLaw (K : PySem.W.Frag) : Sp := fun vs H Q _ => ∃ (a : Addr) (ns : List Int), vs = [.ref a] ∧ SqL K H a (ns.map V.int) ∧ ns.length ≤ 63 ∧ ∀ H', Q (.bl true) H'
abbrev sLaw : Stmt := top 56
theorem scLaw : FnScope ["script", "state", "names", "tables", "schema", "rows", "r", "lines", "name", "t", "row", "k", "line", "due", "other"] ["script"] (defScope sLaw) := ⟨rfl, rfl, rfl, by decide +kernel, rfl, by decide +kernel, by decide +kernel⟩
structure TLaw (mg : Str → Option Value) : Prop where
  n_range : mg "range" = none
  n_len : mg "len" = none
/-- the rows: tuples of a name and a number -/
structure RwT (H : Hp) (a : Addr) (ws : List Str) (qs : List Addr) (ts : List Nat) : Prop where
  l : H a = some (.lst (qs.map V.ref))
  n : qs.length = ts.length
  t : ∀ i (h : i < qs.length), H qs[i] = some (.tup [.str (ws.getD i ""), .int ((ts.getD i 0 : Nat) : Int)])
/-- what stands within the law's loops -/
structure Sv (C st l ta nm ra li : Addr) (ws ex : List Str) (ps : List (Addr × Addr)) (tb : List Tb) (qs : List Addr) (ts : List Nat) (A : Ad) (rs : List Row) (H : Hp) : Prop where
  B : B8 st l nm (ws ++ ex) H
  L : LT H ta ps tb
  S : SA C H A rs []
  R : RwT H ra ws qs ts
  li : H li = some (.lst (((baseR ws tb ts).map rowS).map V.str))
structure Ofs (st l ta ra li : Addr) (ps : List (Addr × Addr)) (qs : List Addr) (A : Ad) (rs : List Row) (H0 : Hp) : Prop where
  ot : ta ≠ st ∧ ta ≠ l
  op : ∀ q ∈ ps, (q.1 ≠ st ∧ q.1 ≠ l) ∧ (q.2 ≠ st ∧ q.2 ≠ l)
  ra : ra ≠ st ∧ ra ≠ l
  rq : ∀ q ∈ qs, q ≠ st ∧ q ≠ l
  li : li ≠ st ∧ li ≠ l
  S0 : StAt H0 st l
  a0 : H0 A.a = none
  nw : New H0 A rs
section
variable {C st l ta nm ra li : Addr} {ws wy : List Str} {ps : List (Addr × Addr)} {tb : List Tb} {qs : List Addr} {ts : List Nat} {A : Ad} {rs : List Row} {H H' H0 : Hp}
theorem RwT.ex (e : Ex H H') (r : RwT H ra ws qs ts) : RwT H' ra ws qs ts := ⟨e _ _ r.l, r.n, fun i h => e _ _ (r.t i h)⟩
theorem RwT.ext (e : Ext st l H H') (o : ra ≠ st ∧ ra ≠ l) (oq : ∀ q ∈ qs, q ≠ st ∧ q ≠ l) (r : RwT H ra ws qs ts) : RwT H' ra ws qs ts := ⟨e _ _ o.1 o.2 r.l, r.n, fun i h => e _ _ (oq _ (List.getElem_mem h)).1 (oq _ (List.getElem_mem h)).2 (r.t i h)⟩
theorem Sv.ex (e : Ex H H') (s : Sv C st l ta nm ra li ws wy ps tb qs ts A rs H) : Sv C st l ta nm ra li ws wy ps tb qs ts A rs H' := ⟨s.B.ex e, s.L.ex e, s.S.ex e, s.R.ex e, e _ _ s.li⟩
theorem Sv.ext (o : Ofs st l ta ra li ps qs A rs H0) (e : Ext st l H H') (S : StAt H' st l) (s : Sv C st l ta nm ra li ws wy ps tb qs ts A rs H) : Sv C st l ta nm ra li ws wy ps tb qs ts A rs H' := ⟨s.B.ext e S, s.L.ext e o.ot o.op, s.S.ext e o.S0 o.a0 o.nw, s.R.ext e o.ra o.rq, e _ _ o.li.1 o.li.2 s.li⟩
end
theorem ts_get {ts : List Nat} {t i : Nat} (h : i < ts.length) : (ts ++ [t]).getD i 0 = ts.getD i 0 := by rw [List.getD_eq_getElem?_getD, List.getD_eq_getElem?_getD, List.getElem?_append_left h]
theorem ts_last {ts : List Nat} {t : Nat} : (ts ++ [t]).getD ts.length 0 = t := by rw [List.getD_eq_getElem?_getD, List.getElem?_append_right (Nat.le_refl _)]; simp
section
variable {P : Program} {w : World} {K : PySem.W.Frag} {mg : Str → Option Value} {base : Heap}
theorem ok_law {C f fS fD fW fF fO fT fL fR : Addr} {fd fdS fdD fdW fdF fdO fdT fdL fdR : FuncData} (F : Fun K "law" "law" sLaw f fd) (T : TLaw mg)
    (G__law_get_state : FnOk P w K mg base CX0 1 fS fdS ["script"] (spState K)) (MS : TM K mg "_law_get_state" ["script"] fS fdS)
    (G__law_draw : FnOk P w K mg base CX0 1 fD fdD ["st", "limit"] spDraw) (MD : TM K mg "_law_draw" ["st", "limit"] fD fdD)
    (G__law_get_words : FnOk P w K mg base CX0 2 fW fdW ["st", "most", "count"] spWords) (MW : TM K mg "_law_get_words" ["st", "most", "count"] fW fdW)
    (G__law_forest : FnOk P w K mg base CX0 8 fF fdF ["state", "names", "most"] (spFor K)) (MF : TM K mg "_law_forest" ["state", "names", "most"] fF fdF)
    (G__law_schema_of : FnOk P w K mg base CX0 11 fO fdO ["tables"] (spSO C)) (MO : TM K mg "_law_schema_of" ["tables"] fO fdO)
    (G__law_handler_told : FnOk P w K mg base CX0 12 fT fdT ["schema", "text"] (spHTold C)) (MT : TM K mg "_law_handler_told" ["schema", "text"] fT fdT)
    (G__law_lines_due : FnOk P w K mg base CX0 8 fL fdL ["state", "tables", "names", "k", "row", "t"] (spLD K)) (ML : TM K mg "_law_lines_due" ["state", "tables", "names", "k", "row", "t"] fL fdL)
    (G__law_get_right : FnOk P w K mg base CX0 13 fR fdR ["schema", "lines", "line", "due"] (spGRt C)) (MR : TM K mg "_law_get_right" ["schema", "lines", "line", "due"] fR fdR) :
    FnOk P w K mg base CX0 14 f fd ["script"] (spLaw K) := by
  refine F.ok scLaw (fun vs H Q E h => ?_) (fun cdv A' outer s H vs Q E hr h => ?_)
  · obtain ⟨a, ns, rfl, _⟩ := h
    rfl
  · obtain ⟨a, ns, rfl, hS, hlen, kk⟩ := h
    have hr__law_get_state : Room 1 _ := hr.mono (by decide)
    have hr__law_draw : Room 1 _ := hr.mono (by decide)
    have hr__law_get_words : Room 2 _ := hr.mono (by decide)
    have hr__law_forest : Room 8 _ := hr.mono (by decide)
    have hr__law_schema_of : Room 11 _ := hr.mono (by decide)
    have hr__law_handler_told : Room 12 _ := hr.mono (by decide)
    have hr__law_lines_due : Room 8 _ := hr.mono (by decide)
    have hr__law_get_right : Room 13 _ := hr.mono (by decide)
    have hu64 := hr.units
    obtain ⟨m__law_get_state, k__law_get_state, b__law_get_state⟩ := MS
    obtain ⟨m__law_draw, k__law_draw, b__law_draw⟩ := MD
    obtain ⟨m__law_get_words, k__law_get_words, b__law_get_words⟩ := MW
    obtain ⟨m__law_forest, k__law_forest, b__law_forest⟩ := MF
    obtain ⟨m__law_schema_of, k__law_schema_of, b__law_schema_of⟩ := MO
    obtain ⟨m__law_handler_told, k__law_handler_told, b__law_handler_told⟩ := MT
    obtain ⟨m__law_lines_due, k__law_lines_due, b__law_lines_due⟩ := ML
    obtain ⟨m__law_get_right, k__law_get_right, b__law_get_right⟩ := MR
    refine ⟨_, (pss_cons (ps_set (i := 1) scLaw.nd rfl (Or.inr rfl) (pe_call G__law_get_state hr__law_get_state rfl m__law_get_state k__law_get_state b__law_get_state .nil pass0 (pa_cons (pv 0) pa_nil)))
    (pss_cons (ps_set (i := 2) scLaw.nd rfl (Or.inr rfl) (pe_call G__law_get_words hr__law_get_words rfl m__law_get_words k__law_get_words b__law_get_words .nil pass0 (pa_cons (pv 1) (pa_cons pe_int (pa_cons pe_int pa_nil)))))
    (pss_cons (ps_set (i := 3) scLaw.nd rfl (Or.inr rfl) (pe_call G__law_forest hr__law_forest rfl m__law_forest k__law_forest b__law_forest .nil pass0 (pa_cons (pv 1) (pa_cons (pv 2) (pa_cons pe_int pa_nil)))))
    (pss_cons (ps_set (i := 4) scLaw.nd rfl (Or.inl rfl) (pe_call G__law_schema_of hr__law_schema_of rfl m__law_schema_of k__law_schema_of b__law_schema_of .nil pass0 (pa_cons (pv 3) pa_nil)))
    (pss_cons (ps_setLc (i := 5) (own := [("r", 6)]) (g := gName 6) (by rfl) scLaw.nd rfl rfl (sw_true rfl rfl rfl (by decide +kernel)) (pi_range1 rfl T.n_range (pa_cons (pe_op op_add pe_int (pe_call G__law_draw hr__law_draw rfl m__law_draw k__law_draw b__law_draw .nil pass0 (pa_cons (pv 1) (pa_cons pe_int pa_nil)))) pa_nil)) (blkOk_by (own := [("r", 6)]) (N := ["script", "state", "names", "tables", "schema", "rows", "r", "lines", "name", "t", "row", "k", "line", "due", "other"]) (sc := defScope sLaw) (by decide +kernel)) (fun _ _ _ _ _ => (pg_name (i := 6) scLaw.nd rfl (Or.inl rfl))) (fun _ _ _ _ _ => pts_nil) (fun _ _ _ _ _ => (pe_tup (pa_cons (pe_ix (ixL K) (pv 2) (pv 6) (fun _ _ => rfl)) (pa_cons (pe_call G__law_draw hr__law_draw rfl m__law_draw k__law_draw b__law_draw .nil pass0 (pa_cons (pv 1) (pa_cons (pe_callB (lenSeq K) (by rfl) T.n_len (by decide +kernel) (pa_cons (pv 3) pa_nil)) pa_nil))) pa_nil)))))
    (pss_cons (ps_set (i := 7) scLaw.nd rfl (Or.inl rfl) (pe_op op_cat (pe_lst (pa_cons (pe_op op_add_str pe_str (pe_ix (ixL K) (pv 2) pe_int (fun _ _ => rfl))) pa_nil)) (pe_lc (own := [("name", 8), ("t", 9)]) (g := gTup K 2 (gCons (gName 8) (gCons (gName 9) gNil))) (by rfl) scLaw.nd (piL K (pv 5)) (blkOk_by (own := [("name", 8), ("t", 9)]) (N := ["script", "state", "names", "tables", "schema", "rows", "r", "lines", "name", "t", "row", "k", "line", "due", "other"]) (sc := defScope sLaw) (by decide +kernel)) (fun _ _ _ _ _ => (pg_tupK K rfl (pgs_cons (pg_name (i := 8) scLaw.nd rfl (Or.inl rfl)) (pgs_cons (pg_name (i := 9) scLaw.nd rfl (Or.inl rfl)) pgs_nil)))) (fun _ _ _ _ _ => pts_nil) (fun _ _ _ _ _ => (pe_op op_add_str (pe_op op_add_str (pe_op op_add_str pe_str (pv 8)) pe_str) (pe_ix (ixT K) (pe_ix (ixL K) (pv 3) (pv 9) (fun _ _ => rfl)) pe_int (fun _ _ => rfl)))))))
    (pss_cons (ps_if (pt_cmpR op_notN (pe_call G__law_handler_told hr__law_handler_told rfl m__law_handler_told k__law_handler_told b__law_handler_told .nil pass0 (pa_cons (pv 4) (pa_cons (bmK K PySem.F.plainAttrs_str PySem.F.slot_str_join PySem.F.type_str_join (mtJoinK K) pe_str (pa_cons (pv 7) pa_nil)) pa_nil))) pe_non (nomark _))
      (pss_one (ps_ret pe_bl))
      pss_nil)
    (pss_cons (ps_for PassesOwn.never rfl (piL K (pv 5)) (pg_tup rfl (pgs_cons (pg_name (i := 10) scLaw.nd rfl (Or.inl rfl)) (pgs_cons (pg_name (i := 9) scLaw.nd rfl (Or.inl rfl)) pgs_nil)))
      (pss_cons (ps_for PassesOwn.never rfl (pi_range1 rfl T.n_range (pa_cons (pe_callB (lenSeq K) (by rfl) T.n_len (by decide +kernel) (pa_cons (pv 3) pa_nil)) pa_nil)) (pg_name (i := 11) scLaw.nd rfl (Or.inl rfl))
        (pss_one (ps_for PassesOwn.never rfl (piL K (pe_call G__law_lines_due hr__law_lines_due rfl m__law_lines_due k__law_lines_due b__law_lines_due .nil pass0 (pa_cons (pv 1) (pa_cons (pv 3) (pa_cons (pv 2) (pa_cons (pv 11) (pa_cons (pv 10) (pa_cons (pv 9) pa_nil)))))))) (pg_tup rfl (pgs_cons (pg_name (i := 12) scLaw.nd rfl (Or.inl rfl)) (pgs_cons (pg_name (i := 13) scLaw.nd rfl (Or.inl rfl)) pgs_nil)))
          (pss_one (ps_if (pt_not (pt_val (pe_call G__law_get_right hr__law_get_right rfl m__law_get_right k__law_get_right b__law_get_right .nil pass0 (pa_cons (pv 4) (pa_cons (pv 7) (pa_cons (pv 12) (pa_cons (pv 13) pa_nil)))))))
            (pss_one (ps_ret pe_bl))
            pss_nil)))))
      (pss_one (ps_for PassesOwn.never rfl (piL K (pv 5)) (pg_tup rfl (pgs_cons (pg_name (i := 14) scLaw.nd rfl (Or.inl rfl)) (pgs_cons (pg_name (i := 11) scLaw.nd rfl (Or.inl rfl)) pgs_nil)))
        (pss_cons (ps_set (i := 13) scLaw.nd rfl (Or.inl rfl) (pe_ifExp (pt_cmpR op_eq (pe_ix (ixT K) (pe_ix (ixL K) (pv 3) (pv 9) (fun _ _ => rfl)) pe_int (fun _ _ => rfl)) (pv 11) (nomark _)) pe_non (pe_tup (pa_cons pe_str (pa_cons (pv 14) pa_nil)))))
        (pss_one (ps_if (pt_not (pt_val (pe_call G__law_get_right hr__law_get_right rfl m__law_get_right k__law_get_right b__law_get_right .nil pass0 (pa_cons (pv 4) (pa_cons (pv 7) (pa_cons (pe_op op_add_str (pe_op op_add_str (pe_op op_add_str pe_str (pv 10)) pe_str) (pv 14)) (pa_cons (pv 13) pa_nil)))))))
          (pss_one (ps_ret pe_bl))
          pss_nil)))))))
    (pss_one (ps_ret pe_bl)))))))))), ?_⟩
    refine q_set (w_call (w_eva (ea_cons (ev_var rfl) ea_nil) fun H1 e1 => ⟨a, ns, rfl, ex_l e1 hS, fun H2 st l e2 S2 hst hl => ?_⟩))
    refine q_set (w_call (w_eva (ea_cons (ev_var rfl) (ea_cons ev_c (ea_cons ev_c ea_nil))) fun H3 e3 => ⟨st, l, 12, 20, rfl, S2.same e3, by decide, by decide, by decide, fun wx nm H4 wok e4 S4 hnm h4 => ?_⟩))
    obtain ⟨ws, ex, rfl, W, X8⟩ : ∃ ws ex, wx = ws ++ ex ∧ Wsx ws ∧ Exx ws ex := by
      refine ⟨wx.take 12, wx.drop 12, (List.take_append_drop 12 wx).symm, ⟨by rw [List.length_take, wok.len]; rfl, wok.nd.sublist (List.take_sublist 12 wx), fun w hw => wok.ok w (List.mem_of_mem_take hw)⟩, ⟨by rw [List.length_drop, wok.len], fun w hw => wok.ok w (List.mem_of_mem_drop hw), fun w h1 h2 => ?_⟩⟩
      have nd := wok.nd
      rw [← List.take_append_drop 12 wx] at nd
      exact (List.nodup_append.mp nd).2.2 w h2 w h1 rfl
    have B4 : B8 st l nm (ws ++ ex) H4 := ⟨S4, h4, (S2.same e3).off hnm⟩
    refine q_set (w_call (w_eva (ea_cons (ev_var rfl) (ea_cons (ev_var rfl) (ea_cons ev_c ea_nil))) fun H6 e6 => ⟨st, l, nm, ws, ex, 6, rfl, B4.ex e6, W, by decide, by decide, fun ta ps tb H7 e7 S7 L fr n1 n5 hta hps pd => ?_⟩))
    have B6 := B4.ex e6
    have B7 := B6.ext e7 S7
    have ot := B6.S.off hta
    have op : ∀ q ∈ ps, (q.1 ≠ st ∧ q.1 ≠ l) ∧ (q.2 ≠ st ∧ q.2 ≠ l) := fun q hq => ⟨B6.S.off (hps q hq).1, B6.S.off (hps q hq).2⟩
    have six := fr.six
    refine q_set (w_call (w_eva (ea_cons (ev_var rfl) ea_nil) fun H8 e8 => ⟨ta, ws, ps, tb, rfl, L.ex e8, W, fr, n1, fun A rs H9 e9 hA S9 htb new => ?_⟩))
    have S8t := S7.same e8
    have B9 := (B7.ex e8).ex e9
    have L9 := (L.ex e8).ex e9
    -- the rows
    refine q_set (w_lcRW (w_cons (w_op (w_ev ev_c fun H10 e10 => w_draw (st := st) (l := l) (n := 3) (ea_cons (ev_var rfl) (ea_cons ev_c ea_nil)) (B9.ex e10).S (by decide) (by decide) fun r H11 r0 r3 e11 S11 => ⟨_, _, rfl, rfl, w_nil ⟨1 + r, rfl, by omega, by omega, ?_⟩⟩))))
    have B11 := (B9.ex e10).ext e11 S11
    have L11 := (L9.ex e10).ext e11 ot op
    have SA11 := (S9.ex e10).ext e11 S8t hA new
    obtain ⟨cn, hcn⟩ : ∃ n : Nat, (1 : Int) + r = n := ⟨(1 + r).toNat, by omega⟩
    rw [show ((1 : Int) + r).toNat = cn by omega]
    refine w_lcIn (n := cn) (fun x => wipe1 _ _ _) (fun D i H' => H11 D = none ∧ Ext st l H11 H' ∧ StAt H' st l ∧ ∃ qs ts, RwT H' D ws qs ts ∧ ts.length = i ∧ (∀ q ∈ qs, H11 q = none ∧ q ≠ D) ∧ ∀ r, r < ts.length → ts.getD r 0 < tb.length)
      (fun D hD => ⟨hD, Ext.same (Ex.new hD), S11.same (Ex.new hD), [], [], ⟨upd_same, rfl, fun i h => absurd h (Nat.not_lt_zero i)⟩, rfl, (fun q z => (nomatch z)), fun r h => absurd h (Nat.not_lt_zero r)⟩) (fun D i H' hi p => ?_) (fun ra H12 p => ?_)
    · obtain ⟨hD, e, S', qs, ts, R, rfl, fq, tk⟩ := p
      have oD := S11.off hD
      have B' := B11.ext e S'
      have L' := L11.ext e ot op
      refine w_tup (w_cons (w_ev (ev_op (ev_var rfl) (ev_var rfl) (rv_ixL (SqL.of B'.n) (atI_n (j := ts.length) rfl (getD_ex (by rw [W.len]; omega))))) fun H13 e13 => w_cons (w_draw (st := st) (l := l) (n := (tb.length : Int)) (ea_cons (ev_var rfl) (ea_cons (ev_is (ev_lenA (ev_var rfl) (.inl (SqL.of (L'.ex e13).l))) (by rw [List.length_map, L'.n])) ea_nil)) (S'.same e13) (by omega) (by omega) fun t H14 t0 t1 e14 S14 => w_nil ⟨by show 2 ≤ sizeLine; decide, fun q hq => ?_⟩)))
      obtain ⟨tn, rfl⟩ : ∃ n : Nat, t = n := ⟨t.toNat, by omega⟩
      have e114 : Ext st l H11 H14 := e.trans ((Ext.same e13).trans e14)
      have R14 := (R.ex e13).ext e14 oD (fun q hq => S11.off (fq q hq).1)
      have q11 := fresh_ext S11 e114 S14 hq
      have qD : q ≠ D := fun z => by rw [z, R14.l] at hq; cases hq
      refine ⟨qs.map V.ref, ?_, sz_lt (by rw [List.length_map, R.n]; omega), hD, ?_, ?_, qs ++ [q], ts ++ [tn], ⟨by rw [upd_same, List.map_append]; rfl, by rw [List.length_append, List.length_append, R.n]; rfl, fun j hj => ?_⟩, by rw [List.length_append]; rfl, fun x hx => ?_, fun j hj => ?_⟩
      · rw [upd_ne qD.symm]
        exact R14.l
      · exact (e114.trans (Ext.same (Ex.new hq))).mutE hD
      · exact st_upd (S14.same (Ex.new hq)) oD
      · have hj' : j < qs.length + 1 := by rw [List.length_append] at hj; exact hj
        by_cases z : j < qs.length
        · rw [List.getElem_append_left z, ts_get (by rw [← R.n]; exact z)]
          have nq := (fq _ (List.getElem_mem z)).2
          rw [upd_ne nq, upd_ne (fun y => by have := R14.t j z; rw [y, hq] at this; cases this)]
          exact R14.t j z
        · have ej : j = qs.length := by omega
          subst ej
          rw [List.getElem_append_right (Nat.le_refl _)]
          simp only [Nat.sub_self, List.getElem_cons_zero]
          rw [upd_ne qD, upd_same, R.n, ts_last]
      · rcases List.mem_append.mp hx with z | z
        · exact fq x z
        · rw [List.mem_singleton.mp z]
          exact ⟨q11, qD⟩
      · by_cases z : j < ts.length
        · rw [ts_get z]
          exact tk j z
        · rw [List.length_append] at hj
          have hj : j < ts.length + 1 := hj
          have : j = ts.length := by omega
          rw [this, ts_last]
          omega
    · obtain ⟨hra, e12, S12, qs, ts, R12, htl, fq, tk⟩ := p
      have TT : TsOk tb ts := ⟨by omega, by omega, tk⟩
      have l3 := TT.l3
      have B12 := B11.ext e12 S12
      have L12 := L11.ext e12 ot op
      have SA12 := SA11.ext e12 S8t hA new
      have ora := S11.off hra
      have orq : ∀ q ∈ qs, q ≠ st ∧ q ≠ l := fun q hq => S11.off (fq q hq).1
      dsimp only
      -- the lines
      let σi : Nat → L2.St := fun i => [some (.ref a), some (.ref st), some (.ref nm), some (.ref ta), some (.ref A.a), some (.ref ra), none, none, some (.str (ws.getD i "")), some (.int ((ts.getD i 0 : Nat) : Int)), none, none, none, none, none]
      have lqs : (qs.map V.ref).length = ts.length := by rw [List.length_map, R12.n]
      refine q_asgL (xs := ((baseR ws tb ts).map rowS).map V.str) (el_is (el_catLL (xs := [.str (rowS ["handler", ws.getD 7 ""])]) (zs := given (qs.map V.ref).length (fun _ => true) fun i => V.str (rowS (rowR ws tb ts i))) (el_lst (ea_cons (ev_is (ev_add ev_c (ev_op (ev_var rfl) ev_c (rv_ixL (SqL.of B12.n) (atI_n (j := 7) rfl (getD_ex (by rw [W.len]; decide))))) (by have := (sh_ws W (i := 7) (by decide)).le; show 8 + _ ≤ 1000; omega)) (congrArg V.str (hand_row _))) ea_nil) (by show 1 ≤ 100000; decide))
        (el_lcG (K := K) (xs := qs.map V.ref) (a := ra) σi (fun _ => true) (fun i => V.str (rowS (rowR ws tb ts i))) (by omega) (ev_var rfl) (SqL.of R12.l) (fun i x H1 Q' e hi hx q => ?_) (fun i _ => rfl) (fun i H1 e hi => et_yes) (fun i H1 e hi _ => ?_)) (by rw [given_all, List.length_map, List.length_range]; show 1 + _ ≤ 100000; omega)) ?_) (fun li H13 hli e13 h13 => ?_)
      · rw [lqs] at hi
        have hi' : i < qs.length := by rw [R12.n]; exact hi
        rw [List.getElem?_map, List.getElem?_eq_getElem hi'] at hx
        obtain rfl := Option.some.inj hx
        exact ⟨_, _, rfl, st_of (e _ _ (R12.t i hi')), rfl, _, _, rfl, _, _, rfl, rfl, q⟩
      · rw [lqs] at hi
        have ht := tk i hi
        have n1 := (sh_ws W (i := i) (by omega)).le
        have n2 := (sh_nm W fr ht).le
        have nmE : Ev (tOp (rIxT K) (tOp (rIxL K) (tVar 3) (tVar 9)) (tC (.int 0))) (σi i) H1 (.str (nmT tb (ts.getD i 0))) := by
          rw [nmT_at ht]
          exact ev_nmT (L12.ex e) ht rfl (ev_var rfl) (ev_var rfl)
        exact ev_is (ev_add (ev_add (ev_add ev_c (ev_var rfl) (by show 4 + _ ≤ 1000; omega)) ev_c (by rw [app_len]; show 4 + _ + 4 ≤ 1000; omega)) nmE (by rw [app_len, app_len]; show 4 + _ + 4 + _ ≤ 1000; omega)) (congrArg V.str (rowR_row _ _))
      · rw [given_all, lqs]
        unfold baseR
        rw [List.map_cons, List.map_cons, List.map_map, List.map_map]
        rfl
      have fit0 : Fit (baseR ws tb ts) := by
        have := fit_all W fr TT (more := []) (fun r hr => nomatch hr) (by decide)
        rw [List.append_nil] at this
        exact this
      have wf : WF (tbs rs) := by rw [htb]; exact fr.wf
      have few : rs.length ≤ 900 := by
        have : rs.length = tb.length := by rw [← htb, List.length_map]
        omega
      have sv : Sv C st l ta nm ra li ws ex ps tb qs ts A rs H13 := ⟨B12.ex e13, L12.ex e13, SA12.ex e13, R12.ex e13, h13⟩
      have oli := S12.off hli
      have of : Ofs st l ta ra li ps qs A rs H8 := ⟨ot, op, ora, orq, oli, S8t, hA, new⟩
      refine q_when (b := false) (et_is (a := !true) (et_test (ev_op (x := .non) (y := .non) (ev_call (ea_cons (ev_var rfl) (ea_cons (ev_joinA (K := K) (a := "\n") (ys := (baseR ws tb ts).map rowS) ev_c (ev_var rfl) (.inl (SqL.of h13)) (Nat.le_trans fit0.sum (by decide))) ea_nil)) (fun H14 e14 Q1 q1 E1 => ⟨A, rs, [], txt (baseR ws tb ts), rfl, sv.S.ex e14, wf, few, fit0.tx, fun _ _ H15 e15 => q1 H15 e15, fun er k z => ?_⟩)) ev_c (rv_val fun H1 _ Q q => ⟨rfl, q⟩))) rfl) (fun z => nomatch z) (fun _ H14 e14 => ?_)
      · unfold rdHT at z
        rw [fit0.lines, htb, rd_none W fr TT] at z
        cases z
      have six' := fr.six
      refine q_forL (a := ra) (xs := qs.map V.ref) (ev_var rfl) (SqL.of (sv.ex e14).R.l) (fun i σ' H' => ∃ v9 v10 v11 v12 v13 v14, σ' = [some (.ref a), some (.ref st), some (.ref nm), some (.ref ta), some (.ref A.a), some (.ref ra), none, some (.ref li), none, v9, v10, v11, v12, v13, v14] ∧ Sv C st l ta nm ra li ws ex ps tb qs ts A rs H') (fun H15 e15 => ⟨_, _, _, _, _, _, rfl, sv.ex (e14.trans e15)⟩) (fun i σ' H' _ p => ?_) (fun i x σ' H' hx p => ?_) (fun σ' H' p => ?_)
      · obtain ⟨_, _, _, _, _, _, _, s⟩ := p
        exact SqL.of s.R.l
      · obtain ⟨v9, v10, v11, v12, v13, v14, rfl, s⟩ := p
        have hi : i < ts.length := by
          have := (List.getElem?_eq_some_iff.mp hx).1
          rwa [lqs] at this
        have hi' : i < qs.length := by rw [R12.n]; exact hi
        rw [List.getElem?_map, List.getElem?_eq_getElem hi'] at hx
        obtain rfl := Option.some.inj hx
        refine ⟨_, _, rfl, st_of (s.R.t i hi'), rfl, _, _, rfl, _, _, rfl, rfl, ?_⟩
        have ht := tk i hi
        have rightE : ∀ {σ : L2.St} {H1 : Hp} {te : TE} {E : XK} {ln : List Str} {v : V} {o : Option HE}, Sv C st l ta nm ra li ws ex ps tb qs ts A rs H1 → σ[4]? = some (some (.ref A.a)) → σ[7]? = some (some (.ref li)) → Ev te σ H1 (.str (rowS ln)) → σ[13]? = some (some v) → DueV H1 v o → LnOk ws tb ts ln o → Ev (tCall (spGRt C) [] E (tCons (tVar 4) (tCons (tVar 7) (tCons te (tCons (tVar 13) tNil))))) σ H1 (.bl true) := fun {σ H1 te E ln v o} s1 h4 h7 hte h13 dv lo H2 e2 Q1 q1 =>
          w_call (w_eva (ea_cons (ev_var h4) (ea_cons (ev_var h7) (ea_cons (hte.mono e2) (ea_cons (ev_var h13) ea_nil)))) fun H3 e3 => ⟨A, rs, [], li, ws, tb, ts, ln, v, o, rfl, s1.S.ex (e2.trans e3), htb, W, fr, TT, (e2.trans e3) _ _ s1.li, dv.ex (e2.trans e3), lo, fun H4 e4 => q1 H4 (e3.trans e4)⟩)
        refine q_forR1 (n := (tb.length : Int)) (ea_cons (ev_is (ev_lenA (ev_var rfl) (.inl (SqL.of s.L.l))) (by rw [List.length_map, s.L.n])) ea_nil) ⟨by omega, by omega⟩ (fun j σ' H'' => ∃ v11 v12 v13, σ' = [some (.ref a), some (.ref st), some (.ref nm), some (.ref ta), some (.ref A.a), some (.ref ra), none, some (.ref li), none, some (.int ((ts.getD i 0 : Nat) : Int)), some (.str (ws.getD i "")), v11, v12, v13, v14] ∧ Sv C st l ta nm ra li ws ex ps tb qs ts A rs H'') (fun H15 e15 => ⟨_, _, _, rfl, s.ex e15⟩) (fun k σ' H'' hk p => ?_) (fun σ' H'' p => ?_)
        · obtain ⟨v11, v12, v13, rfl, s2⟩ := p
          have hk : k < tb.length := by omega
          refine w_call (w_eva (ea_cons (ev_var rfl) (ea_cons (ev_var rfl) (ea_cons (ev_var rfl) (ea_cons (ev_var rfl) (ea_cons (ev_var rfl) (ea_cons (ev_var rfl) ea_nil)))))) fun H16 e16 => ⟨st, l, ta, nm, ws, ex, ps, tb, ts, k, i, rfl, (s2.ex e16).B, (s2.ex e16).L, ot, op, W, X8, fr, TT, hk, hi, fun p xs H17 e17 S17 hp ld lok n3 => ⟨p, rfl, ⟨_, SqL.of ld.l⟩, for_list (xs := xs.map fun x => V.ref x.1) (fun j σ' H3 => ∃ v12 v13, σ' = [some (.ref a), some (.ref st), some (.ref nm), some (.ref ta), some (.ref A.a), some (.ref ra), none, some (.ref li), none, some (.int ((ts.getD i 0 : Nat) : Int)), some (.str (ws.getD i "")), some (.int (k : Int)), v12, v13, v14] ∧ Sv C st l ta nm ra li ws ex ps tb qs ts A rs H3 ∧ LdAt H3 p xs) ⟨_, _, rfl, (s2.ex e16).ext of e17 S17, ld⟩ (fun j σ' H3 _ p => ?_) (fun j x σ' H3 hx p => ?_) (fun σ' H3 p => ?_)⟩⟩)
          · obtain ⟨_, _, _, _, ld3⟩ := p
            exact SqL.of ld3.l
          · obtain ⟨v12, v13, rfl, s3, ld3⟩ := p
            have hj : j < xs.length := by
              have := (List.getElem?_eq_some_iff.mp hx).1
              rwa [List.length_map] at this
            rw [List.getElem?_map, List.getElem?_eq_getElem hj] at hx
            obtain rfl := Option.some.inj hx
            have hm := List.getElem_mem hj
            refine ⟨_, _, rfl, st_of (ld3.t _ hm).1, rfl, _, _, rfl, _, _, rfl, rfl, ?_⟩
            exact s_when (b := false) (et_not (a := true) (et_B (rightE s3 rfl rfl (ev_var rfl) rfl (ld3.t _ hm).2 (lok _ hm)))) (fun z => nomatch z) (fun _ H4 e4 => ⟨_, _, rfl, s3.ex e4, ld3.ex e4⟩)
          · obtain ⟨v12, v13, rfl, s3, _⟩ := p
            exact ⟨_, _, _, rfl, s3⟩
        · obtain ⟨v11, v12, v13, rfl, s2⟩ := p
          refine s_forL (a := ra) (xs := qs.map V.ref) (ev_var rfl) (SqL.of s2.R.l) (fun j σ' H3 => ∃ v11 v12 v13 v14, σ' = [some (.ref a), some (.ref st), some (.ref nm), some (.ref ta), some (.ref A.a), some (.ref ra), none, some (.ref li), none, some (.int ((ts.getD i 0 : Nat) : Int)), some (.str (ws.getD i "")), v11, v12, v13, v14] ∧ Sv C st l ta nm ra li ws ex ps tb qs ts A rs H3) (fun H15 e15 => ⟨_, _, _, _, rfl, s2.ex e15⟩) (fun j σ' H3 _ p => ?_) (fun j x σ' H3 hx p => ?_) (fun σ' H3 p => ?_)
          · obtain ⟨_, _, _, _, _, s3⟩ := p
            exact SqL.of s3.R.l
          · obtain ⟨v11, v12, v13, v14, rfl, s3⟩ := p
            have hj : j < ts.length := by
              have := (List.getElem?_eq_some_iff.mp hx).1
              rwa [lqs] at this
            have hj' : j < qs.length := by rw [R12.n]; exact hj
            rw [List.getElem?_map, List.getElem?_eq_getElem hj'] at hx
            obtain rfl := Option.some.inj hx
            refine ⟨_, _, rfl, st_of (s3.R.t j hj'), rfl, _, _, rfl, _, _, rfl, rfl, ?_⟩
            have htj := tk j hj
            have iI := sh_ws W (i := i) (by omega)
            have jI := sh_ws W (i := j) (by omega)
            have il := iI.le
            have jl := jI.le
            refine q_asgD (o := if parOf tb (nmT tb (ts.getD i 0)) = some (nmT tb (ts.getD j 0)) then none else some (.tab (ws.getD j ""))) (ed_if (b := decide (pix tb tb[ts.getD i 0] = ((ts.getD j 0 : Nat) : Int))) (et_test (ev_is (ev_op (ev_pxT s3.L ht rfl (ev_var rfl) (ev_var rfl)) (ev_var rfl) (rv_eq rfl)) (congrArg V.bl (decide_eq_decide.mpr ⟨fun z => V.int.inj z, fun z => congrArg V.int z⟩)))) (fun hb => ?_) (fun hb => ?_)) (fun dv H4 e4 d4 => ?_)
            · rw [if_pos ((pix_is W fr htj ht).mp (of_decide_eq_true hb))]
              exact ed_non
            · rw [if_neg fun z => of_decide_eq_false hb ((pix_is W fr htj ht).mpr z)]
              exact ed_tup (x := .tab (ws.getD j "")) (eu_tup (ea_cons ev_c (ea_cons (ev_var rfl) ea_nil)) (by show 2 ≤ 100000; decide))
            refine s_when (b := false) (et_not (a := true) (et_B (rightE (ln := lnMove (ws.getD i "") (ws.getD j "")) (s3.ex e4) rfl rfl (ev_is (ev_add (ev_add (ev_add ev_c (ev_var rfl) (by show 5 + _ ≤ 1000; omega)) ev_c (by rw [app_len]; show 5 + _ + 7 ≤ 1000; omega)) (ev_var rfl) (by rw [app_len, app_len]; show 5 + _ + 7 + _ ≤ 1000; omega)) (congrArg V.str (move_row _ _))) rfl d4 ⟨place_move (W.nm (by omega)) (W.nm (by omega)), out_move W fr TT hi hj, fit_move iI jI, ?_⟩))) (fun z => nomatch z) (fun _ H5 e5 => ⟨_, _, _, _, rfl, s3.ex (e4.trans e5)⟩)
            split
            · exact .inl rfl
            · exact .inr (.inr ⟨_, jI, rfl⟩)
          · obtain ⟨v11, v12, v13, v14, rfl, s3⟩ := p
            exact ⟨_, _, _, _, _, _, rfl, s3⟩
      · obtain ⟨v9, v10, v11, v12, v13, v14, rfl, s⟩ := p
        exact s_ret ev_c (fun H15 _ => kk H15)
end
end My

namespace My
open PySem PySem.Spec PyProof.Rows L2 Evl
/-! ### the facts of the top -/
def FE (K : PySem.W.Frag) (x qual : Str) (st : Stmt) (f : Addr) : Prop := (∃ (oc : Value) (od : Option Addr) (kV doc pm : Value) (an : Option Addr) (cdv ct : Value) (osl : Array (Option Value)),
    K.lookup f = some ⟨oc, od, .func (PySem.W.fnOf x qual (defArgs st) (defBody st) (defScope st) .none kV doc pm an cdv ct), osl⟩ ∧ PySem.W.codeIn K cdv qual = true) ∧ PySem.W.keepIn K (.ref f) = true
theorem FE.of {K : PySem.W.Frag} {x qual : Str} {st : Stmt} {f : Addr} {oc : Value} {od : Option Addr} {kV doc pm : Value} {an : Option Addr} {cdv ct : Value} {osl : Array (Option Value)}
    (l : K.lookup f = some ⟨oc, od, .func (PySem.W.fnOf x qual (defArgs st) (defBody st) (defScope st) .none kV doc pm an cdv ct), osl⟩) (c : PySem.W.codeIn K cdv qual = true) (k : PySem.W.keepIn K (.ref f) = true) : FE K x qual st f := ⟨⟨oc, od, kV, doc, pm, an, cdv, ct, osl, l, c⟩, k⟩
theorem FE.fn {K : PySem.W.Frag} {x qual : Str} {st : Stmt} {f : Addr} (h : FE K x qual st f) : ∃ fd, Fun K x qual st f fd := by
  obtain ⟨⟨oc, od, kV, doc, pm, an, cdv, ct, osl, l, c⟩, k⟩ := h
  exact ⟨_, fun_mk l c k⟩
theorem nd6 {a b c d e f : Addr} (h1 : a ≠ b) (h2 : a ≠ c) (h3 : a ≠ d) (h4 : a ≠ e) (h5 : a ≠ f) (h6 : b ≠ c) (h7 : b ≠ d) (h8 : b ≠ e) (h9 : b ≠ f) (i1 : c ≠ d) (i2 : c ≠ e) (i3 : c ≠ f) (i4 : d ≠ e) (i5 : d ≠ f) (i6 : e ≠ f) : [a, b, c, d, e, f].Nodup := by
  simp [h1, h2, h3, h4, h5, h6, h7, h8, h9, i1, i2, i3, i4, i5, i6]
theorem all_mk {l : PySem.W.OpenLaw} {w : World} {K : PySem.W.Frag} {h : Heap} {mg : Str → Option Value} {fa f__law_get_state f__law_draw f__law_get_words f__law_forest f__law_get_chain C X_BadLine fE_BadLine A X_DuplicateName fE_DuplicateName X_UnknownName fE_UnknownName X_TooMany fE_TooMany X_WrongTable fE_WrongTable X_WrongCount fE_WrongCount f__law_schema_of f__law_table_line f_Schema_read p_Schema_read f_Schema___init__ f_Schema__read_line f_has_form_schemas f_is_name f_is_value f_are_names f_Schema__read_table f_Schema__check_known f_Schema__check_limits f_Schema_chain_of f_Schema__read_owner f_Schema_check_position f_Schema__read_follow CH CS CDd f__law_handler_told f__law_get_named f_Handler_read p_Handler_read f_Handler___init__ g_FORMS g_FORMS_0 g_FORMS_1 g_FORMS_2 g_FORMS_3 g_FORMS_4 g_FORMS_5 g_FORMS_6 g_FORMS_7 g_FORMS_8 g_FORMS_9 f_Scope___init__ f_place_of f_has_form_forms f__fits f__is_term f_is_constant f_Handler__read_line f_Scope_read_parameter f_Scope_check_new f_Scope_check_table f_Schema_tables f_Scope_define_row f_check_parameters f_Scope_row_parameters f_Scope_value_parameters f_Scope_read_equation f_Scope_check_term f_Scope_table_of f_read_deed f__read_new f_Scope_table_of_any f__check_under f_Schema_parent_of f_Schema_columns f_Scope_define_new_row f_Deed___init__ f__read_move f__read_set f__read_each f__read_take f__law_lines_due f__law_get_right f_law : Addr} {kk_LETTERS kk_LONGEST_NAME kk_LETTERS_AND_DIGITS kk_LONGEST_VALUE t_Schema_MOST_TABLES t_Schema_MOST_COLUMNS t_Schema_LONGEST_CHAIN tk_g_FORMS_0 ts_g_FORMS_0 tk_g_FORMS_1 ts_g_FORMS_1 tk_g_FORMS_2 ts_g_FORMS_2 tk_g_FORMS_3 ts_g_FORMS_3 tk_g_FORMS_4 ts_g_FORMS_4 tk_g_FORMS_5 ts_g_FORMS_5 tk_g_FORMS_6 ts_g_FORMS_6 tk_g_FORMS_7 ts_g_FORMS_7 tk_g_FORMS_8 ts_g_FORMS_8 tk_g_FORMS_9 ts_g_FORMS_9 t_Handler_MOST_NEEDS t_Handler_MOST_DEEDS t_Handler_MOST_ROWS t_Handler_MOST_VALUES : Tok} {rc_Schema_read rc_Handler_read : List Value} {od_g_FORMS_0 od_g_FORMS_1 od_g_FORMS_2 od_g_FORMS_3 od_g_FORMS_4 od_g_FORMS_5 od_g_FORMS_6 od_g_FORMS_7 od_g_FORMS_8 od_g_FORMS_9 od_g_FORMS : Option Addr} {nn_g_FORMS_0 nn_g_FORMS_1 nn_g_FORMS_2 nn_g_FORMS_3 nn_g_FORMS_4 nn_g_FORMS_5 nn_g_FORMS_6 nn_g_FORMS_7 nn_g_FORMS_8 nn_g_FORMS_9 nn_g_FORMS : Nat} {os_g_FORMS_0 os_g_FORMS_1 os_g_FORMS_2 os_g_FORMS_3 os_g_FORMS_4 os_g_FORMS_5 os_g_FORMS_6 os_g_FORMS_7 os_g_FORMS_8 os_g_FORMS_9 os_g_FORMS : Array (Option Value)} (X : K.In h) (G : h.Ns mainGlobals mg) (hfa : mg "law" = some (.ref fa))
    (z_range : PySem.W.nsIn K mainGlobals "range" = some none)
    (z_len : PySem.W.nsIn K mainGlobals "len" = some none)
    (e__law_get_state : FE K "_law_get_state" "_law_get_state" sState f__law_get_state)
    (z_int : PySem.W.nsIn K mainGlobals "int" = some none)
    (z_abs : PySem.W.nsIn K mainGlobals "abs" = some none)
    (z_list : PySem.W.nsIn K mainGlobals "list" = some none)
    (a__law_get_state : PySem.W.nsIn K mainGlobals "_law_get_state" = some (some (.ref f__law_get_state)))
    (e__law_draw : FE K "_law_draw" "_law_draw" sDraw f__law_draw)
    (a__law_draw : PySem.W.nsIn K mainGlobals "_law_draw" = some (some (.ref f__law_draw)))
    (e__law_get_words : FE K "_law_get_words" "_law_get_words" sWords f__law_get_words)
    (a__law_get_words : PySem.W.nsIn K mainGlobals "_law_get_words" = some (some (.ref f__law_get_words)))
    (e__law_forest : FE K "_law_forest" "_law_forest" sFor f__law_forest)
    (e__law_get_chain : FE K "_law_get_chain" "_law_get_chain" sGch f__law_get_chain)
    (a__law_get_chain : PySem.W.nsIn K mainGlobals "_law_get_chain" = some (some (.ref f__law_get_chain)))
    (a__law_forest : PySem.W.nsIn K mainGlobals "_law_forest" = some (some (.ref f__law_forest)))
    (a_AgreeError : PySem.W.nsIn K mainGlobals "AgreeError" = some (some (.ref A)))
    (cA : PySem.W.isClsIn K A = true)
    (tA : PySem.W.typeIn K (.ref A) = some (.type "type"))
    (hhn : PySem.W.specialIn K (.builtin "object.__class__") "__get__" = some (some (.builtin "getset_descriptor.__get__")))
    (hht : PySem.W.takesIn K (.builtin "object.__class__") = some true)
    (a_BadLine : PySem.W.nsIn K mainGlobals "BadLine" = some (some (.ref X_BadLine)))
    (cf_BadLine : CF K A X_BadLine)
    (ne_BadLine : X_BadLine ≠ A)
    (iX_BadLine : PySem.W.findIn K (.ref X_BadLine) "__init__" = some (some (.ref fE_BadLine)))
    (tX_BadLine : PySem.W.typeIn K (.ref fE_BadLine) = some (.type "function"))
    (eX_BadLine : FE K "__init__" "BadLine.__init__" sI_BadLine fE_BadLine)
    (n_BadLine_line : PySem.W.findIn K (.ref X_BadLine) "line" = some none)
    (n_BadLine_name : PySem.W.findIn K (.ref X_BadLine) "name" = some none)
    (a_DuplicateName : PySem.W.nsIn K mainGlobals "DuplicateName" = some (some (.ref X_DuplicateName)))
    (cf_DuplicateName : CF K A X_DuplicateName)
    (ne_DuplicateName : X_DuplicateName ≠ A)
    (iX_DuplicateName : PySem.W.findIn K (.ref X_DuplicateName) "__init__" = some (some (.ref fE_DuplicateName)))
    (tX_DuplicateName : PySem.W.typeIn K (.ref fE_DuplicateName) = some (.type "function"))
    (eX_DuplicateName : FE K "__init__" "DuplicateName.__init__" sI_DuplicateName fE_DuplicateName)
    (n_DuplicateName_line : PySem.W.findIn K (.ref X_DuplicateName) "line" = some none)
    (n_DuplicateName_name : PySem.W.findIn K (.ref X_DuplicateName) "name" = some none)
    (a_UnknownName : PySem.W.nsIn K mainGlobals "UnknownName" = some (some (.ref X_UnknownName)))
    (cf_UnknownName : CF K A X_UnknownName)
    (ne_UnknownName : X_UnknownName ≠ A)
    (iX_UnknownName : PySem.W.findIn K (.ref X_UnknownName) "__init__" = some (some (.ref fE_UnknownName)))
    (tX_UnknownName : PySem.W.typeIn K (.ref fE_UnknownName) = some (.type "function"))
    (eX_UnknownName : FE K "__init__" "UnknownName.__init__" sI_UnknownName fE_UnknownName)
    (n_UnknownName_line : PySem.W.findIn K (.ref X_UnknownName) "line" = some none)
    (n_UnknownName_name : PySem.W.findIn K (.ref X_UnknownName) "name" = some none)
    (a_TooMany : PySem.W.nsIn K mainGlobals "TooMany" = some (some (.ref X_TooMany)))
    (cf_TooMany : CF K A X_TooMany)
    (ne_TooMany : X_TooMany ≠ A)
    (iX_TooMany : PySem.W.findIn K (.ref X_TooMany) "__init__" = some (some (.ref fE_TooMany)))
    (tX_TooMany : PySem.W.typeIn K (.ref fE_TooMany) = some (.type "function"))
    (eX_TooMany : FE K "__init__" "TooMany.__init__" sI_TooMany fE_TooMany)
    (n_TooMany_line : PySem.W.findIn K (.ref X_TooMany) "line" = some none)
    (n_TooMany_name : PySem.W.findIn K (.ref X_TooMany) "name" = some none)
    (a_WrongTable : PySem.W.nsIn K mainGlobals "WrongTable" = some (some (.ref X_WrongTable)))
    (cf_WrongTable : CF K A X_WrongTable)
    (ne_WrongTable : X_WrongTable ≠ A)
    (iX_WrongTable : PySem.W.findIn K (.ref X_WrongTable) "__init__" = some (some (.ref fE_WrongTable)))
    (tX_WrongTable : PySem.W.typeIn K (.ref fE_WrongTable) = some (.type "function"))
    (eX_WrongTable : FE K "__init__" "WrongTable.__init__" sI_WrongTable fE_WrongTable)
    (n_WrongTable_line : PySem.W.findIn K (.ref X_WrongTable) "line" = some none)
    (n_WrongTable_name : PySem.W.findIn K (.ref X_WrongTable) "name" = some none)
    (a_WrongCount : PySem.W.nsIn K mainGlobals "WrongCount" = some (some (.ref X_WrongCount)))
    (cf_WrongCount : CF K A X_WrongCount)
    (ne_WrongCount : X_WrongCount ≠ A)
    (iX_WrongCount : PySem.W.findIn K (.ref X_WrongCount) "__init__" = some (some (.ref fE_WrongCount)))
    (tX_WrongCount : PySem.W.typeIn K (.ref fE_WrongCount) = some (.type "function"))
    (eX_WrongCount : FE K "__init__" "WrongCount.__init__" sI_WrongCount fE_WrongCount)
    (n_WrongCount_line : PySem.W.findIn K (.ref X_WrongCount) "line" = some none)
    (n_WrongCount_name : PySem.W.findIn K (.ref X_WrongCount) "name" = some none)
    (e__law_schema_of : FE K "_law_schema_of" "_law_schema_of" sSO f__law_schema_of)
    (a_Schema : PySem.W.nsIn K mainGlobals "Schema" = some (some (.ref C)))
    (e__law_table_line : FE K "_law_table_line" "_law_table_line" sTLn f__law_table_line)
    (a__law_table_line : PySem.W.nsIn K mainGlobals "_law_table_line" = some (some (.ref f__law_table_line)))
    (rd_Schema : PySem.W.readsIn K C (.type "type") = true)
    (ga_Schema : PySem.W.specialIn K (.ref C) "__getattribute__" = some (some (.builtin "type.__getattribute__")))
    (e_Schema_read : FE K "read" "Schema.read" sRead f_Schema_read)
    (sm_Schema_read : PySem.W.findCls K (.ref C) (.type "type") "read" = some (.get (.builtin "staticmethod.__get__") (.ref p_Schema_read) .none (.ref C)))
    (rr_Schema_read : PySem.W.recIn K p_Schema_read "staticmethod" = some (.ref f_Schema_read :: rc_Schema_read))
    (z_enumerate : PySem.W.nsIn K mainGlobals "enumerate" = some none)
    (e_Schema___init__ : FE K "__init__" "Schema.__init__" sInitS f_Schema___init__)
    (i_Schema___init__ : PySem.W.findIn K (.ref C) "__init__" = some (some (.ref f_Schema___init__)))
    (t_Schema___init__ : PySem.W.isFn K (.ref f_Schema___init__) = true)
    (mk_Schema : PySem.W.makesIn K C = true)
    (kC_Schema : PySem.W.keepIn K (.ref C) = true)
    (pg_Schema : PySem.W.plainGet K C Str.empty = true)
    (hd_Schema : PySem.W.hasDictIn K C = true)
    (po_Schema : PySem.W.plainOver K C = true)
    (sa_Schema : PySem.W.findIn K (.ref C) "__setattr__" = some (some (.builtin "object.__setattr__")))
    (no_Schema_text : PySem.W.findIn K (.ref C) "text" = some none)
    (no_Schema__parents : PySem.W.findIn K (.ref C) "_parents" = some none)
    (no_Schema__columns : PySem.W.findIn K (.ref C) "_columns" = some none)
    (no_Schema__owners : PySem.W.findIn K (.ref C) "_owners" = some none)
    (no_Schema__follows : PySem.W.findIn K (.ref C) "_follows" = some none)
    (e_Schema__read_line : FE K "_read_line" "Schema._read_line" sLine f_Schema__read_line)
    (i_Schema__read_line : PySem.W.findIn K (.ref C) "_read_line" = some (some (.ref f_Schema__read_line)))
    (t_Schema__read_line : PySem.W.isFn K (.ref f_Schema__read_line) = true)
    (e_has_form_schemas : FE K "_has_form" "_has_form" sForm f_has_form_schemas)
    (e_is_name : FE K "is_name" "is_name" sIsName f_is_name)
    (c_LETTERS : PySem.W.nsIn K mainGlobals "LETTERS" = some (some (.str "abcdefghijklmnopqrstuvwxyz" kk_LETTERS)))
    (c_LONGEST_NAME : PySem.W.nsIn K mainGlobals "LONGEST_NAME" = some (some (.int 12 kk_LONGEST_NAME)))
    (z_all : PySem.W.nsIn K mainGlobals "all" = some none)
    (e_is_value : FE K "is_value" "is_value" sIsValue f_is_value)
    (c_LETTERS_AND_DIGITS : PySem.W.nsIn K mainGlobals "LETTERS_AND_DIGITS" = some (some (.str "abcdefghijklmnopqrstuvwxyz0123456789" kk_LETTERS_AND_DIGITS)))
    (c_LONGEST_VALUE : PySem.W.nsIn K mainGlobals "LONGEST_VALUE" = some (some (.int 20 kk_LONGEST_VALUE)))
    (z_isinstance : PySem.W.nsIn K mainGlobals "isinstance" = some none)
    (z_str : PySem.W.nsIn K mainGlobals "str" = some none)
    (a_is_value : PySem.W.nsIn K mainGlobals "is_value" = some (some (.ref f_is_value)))
    (a_is_name : PySem.W.nsIn K mainGlobals "is_name" = some (some (.ref f_is_name)))
    (e_are_names : FE K "are_names" "are_names" sAreNames f_are_names)
    (a_are_names : PySem.W.nsIn K mainGlobals "are_names" = some (some (.ref f_are_names)))
    (a_has_form_schemas : PySem.W.nsIn K mainGlobals "has_form_schemas" = some (some (.ref f_has_form_schemas)))
    (e_Schema__read_table : FE K "_read_table" "Schema._read_table" sTable f_Schema__read_table)
    (i_Schema__read_table : PySem.W.findIn K (.ref C) "_read_table" = some (some (.ref f_Schema__read_table)))
    (t_Schema__read_table : PySem.W.isFn K (.ref f_Schema__read_table) = true)
    (e_Schema__check_known : FE K "_check_known" "Schema._check_known" sKnown f_Schema__check_known)
    (i_Schema__check_known : PySem.W.findIn K (.ref C) "_check_known" = some (some (.ref f_Schema__check_known)))
    (t_Schema__check_known : PySem.W.isFn K (.ref f_Schema__check_known) = true)
    (e_Schema__check_limits : FE K "_check_limits" "Schema._check_limits" sLim f_Schema__check_limits)
    (i_Schema__check_limits : PySem.W.findIn K (.ref C) "_check_limits" = some (some (.ref f_Schema__check_limits)))
    (t_Schema__check_limits : PySem.W.isFn K (.ref f_Schema__check_limits) = true)
    (cc_Schema_MOST_TABLES : PySem.W.findCls K (.ref C) (.type "type") "MOST_TABLES" = some (.val (.int 6 t_Schema_MOST_TABLES)))
    (cc_Schema_MOST_COLUMNS : PySem.W.findCls K (.ref C) (.type "type") "MOST_COLUMNS" = some (.val (.int 4 t_Schema_MOST_COLUMNS)))
    (cc_Schema_LONGEST_CHAIN : PySem.W.findCls K (.ref C) (.type "type") "LONGEST_CHAIN" = some (.val (.int 4 t_Schema_LONGEST_CHAIN)))
    (e_Schema_chain_of : FE K "chain_of" "Schema.chain_of" sChain f_Schema_chain_of)
    (i_Schema_chain_of : PySem.W.findIn K (.ref C) "chain_of" = some (some (.ref f_Schema_chain_of)))
    (t_Schema_chain_of : PySem.W.isFn K (.ref f_Schema_chain_of) = true)
    (e_Schema__read_owner : FE K "_read_owner" "Schema._read_owner" sOwner f_Schema__read_owner)
    (i_Schema__read_owner : PySem.W.findIn K (.ref C) "_read_owner" = some (some (.ref f_Schema__read_owner)))
    (t_Schema__read_owner : PySem.W.isFn K (.ref f_Schema__read_owner) = true)
    (e_Schema_check_position : FE K "check_position" "Schema.check_position" sPos f_Schema_check_position)
    (i_Schema_check_position : PySem.W.findIn K (.ref C) "check_position" = some (some (.ref f_Schema_check_position)))
    (t_Schema_check_position : PySem.W.isFn K (.ref f_Schema_check_position) = true)
    (e_Schema__read_follow : FE K "_read_follow" "Schema._read_follow" sFollow f_Schema__read_follow)
    (i_Schema__read_follow : PySem.W.findIn K (.ref C) "_read_follow" = some (some (.ref f_Schema__read_follow)))
    (t_Schema__read_follow : PySem.W.isFn K (.ref f_Schema__read_follow) = true)
    (a__law_schema_of : PySem.W.nsIn K mainGlobals "_law_schema_of" = some (some (.ref f__law_schema_of)))
    (e__law_handler_told : FE K "_law_handler_told" "_law_handler_told" sHTold f__law_handler_told)
    (a_Handler : PySem.W.nsIn K mainGlobals "Handler" = some (some (.ref CH)))
    (q_BadLine_DuplicateName : X_BadLine ≠ X_DuplicateName)
    (q_BadLine_UnknownName : X_BadLine ≠ X_UnknownName)
    (q_BadLine_WrongTable : X_BadLine ≠ X_WrongTable)
    (q_BadLine_WrongCount : X_BadLine ≠ X_WrongCount)
    (q_BadLine_TooMany : X_BadLine ≠ X_TooMany)
    (q_DuplicateName_UnknownName : X_DuplicateName ≠ X_UnknownName)
    (q_DuplicateName_WrongTable : X_DuplicateName ≠ X_WrongTable)
    (q_DuplicateName_WrongCount : X_DuplicateName ≠ X_WrongCount)
    (q_DuplicateName_TooMany : X_DuplicateName ≠ X_TooMany)
    (q_UnknownName_WrongTable : X_UnknownName ≠ X_WrongTable)
    (q_UnknownName_WrongCount : X_UnknownName ≠ X_WrongCount)
    (q_UnknownName_TooMany : X_UnknownName ≠ X_TooMany)
    (q_WrongTable_WrongCount : X_WrongTable ≠ X_WrongCount)
    (q_WrongTable_TooMany : X_WrongTable ≠ X_TooMany)
    (q_WrongCount_TooMany : X_WrongCount ≠ X_TooMany)
    (e__law_get_named : FE K "_law_get_named" "_law_get_named" sNamed f__law_get_named)
    (z_bool : PySem.W.nsIn K mainGlobals "bool" = some none)
    (a__law_get_named : PySem.W.nsIn K mainGlobals "_law_get_named" = some (some (.ref f__law_get_named)))
    (rd_Handler : PySem.W.readsIn K CH (.type "type") = true)
    (ga_Handler : PySem.W.specialIn K (.ref CH) "__getattribute__" = some (some (.builtin "type.__getattribute__")))
    (e_Handler_read : FE K "read" "Handler.read" sHRead f_Handler_read)
    (sm_Handler_read : PySem.W.findCls K (.ref CH) (.type "type") "read" = some (.get (.builtin "staticmethod.__get__") (.ref p_Handler_read) .none (.ref CH)))
    (rr_Handler_read : PySem.W.recIn K p_Handler_read "staticmethod" = some (.ref f_Handler_read :: rc_Handler_read))
    (e_Handler___init__ : FE K "__init__" "Handler.__init__" sInitH f_Handler___init__)
    (i_Handler___init__ : PySem.W.findIn K (.ref CH) "__init__" = some (some (.ref f_Handler___init__)))
    (t_Handler___init__ : PySem.W.isFn K (.ref f_Handler___init__) = true)
    (mk_Handler : PySem.W.makesIn K CH = true)
    (kC_Handler : PySem.W.keepIn K (.ref CH) = true)
    (pg_Handler : PySem.W.plainGet K CH Str.empty = true)
    (hd_Handler : PySem.W.hasDictIn K CH = true)
    (po_Handler : PySem.W.plainOver K CH = true)
    (sa_Handler : PySem.W.findIn K (.ref CH) "__setattr__" = some (some (.builtin "object.__setattr__")))
    (no_Handler_name : PySem.W.findIn K (.ref CH) "name" = some none)
    (no_Handler_text : PySem.W.findIn K (.ref CH) "text" = some none)
    (no_Handler_schema : PySem.W.findIn K (.ref CH) "schema" = some none)
    (no_Handler__scope : PySem.W.findIn K (.ref CH) "_scope" = some none)
    (no_Handler__needs : PySem.W.findIn K (.ref CH) "_needs" = some none)
    (no_Handler__deed_lines : PySem.W.findIn K (.ref CH) "_deed_lines" = some none)
    (no_Handler__deeds : PySem.W.findIn K (.ref CH) "_deeds" = some none)
    (a_Scope : PySem.W.nsIn K mainGlobals "Scope" = some (some (.ref CS)))
    (a_FORMS : PySem.W.nsIn K mainGlobals "FORMS" = some (some (.ref g_FORMS)))
    (l_g_FORMS_0 : K.lookup g_FORMS_0 = some ⟨.type "tuple", od_g_FORMS_0, .seq #[.int 0 tk_g_FORMS_0, .str "handler NAME" ts_g_FORMS_0] nn_g_FORMS_0, os_g_FORMS_0⟩)
    (l_g_FORMS_1 : K.lookup g_FORMS_1 = some ⟨.type "tuple", od_g_FORMS_1, .seq #[.int 1 tk_g_FORMS_1, .str "row NAME in NAME" ts_g_FORMS_1] nn_g_FORMS_1, os_g_FORMS_1⟩)
    (l_g_FORMS_2 : K.lookup g_FORMS_2 = some ⟨.type "tuple", od_g_FORMS_2, .seq #[.int 1 tk_g_FORMS_2, .str "value NAME" ts_g_FORMS_2] nn_g_FORMS_2, os_g_FORMS_2⟩)
    (l_g_FORMS_3 : K.lookup g_FORMS_3 = some ⟨.type "tuple", od_g_FORMS_3, .seq #[.int 2 tk_g_FORMS_3, .str "need TERM = TERM" ts_g_FORMS_3] nn_g_FORMS_3, os_g_FORMS_3⟩)
    (l_g_FORMS_4 : K.lookup g_FORMS_4 = some ⟨.type "tuple", od_g_FORMS_4, .seq #[.int 3 tk_g_FORMS_4, .str "new NAME in NAME with TERM .." ts_g_FORMS_4] nn_g_FORMS_4, os_g_FORMS_4⟩)
    (l_g_FORMS_5 : K.lookup g_FORMS_5 = some ⟨.type "tuple", od_g_FORMS_5, .seq #[.int 3 tk_g_FORMS_5, .str "new NAME in NAME under NAME with TERM .." ts_g_FORMS_5] nn_g_FORMS_5, os_g_FORMS_5⟩)
    (l_g_FORMS_6 : K.lookup g_FORMS_6 = some ⟨.type "tuple", od_g_FORMS_6, .seq #[.int 3 tk_g_FORMS_6, .str "move NAME under NAME" ts_g_FORMS_6] nn_g_FORMS_6, os_g_FORMS_6⟩)
    (l_g_FORMS_7 : K.lookup g_FORMS_7 = some ⟨.type "tuple", od_g_FORMS_7, .seq #[.int 3 tk_g_FORMS_7, .str "set NAME.NAME = TERM" ts_g_FORMS_7] nn_g_FORMS_7, os_g_FORMS_7⟩)
    (l_g_FORMS_8 : K.lookup g_FORMS_8 = some ⟨.type "tuple", od_g_FORMS_8, .seq #[.int 3 tk_g_FORMS_8, .str "each NAME below NAME sets NAME = TERM" ts_g_FORMS_8] nn_g_FORMS_8, os_g_FORMS_8⟩)
    (l_g_FORMS_9 : K.lookup g_FORMS_9 = some ⟨.type "tuple", od_g_FORMS_9, .seq #[.int 3 tk_g_FORMS_9, .str "take NAME" ts_g_FORMS_9] nn_g_FORMS_9, os_g_FORMS_9⟩)
    (l_g_FORMS : K.lookup g_FORMS = some ⟨.type "tuple", od_g_FORMS, .seq #[.ref g_FORMS_0, .ref g_FORMS_1, .ref g_FORMS_2, .ref g_FORMS_3, .ref g_FORMS_4, .ref g_FORMS_5, .ref g_FORMS_6, .ref g_FORMS_7, .ref g_FORMS_8, .ref g_FORMS_9] nn_g_FORMS, os_g_FORMS⟩)
    (e_Scope___init__ : FE K "__init__" "Scope.__init__" sInitX f_Scope___init__)
    (i_Scope___init__ : PySem.W.findIn K (.ref CS) "__init__" = some (some (.ref f_Scope___init__)))
    (t_Scope___init__ : PySem.W.isFn K (.ref f_Scope___init__) = true)
    (mk_Scope : PySem.W.makesIn K CS = true)
    (kC_Scope : PySem.W.keepIn K (.ref CS) = true)
    (pg_Scope : PySem.W.plainGet K CS Str.empty = true)
    (hd_Scope : PySem.W.hasDictIn K CS = true)
    (po_Scope : PySem.W.plainOver K CS = true)
    (sa_Scope : PySem.W.findIn K (.ref CS) "__setattr__" = some (some (.builtin "object.__setattr__")))
    (no_Scope_schema : PySem.W.findIn K (.ref CS) "schema" = some none)
    (no_Scope__rows : PySem.W.findIn K (.ref CS) "_rows" = some none)
    (no_Scope__new_rows : PySem.W.findIn K (.ref CS) "_new_rows" = some none)
    (no_Scope__values : PySem.W.findIn K (.ref CS) "_values" = some none)
    (e_place_of : FE K "place_of" "place_of" sPlace f_place_of)
    (e_has_form_forms : FE K "_has_form" "_has_form" sFormH f_has_form_forms)
    (z_zip : PySem.W.nsIn K mainGlobals "zip" = some none)
    (e__fits : FE K "_fits" "_fits" sFits f__fits)
    (e__is_term : FE K "_is_term" "_is_term" sIsTerm f__is_term)
    (e_is_constant : FE K "is_constant" "is_constant" sIsConst f_is_constant)
    (a_is_constant : PySem.W.nsIn K mainGlobals "is_constant" = some (some (.ref f_is_constant)))
    (a__is_term : PySem.W.nsIn K mainGlobals "_is_term" = some (some (.ref f__is_term)))
    (a__fits : PySem.W.nsIn K mainGlobals "_fits" = some (some (.ref f__fits)))
    (a_has_form_forms : PySem.W.nsIn K mainGlobals "has_form_forms" = some (some (.ref f_has_form_forms)))
    (a_place_of : PySem.W.nsIn K mainGlobals "place_of" = some (some (.ref f_place_of)))
    (e_Handler__read_line : FE K "_read_line" "Handler._read_line" sHLine f_Handler__read_line)
    (i_Handler__read_line : PySem.W.findIn K (.ref CH) "_read_line" = some (some (.ref f_Handler__read_line)))
    (t_Handler__read_line : PySem.W.isFn K (.ref f_Handler__read_line) = true)
    (cc_Handler_MOST_NEEDS : PySem.W.findCls K (.ref CH) (.type "type") "MOST_NEEDS" = some (.val (.int 8 t_Handler_MOST_NEEDS)))
    (cc_Handler_MOST_DEEDS : PySem.W.findCls K (.ref CH) (.type "type") "MOST_DEEDS" = some (.val (.int 8 t_Handler_MOST_DEEDS)))
    (e_Scope_read_parameter : FE K "read_parameter" "Scope.read_parameter" sXPar f_Scope_read_parameter)
    (i_Scope_read_parameter : PySem.W.findIn K (.ref CS) "read_parameter" = some (some (.ref f_Scope_read_parameter)))
    (t_Scope_read_parameter : PySem.W.isFn K (.ref f_Scope_read_parameter) = true)
    (e_Scope_check_new : FE K "check_new" "Scope.check_new" sXCkNew f_Scope_check_new)
    (i_Scope_check_new : PySem.W.findIn K (.ref CS) "check_new" = some (some (.ref f_Scope_check_new)))
    (t_Scope_check_new : PySem.W.isFn K (.ref f_Scope_check_new) = true)
    (e_Scope_check_table : FE K "check_table" "Scope.check_table" sXCkTab f_Scope_check_table)
    (i_Scope_check_table : PySem.W.findIn K (.ref CS) "check_table" = some (some (.ref f_Scope_check_table)))
    (t_Scope_check_table : PySem.W.isFn K (.ref f_Scope_check_table) = true)
    (e_Schema_tables : FE K "tables" "Schema.tables" sMTab f_Schema_tables)
    (i_Schema_tables : PySem.W.findIn K (.ref C) "tables" = some (some (.ref f_Schema_tables)))
    (t_Schema_tables : PySem.W.isFn K (.ref f_Schema_tables) = true)
    (e_Scope_define_row : FE K "define_row" "Scope.define_row" sXDefR f_Scope_define_row)
    (i_Scope_define_row : PySem.W.findIn K (.ref CS) "define_row" = some (some (.ref f_Scope_define_row)))
    (t_Scope_define_row : PySem.W.isFn K (.ref f_Scope_define_row) = true)
    (e_check_parameters : FE K "check_parameters" "check_parameters" sCkPar f_check_parameters)
    (cc_Handler_MOST_ROWS : PySem.W.findCls K (.ref CH) (.type "type") "MOST_ROWS" = some (.val (.int 3 t_Handler_MOST_ROWS)))
    (cc_Handler_MOST_VALUES : PySem.W.findCls K (.ref CH) (.type "type") "MOST_VALUES" = some (.val (.int 4 t_Handler_MOST_VALUES)))
    (e_Scope_row_parameters : FE K "row_parameters" "Scope.row_parameters" sXRows f_Scope_row_parameters)
    (i_Scope_row_parameters : PySem.W.findIn K (.ref CS) "row_parameters" = some (some (.ref f_Scope_row_parameters)))
    (t_Scope_row_parameters : PySem.W.isFn K (.ref f_Scope_row_parameters) = true)
    (e_Scope_value_parameters : FE K "value_parameters" "Scope.value_parameters" sXVals f_Scope_value_parameters)
    (i_Scope_value_parameters : PySem.W.findIn K (.ref CS) "value_parameters" = some (some (.ref f_Scope_value_parameters)))
    (t_Scope_value_parameters : PySem.W.isFn K (.ref f_Scope_value_parameters) = true)
    (a_check_parameters : PySem.W.nsIn K mainGlobals "check_parameters" = some (some (.ref f_check_parameters)))
    (e_Scope_read_equation : FE K "read_equation" "Scope.read_equation" sXEq f_Scope_read_equation)
    (i_Scope_read_equation : PySem.W.findIn K (.ref CS) "read_equation" = some (some (.ref f_Scope_read_equation)))
    (t_Scope_read_equation : PySem.W.isFn K (.ref f_Scope_read_equation) = true)
    (e_Scope_check_term : FE K "check_term" "Scope.check_term" sXTerm f_Scope_check_term)
    (i_Scope_check_term : PySem.W.findIn K (.ref CS) "check_term" = some (some (.ref f_Scope_check_term)))
    (t_Scope_check_term : PySem.W.isFn K (.ref f_Scope_check_term) = true)
    (e_Scope_table_of : FE K "table_of" "Scope.table_of" sXTabOf f_Scope_table_of)
    (i_Scope_table_of : PySem.W.findIn K (.ref CS) "table_of" = some (some (.ref f_Scope_table_of)))
    (t_Scope_table_of : PySem.W.isFn K (.ref f_Scope_table_of) = true)
    (e_read_deed : FE K "read_deed" "read_deed" sDeed f_read_deed)
    (e__read_new : FE K "_read_new" "_read_new" sNew f__read_new)
    (a_Deed : PySem.W.nsIn K mainGlobals "Deed" = some (some (.ref CDd)))
    (e_Scope_table_of_any : FE K "table_of_any" "Scope.table_of_any" sXTabAny f_Scope_table_of_any)
    (i_Scope_table_of_any : PySem.W.findIn K (.ref CS) "table_of_any" = some (some (.ref f_Scope_table_of_any)))
    (t_Scope_table_of_any : PySem.W.isFn K (.ref f_Scope_table_of_any) = true)
    (e__check_under : FE K "_check_under" "_check_under" sUnder f__check_under)
    (e_Schema_parent_of : FE K "parent_of" "Schema.parent_of" sMPar f_Schema_parent_of)
    (i_Schema_parent_of : PySem.W.findIn K (.ref C) "parent_of" = some (some (.ref f_Schema_parent_of)))
    (t_Schema_parent_of : PySem.W.isFn K (.ref f_Schema_parent_of) = true)
    (a__check_under : PySem.W.nsIn K mainGlobals "_check_under" = some (some (.ref f__check_under)))
    (e_Schema_columns : FE K "columns" "Schema.columns" sMCols f_Schema_columns)
    (i_Schema_columns : PySem.W.findIn K (.ref C) "columns" = some (some (.ref f_Schema_columns)))
    (t_Schema_columns : PySem.W.isFn K (.ref f_Schema_columns) = true)
    (e_Scope_define_new_row : FE K "define_new_row" "Scope.define_new_row" sXDefN f_Scope_define_new_row)
    (i_Scope_define_new_row : PySem.W.findIn K (.ref CS) "define_new_row" = some (some (.ref f_Scope_define_new_row)))
    (t_Scope_define_new_row : PySem.W.isFn K (.ref f_Scope_define_new_row) = true)
    (e_Deed___init__ : FE K "__init__" "Deed.__init__" sInitD f_Deed___init__)
    (i_Deed___init__ : PySem.W.findIn K (.ref CDd) "__init__" = some (some (.ref f_Deed___init__)))
    (t_Deed___init__ : PySem.W.isFn K (.ref f_Deed___init__) = true)
    (mk_Deed : PySem.W.makesIn K CDd = true)
    (kC_Deed : PySem.W.keepIn K (.ref CDd) = true)
    (pg_Deed : PySem.W.plainGet K CDd Str.empty = true)
    (hd_Deed : PySem.W.hasDictIn K CDd = true)
    (po_Deed : PySem.W.plainOver K CDd = true)
    (sa_Deed : PySem.W.findIn K (.ref CDd) "__setattr__" = some (some (.builtin "object.__setattr__")))
    (no_Deed_kind : PySem.W.findIn K (.ref CDd) "kind" = some none)
    (no_Deed_row : PySem.W.findIn K (.ref CDd) "row" = some none)
    (no_Deed_table : PySem.W.findIn K (.ref CDd) "table" = some none)
    (no_Deed_under : PySem.W.findIn K (.ref CDd) "under" = some none)
    (no_Deed_column : PySem.W.findIn K (.ref CDd) "column" = some none)
    (no_Deed_terms : PySem.W.findIn K (.ref CDd) "terms" = some none)
    (z_tuple : PySem.W.nsIn K mainGlobals "tuple" = some none)
    (a__read_new : PySem.W.nsIn K mainGlobals "_read_new" = some (some (.ref f__read_new)))
    (e__read_move : FE K "_read_move" "_read_move" sMove f__read_move)
    (a__read_move : PySem.W.nsIn K mainGlobals "_read_move" = some (some (.ref f__read_move)))
    (e__read_set : FE K "_read_set" "_read_set" sSet f__read_set)
    (a__read_set : PySem.W.nsIn K mainGlobals "_read_set" = some (some (.ref f__read_set)))
    (e__read_each : FE K "_read_each" "_read_each" sEach f__read_each)
    (a__read_each : PySem.W.nsIn K mainGlobals "_read_each" = some (some (.ref f__read_each)))
    (e__read_take : FE K "_read_take" "_read_take" sTake f__read_take)
    (a__read_take : PySem.W.nsIn K mainGlobals "_read_take" = some (some (.ref f__read_take)))
    (a_read_deed : PySem.W.nsIn K mainGlobals "read_deed" = some (some (.ref f_read_deed)))
    (a__law_handler_told : PySem.W.nsIn K mainGlobals "_law_handler_told" = some (some (.ref f__law_handler_told)))
    (e__law_lines_due : FE K "_law_lines_due" "_law_lines_due" sLD f__law_lines_due)
    (a__law_lines_due : PySem.W.nsIn K mainGlobals "_law_lines_due" = some (some (.ref f__law_lines_due)))
    (e__law_get_right : FE K "_law_get_right" "_law_get_right" sGRt f__law_get_right)
    (a__law_get_right : PySem.W.nsIn K mainGlobals "_law_get_right" = some (some (.ref f__law_get_right)))
    (a_law : PySem.W.nsIn K mainGlobals "law" = some (some (.ref f_law)))
    (e_law : FE K "law" "law" sLaw f_law)
    : ∃ fd : FuncData, (∀ (s : Shared) (v : Value), BindsTo s fd ⟨[v], []⟩ [("script", v)]) ∧ ∀ base : Heap, K.In base → base.Ns mainGlobals mg → FnOk l.prog w K mg base CX0 14 fa fd ["script"] (spLaw K) := by
  have e := hfa.symm.trans (PySem.W.mg_of X G a_law)
  cases e
  obtain ⟨⟨oc, od, kV, doc, pm, an, cdv, ct, osl, lk, ck⟩, kp⟩ := e_law
  refine ⟨PySem.W.fnOf "law" "law" (defArgs sLaw) (defBody sLaw) (defScope sLaw) .none kV doc pm an cdv ct, fun s v => .of_eq rfl, fun base _ _ => ?_⟩
  obtain ⟨u__law_get_state, U__law_get_state⟩ := e__law_get_state.fn
  have b__law_get_state := U__law_get_state.binds (ps := ["script"]) fun _ _ _ _ _ _ us hl => match us, hl with | [_], _ => rfl
  have G__law_get_state := ok_state (P := l.prog) (w := w) (base := base) (mg := mg) U__law_get_state ⟨PySem.W.mg_none_of X G z_int, PySem.W.mg_none_of X G z_abs, PySem.W.mg_none_of X G z_range, PySem.W.mg_none_of X G z_len, PySem.W.mg_none_of X G z_list⟩
  have M__law_get_state : TM K mg "_law_get_state" ["script"] f__law_get_state u__law_get_state := ⟨PySem.W.mg_of X G a__law_get_state, U__law_get_state.kp, b__law_get_state⟩
  obtain ⟨u__law_draw, U__law_draw⟩ := e__law_draw.fn
  have b__law_draw := U__law_draw.binds (ps := ["st", "limit"]) fun _ _ _ _ _ _ us hl => match us, hl with | [_, _], _ => rfl
  have G__law_draw := ok_draw (P := l.prog) (w := w) (base := base) (mg := mg) U__law_draw ⟨PySem.W.mg_none_of X G z_int, PySem.W.mg_none_of X G z_abs, PySem.W.mg_none_of X G z_range, PySem.W.mg_none_of X G z_len, PySem.W.mg_none_of X G z_list⟩
  have M__law_draw : TM K mg "_law_draw" ["st", "limit"] f__law_draw u__law_draw := ⟨PySem.W.mg_of X G a__law_draw, U__law_draw.kp, b__law_draw⟩
  obtain ⟨u__law_get_words, U__law_get_words⟩ := e__law_get_words.fn
  have b__law_get_words := U__law_get_words.binds (ps := ["st", "most", "count"]) fun _ _ _ _ _ _ us hl => match us, hl with | [_, _, _], _ => rfl
  have G__law_get_words := ok_words (P := l.prog) (w := w) (base := base) (mg := mg) U__law_get_words ⟨PySem.W.mg_none_of X G z_int, PySem.W.mg_none_of X G z_abs, PySem.W.mg_none_of X G z_range, PySem.W.mg_none_of X G z_len, PySem.W.mg_none_of X G z_list⟩ G__law_draw M__law_draw.m M__law_draw.k b__law_draw
  have M__law_get_words : TM K mg "_law_get_words" ["st", "most", "count"] f__law_get_words u__law_get_words := ⟨PySem.W.mg_of X G a__law_get_words, U__law_get_words.kp, b__law_get_words⟩
  obtain ⟨u__law_forest, U__law_forest⟩ := e__law_forest.fn
  have b__law_forest := U__law_forest.binds (ps := ["state", "names", "most"]) fun _ _ _ _ _ _ us hl => match us, hl with | [_, _, _], _ => rfl
  obtain ⟨u__law_get_chain, U__law_get_chain⟩ := e__law_get_chain.fn
  have b__law_get_chain := U__law_get_chain.binds (ps := ["tb", "t"]) fun _ _ _ _ _ _ us hl => match us, hl with | [_, _], _ => rfl
  have M__law_get_chain : TM K mg "_law_get_chain" ["tb", "t"] f__law_get_chain u__law_get_chain := ⟨PySem.W.mg_of X G a__law_get_chain, U__law_get_chain.kp, b__law_get_chain⟩
  have G__law_get_chain := ok_gch (P := l.prog) (w := w) (base := base) (mg := mg) U__law_get_chain M__law_get_chain.m b__law_get_chain 5
  have G__law_forest := ok_for (P := l.prog) (w := w) (base := base) (mg := mg) U__law_forest ⟨PySem.W.mg_none_of X G z_range, PySem.W.mg_none_of X G z_len, PySem.W.mg_none_of X G z_int⟩ G__law_draw M__law_draw.m M__law_draw.k b__law_draw G__law_get_chain M__law_get_chain.m M__law_get_chain.k b__law_get_chain
  have M__law_forest : TM K mg "_law_forest" ["state", "names", "most"] f__law_forest u__law_forest := ⟨PySem.W.mg_of X G a__law_forest, U__law_forest.kp, b__law_forest⟩
  obtain ⟨uX_BadLine, UX_BadLine⟩ := eX_BadLine.fn
  have bX_BadLine := UX_BadLine.binds (ps := ["self", "line"]) fun _ _ _ _ _ _ us hl => match us, hl with | [_, _], _ => rfl
  have E_BadLine : EX l.prog w K mg base "BadLine" ["line"] X_BadLine := ⟨_, _, cf_BadLine.oex, iX_BadLine, tX_BadLine, ok_I_BadLine (P := l.prog) (w := w) (base := base) (mg := mg) UX_BadLine cf_BadLine.oex n_BadLine_line, bX_BadLine, PySem.W.mg_of X G a_BadLine⟩
  obtain ⟨uX_DuplicateName, UX_DuplicateName⟩ := eX_DuplicateName.fn
  have bX_DuplicateName := UX_DuplicateName.binds (ps := ["self", "line", "name"]) fun _ _ _ _ _ _ us hl => match us, hl with | [_, _, _], _ => rfl
  have E_DuplicateName : EX l.prog w K mg base "DuplicateName" ["line", "name"] X_DuplicateName := ⟨_, _, cf_DuplicateName.oex, iX_DuplicateName, tX_DuplicateName, ok_I_DuplicateName (P := l.prog) (w := w) (base := base) (mg := mg) UX_DuplicateName cf_DuplicateName.oex n_DuplicateName_line n_DuplicateName_name, bX_DuplicateName, PySem.W.mg_of X G a_DuplicateName⟩
  obtain ⟨uX_UnknownName, UX_UnknownName⟩ := eX_UnknownName.fn
  have bX_UnknownName := UX_UnknownName.binds (ps := ["self", "line", "name"]) fun _ _ _ _ _ _ us hl => match us, hl with | [_, _, _], _ => rfl
  have E_UnknownName : EX l.prog w K mg base "UnknownName" ["line", "name"] X_UnknownName := ⟨_, _, cf_UnknownName.oex, iX_UnknownName, tX_UnknownName, ok_I_UnknownName (P := l.prog) (w := w) (base := base) (mg := mg) UX_UnknownName cf_UnknownName.oex n_UnknownName_line n_UnknownName_name, bX_UnknownName, PySem.W.mg_of X G a_UnknownName⟩
  obtain ⟨uX_TooMany, UX_TooMany⟩ := eX_TooMany.fn
  have bX_TooMany := UX_TooMany.binds (ps := ["self", "line"]) fun _ _ _ _ _ _ us hl => match us, hl with | [_, _], _ => rfl
  have E_TooMany : EX l.prog w K mg base "TooMany" ["line"] X_TooMany := ⟨_, _, cf_TooMany.oex, iX_TooMany, tX_TooMany, ok_I_TooMany (P := l.prog) (w := w) (base := base) (mg := mg) UX_TooMany cf_TooMany.oex n_TooMany_line, bX_TooMany, PySem.W.mg_of X G a_TooMany⟩
  obtain ⟨uX_WrongTable, UX_WrongTable⟩ := eX_WrongTable.fn
  have bX_WrongTable := UX_WrongTable.binds (ps := ["self", "line", "name"]) fun _ _ _ _ _ _ us hl => match us, hl with | [_, _, _], _ => rfl
  have E_WrongTable : EX l.prog w K mg base "WrongTable" ["line", "name"] X_WrongTable := ⟨_, _, cf_WrongTable.oex, iX_WrongTable, tX_WrongTable, ok_I_WrongTable (P := l.prog) (w := w) (base := base) (mg := mg) UX_WrongTable cf_WrongTable.oex n_WrongTable_line n_WrongTable_name, bX_WrongTable, PySem.W.mg_of X G a_WrongTable⟩
  obtain ⟨uX_WrongCount, UX_WrongCount⟩ := eX_WrongCount.fn
  have bX_WrongCount := UX_WrongCount.binds (ps := ["self", "line"]) fun _ _ _ _ _ _ us hl => match us, hl with | [_, _], _ => rfl
  have E_WrongCount : EX l.prog w K mg base "WrongCount" ["line"] X_WrongCount := ⟨_, _, cf_WrongCount.oex, iX_WrongCount, tX_WrongCount, ok_I_WrongCount (P := l.prog) (w := w) (base := base) (mg := mg) UX_WrongCount cf_WrongCount.oex n_WrongCount_line, bX_WrongCount, PySem.W.mg_of X G a_WrongCount⟩
  let eS : ErA := ⟨X_BadLine, X_DuplicateName, X_UnknownName, X_TooMany⟩
  let eH : HA := ⟨eS, X_WrongTable, X_WrongCount⟩
  obtain ⟨u__law_schema_of, U__law_schema_of⟩ := e__law_schema_of.fn
  have b__law_schema_of := U__law_schema_of.binds (ps := ["tables"]) fun _ _ _ _ _ _ us hl => match us, hl with | [_], _ => rfl
  obtain ⟨u__law_table_line, U__law_table_line⟩ := e__law_table_line.fn
  have b__law_table_line := U__law_table_line.binds (ps := ["tb", "t"]) fun _ _ _ _ _ _ us hl => match us, hl with | [_, _], _ => rfl
  have G__law_table_line := ok_tln (P := l.prog) (w := w) (base := base) (mg := mg) U__law_table_line
  have M__law_table_line : TM K mg "_law_table_line" ["tb", "t"] f__law_table_line u__law_table_line := ⟨PySem.W.mg_of X G a__law_table_line, U__law_table_line.kp, b__law_table_line⟩
  obtain ⟨u_Schema_read, U_Schema_read⟩ := e_Schema_read.fn
  have b_Schema_read := U_Schema_read.binds (ps := ["text"]) fun _ _ _ _ _ _ us hl => match us, hl with | [_], _ => rfl
  obtain ⟨u_Schema___init__, U_Schema___init__⟩ := e_Schema___init__.fn
  have b_Schema___init__ := U_Schema___init__.binds (ps := ["self", "text"]) fun _ _ _ _ _ _ us hl => match us, hl with | [_, _], _ => rfl
  obtain ⟨u_Schema__read_line, U_Schema__read_line⟩ := e_Schema__read_line.fn
  have b_Schema__read_line := U_Schema__read_line.binds (ps := ["self", "line", "words"]) fun _ _ _ _ _ _ us hl => match us, hl with | [_, _, _], _ => rfl
  obtain ⟨u_has_form_schemas, U_has_form_schemas⟩ := e_has_form_schemas.fn
  have b_has_form_schemas := U_has_form_schemas.binds (ps := ["words"]) fun _ _ _ _ _ _ us hl => match us, hl with | [_], _ => rfl
  obtain ⟨u_is_name, U_is_name⟩ := e_is_name.fn
  have b_is_name := U_is_name.binds (ps := ["word"]) fun _ _ _ _ _ _ us hl => match us, hl with | [_], _ => rfl
  obtain ⟨u_is_value, U_is_value⟩ := e_is_value.fn
  have b_is_value := U_is_value.binds (ps := ["word"]) fun _ _ _ _ _ _ us hl => match us, hl with | [_], _ => rfl
  have G_is_value := ok_isval (P := l.prog) (w := w) (base := base) (mg := mg) U_is_value ⟨⟨_, PySem.W.mg_of X G c_LETTERS_AND_DIGITS⟩, ⟨_, PySem.W.mg_of X G c_LONGEST_VALUE⟩, PySem.W.mg_none_of X G z_len, PySem.W.mg_none_of X G z_all, PySem.W.mg_none_of X G z_isinstance, PySem.W.mg_none_of X G z_str⟩
  have M_is_value : TM K mg "is_value" ["word"] f_is_value u_is_value := ⟨PySem.W.mg_of X G a_is_value, U_is_value.kp, b_is_value⟩
  have G_is_name := ok_isname (P := l.prog) (w := w) (base := base) (mg := mg) U_is_name ⟨⟨_, PySem.W.mg_of X G c_LETTERS⟩, ⟨_, PySem.W.mg_of X G c_LONGEST_NAME⟩, PySem.W.mg_none_of X G z_len, PySem.W.mg_none_of X G z_all⟩ G_is_value M_is_value.m M_is_value.k b_is_value
  have M_is_name : TM K mg "is_name" ["word"] f_is_name u_is_name := ⟨PySem.W.mg_of X G a_is_name, U_is_name.kp, b_is_name⟩
  obtain ⟨u_are_names, U_are_names⟩ := e_are_names.fn
  have b_are_names := U_are_names.binds (ps := ["words"]) fun _ _ _ _ _ _ us hl => match us, hl with | [_], _ => rfl
  have G_are_names := ok_arenames (P := l.prog) (w := w) (base := base) (mg := mg) U_are_names ⟨⟨_, PySem.W.mg_of X G c_LETTERS⟩, ⟨_, PySem.W.mg_of X G c_LONGEST_NAME⟩, PySem.W.mg_none_of X G z_len, PySem.W.mg_none_of X G z_all⟩ G_is_name M_is_name.m M_is_name.k b_is_name
  have M_are_names : TM K mg "are_names" ["words"] f_are_names u_are_names := ⟨PySem.W.mg_of X G a_are_names, U_are_names.kp, b_are_names⟩
  have G_has_form_schemas := ok_form (P := l.prog) (w := w) (base := base) (mg := mg) U_has_form_schemas ⟨PySem.W.mg_none_of X G z_len⟩ G_is_name M_is_name.m M_is_name.k b_is_name G_are_names M_are_names.m M_are_names.k b_are_names
  have M_has_form_schemas : TM K mg "has_form_schemas" ["words"] f_has_form_schemas u_has_form_schemas := ⟨PySem.W.mg_of X G a_has_form_schemas, U_has_form_schemas.kp, b_has_form_schemas⟩
  obtain ⟨u_Schema__read_table, U_Schema__read_table⟩ := e_Schema__read_table.fn
  have b_Schema__read_table := U_Schema__read_table.binds (ps := ["self", "line", "table", "parent", "columns"]) fun _ _ _ _ _ _ us hl => match us, hl with | [_, _, _, _, _], _ => rfl
  obtain ⟨u_Schema__check_known, U_Schema__check_known⟩ := e_Schema__check_known.fn
  have b_Schema__check_known := U_Schema__check_known.binds (ps := ["self", "line", "table"]) fun _ _ _ _ _ _ us hl => match us, hl with | [_, _, _], _ => rfl
  have G_Schema__check_known := ok_known (P := l.prog) (w := w) (base := base) (mg := mg) (C := C) (e := eH.toErA) U_Schema__check_known ⟨⟨pg_Schema, hd_Schema, po_Schema, sa_Schema⟩, no_Schema_text, no_Schema__parents, no_Schema__columns, no_Schema__owners, no_Schema__follows⟩ E_UnknownName
  obtain ⟨u_Schema__check_limits, U_Schema__check_limits⟩ := e_Schema__check_limits.fn
  have b_Schema__check_limits := U_Schema__check_limits.binds (ps := ["self", "line", "table"]) fun _ _ _ _ _ _ us hl => match us, hl with | [_, _, _], _ => rfl
  obtain ⟨u_Schema_chain_of, U_Schema_chain_of⟩ := e_Schema_chain_of.fn
  have b_Schema_chain_of := U_Schema_chain_of.binds (ps := ["self", "table"]) fun _ _ _ _ _ _ us hl => match us, hl with | [_, _], _ => rfl
  have G_Schema_chain_of := ok_chain (P := l.prog) (w := w) (base := base) (mg := mg) (C := C) (e := eH.toErA) U_Schema_chain_of ⟨⟨pg_Schema, hd_Schema, po_Schema, sa_Schema⟩, no_Schema_text, no_Schema__parents, no_Schema__columns, no_Schema__owners, no_Schema__follows⟩ ⟨i_Schema__check_known, t_Schema__check_known, U_Schema__check_known.kp⟩ G_Schema__check_known b_Schema__check_known
  have G_Schema__check_limits := ok_lim (P := l.prog) (w := w) (base := base) (mg := mg) (C := C) (e := eH.toErA) U_Schema__check_limits ⟨⟨pg_Schema, hd_Schema, po_Schema, sa_Schema⟩, no_Schema_text, no_Schema__parents, no_Schema__columns, no_Schema__owners, no_Schema__follows⟩ ⟨PySem.W.mg_of X G a_Schema, PySem.W.mg_none_of X G z_len, ⟨rd_Schema, ga_Schema⟩, ⟨_, cc_Schema_MOST_TABLES, ⟨_, rfl⟩⟩, ⟨_, cc_Schema_MOST_COLUMNS, ⟨_, rfl⟩⟩, ⟨_, cc_Schema_LONGEST_CHAIN, ⟨_, rfl⟩⟩⟩ E_TooMany ⟨i_Schema_chain_of, t_Schema_chain_of, U_Schema_chain_of.kp⟩ G_Schema_chain_of b_Schema_chain_of
  have G_Schema__read_table := ok_table (P := l.prog) (w := w) (base := base) (mg := mg) (C := C) (e := eH.toErA) U_Schema__read_table ⟨⟨pg_Schema, hd_Schema, po_Schema, sa_Schema⟩, no_Schema_text, no_Schema__parents, no_Schema__columns, no_Schema__owners, no_Schema__follows⟩ ⟨PySem.W.mg_none_of X G z_enumerate⟩ E_DuplicateName ⟨i_Schema__check_known, t_Schema__check_known, U_Schema__check_known.kp⟩ G_Schema__check_known b_Schema__check_known ⟨i_Schema__check_limits, t_Schema__check_limits, U_Schema__check_limits.kp⟩ G_Schema__check_limits b_Schema__check_limits
  obtain ⟨u_Schema__read_owner, U_Schema__read_owner⟩ := e_Schema__read_owner.fn
  have b_Schema__read_owner := U_Schema__read_owner.binds (ps := ["self", "line", "table", "position"]) fun _ _ _ _ _ _ us hl => match us, hl with | [_, _, _, _], _ => rfl
  obtain ⟨u_Schema_check_position, U_Schema_check_position⟩ := e_Schema_check_position.fn
  have b_Schema_check_position := U_Schema_check_position.binds (ps := ["self", "line", "table", "names"]) fun _ _ _ _ _ _ us hl => match us, hl with | [_, _, _, _], _ => rfl
  have G_Schema_check_position := ok_pos (P := l.prog) (w := w) (base := base) (mg := mg) (C := C) (e := eH.toErA) U_Schema_check_position ⟨⟨pg_Schema, hd_Schema, po_Schema, sa_Schema⟩, no_Schema_text, no_Schema__parents, no_Schema__columns, no_Schema__owners, no_Schema__follows⟩ E_UnknownName
  have G_Schema__read_owner := ok_owner (P := l.prog) (w := w) (base := base) (mg := mg) (C := C) (e := eH.toErA) U_Schema__read_owner ⟨⟨pg_Schema, hd_Schema, po_Schema, sa_Schema⟩, no_Schema_text, no_Schema__parents, no_Schema__columns, no_Schema__owners, no_Schema__follows⟩ E_DuplicateName ⟨i_Schema__check_known, t_Schema__check_known, U_Schema__check_known.kp⟩ G_Schema__check_known b_Schema__check_known ⟨i_Schema_check_position, t_Schema_check_position, U_Schema_check_position.kp⟩ G_Schema_check_position b_Schema_check_position
  obtain ⟨u_Schema__read_follow, U_Schema__read_follow⟩ := e_Schema__read_follow.fn
  have b_Schema__read_follow := U_Schema__read_follow.binds (ps := ["self", "line", "table", "column", "source"]) fun _ _ _ _ _ _ us hl => match us, hl with | [_, _, _, _, _], _ => rfl
  have G_Schema__read_follow := ok_follow (P := l.prog) (w := w) (base := base) (mg := mg) (C := C) (e := eH.toErA) U_Schema__read_follow ⟨⟨pg_Schema, hd_Schema, po_Schema, sa_Schema⟩, no_Schema_text, no_Schema__parents, no_Schema__columns, no_Schema__owners, no_Schema__follows⟩ E_DuplicateName E_UnknownName ⟨i_Schema__check_known, t_Schema__check_known, U_Schema__check_known.kp⟩ G_Schema__check_known b_Schema__check_known
  have G_Schema__read_line := ok_line (P := l.prog) (w := w) (base := base) (mg := mg) (C := C) (e := eH.toErA) U_Schema__read_line ⟨⟨pg_Schema, hd_Schema, po_Schema, sa_Schema⟩, no_Schema_text, no_Schema__parents, no_Schema__columns, no_Schema__owners, no_Schema__follows⟩ E_BadLine G_has_form_schemas M_has_form_schemas.m M_has_form_schemas.k b_has_form_schemas ⟨i_Schema__read_table, t_Schema__read_table, U_Schema__read_table.kp⟩ G_Schema__read_table b_Schema__read_table ⟨i_Schema__read_owner, t_Schema__read_owner, U_Schema__read_owner.kp⟩ G_Schema__read_owner b_Schema__read_owner ⟨i_Schema__read_follow, t_Schema__read_follow, U_Schema__read_follow.kp⟩ G_Schema__read_follow b_Schema__read_follow
  have G_Schema___init__ := ok_initS (P := l.prog) (w := w) (base := base) (mg := mg) (C := C) (e := eH.toErA) U_Schema___init__ ⟨⟨pg_Schema, hd_Schema, po_Schema, sa_Schema⟩, no_Schema_text, no_Schema__parents, no_Schema__columns, no_Schema__owners, no_Schema__follows⟩ ⟨PySem.W.mg_none_of X G z_enumerate, PySem.W.mg_of X G a_Schema⟩ ⟨i_Schema__read_line, t_Schema__read_line, U_Schema__read_line.kp⟩ G_Schema__read_line b_Schema__read_line
  have G_Schema_read := ok_read (P := l.prog) (w := w) (base := base) (mg := mg) (C := C) (e := eH.toErA) U_Schema_read ⟨PySem.W.mg_none_of X G z_enumerate, PySem.W.mg_of X G a_Schema⟩ ⟨mk_Schema, i_Schema___init__, t_Schema___init__, kC_Schema⟩ G_Schema___init__ b_Schema___init__
  have G__law_schema_of := ok_so (P := l.prog) (w := w) (base := base) (mg := mg) (C := C) (e0 := eH.toErA) U__law_schema_of ⟨PySem.W.mg_none_of X G z_range, PySem.W.mg_none_of X G z_len, PySem.W.mg_of X G a_Schema⟩ G__law_table_line M__law_table_line.m M__law_table_line.k b__law_table_line ⟨rd_Schema, ga_Schema⟩ ⟨sm_Schema_read, ⟨_, rr_Schema_read⟩, U_Schema_read.kp⟩ (My.FnOk.calm G_Schema_read) b_Schema_read
  have M__law_schema_of : TM K mg "_law_schema_of" ["tables"] f__law_schema_of u__law_schema_of := ⟨PySem.W.mg_of X G a__law_schema_of, U__law_schema_of.kp, b__law_schema_of⟩
  obtain ⟨u__law_handler_told, U__law_handler_told⟩ := e__law_handler_told.fn
  have b__law_handler_told := U__law_handler_told.binds (ps := ["schema", "text"]) fun _ _ _ _ _ _ us hl => match us, hl with | [_, _], _ => rfl
  have cfH : ∀ er, CF K A (eH.clsH er) := fun er => match er with | .bad => cf_BadLine | .dup _ => cf_DuplicateName | .unk _ => cf_UnknownName | .many => cf_TooMany | .tab _ => cf_WrongTable | .cnt => cf_WrongCount
  have neH : ∀ er, eH.clsH er ≠ A := fun er => match er with | .bad => ne_BadLine | .dup _ => ne_DuplicateName | .unk _ => ne_UnknownName | .many => ne_TooMany | .tab _ => ne_WrongTable | .cnt => ne_WrongCount
  have nH_line : ∀ er, PySem.W.findIn K (.ref (eH.clsH er)) "line" = some none := fun er => match er with | .bad => n_BadLine_line | .dup _ => n_DuplicateName_line | .unk _ => n_UnknownName_line | .many => n_TooMany_line | .tab _ => n_WrongTable_line | .cnt => n_WrongCount_line
  have nH_name : ∀ er, PySem.W.findIn K (.ref (eH.clsH er)) "name" = some none := fun er => match er with | .bad => n_BadLine_name | .dup _ => n_DuplicateName_name | .unk _ => n_UnknownName_name | .many => n_TooMany_name | .tab _ => n_WrongTable_name | .cnt => n_WrongCount_name
  obtain ⟨u__law_get_named, U__law_get_named⟩ := e__law_get_named.fn
  have b__law_get_named := U__law_get_named.binds (ps := ["error", "word"]) fun _ _ _ _ _ _ us hl => match us, hl with | [_, _], _ => rfl
  have G__law_get_named := ok_namedH (P := l.prog) (w := w) (base := base) (mg := mg) (AE := A) (e := eH) U__law_get_named ⟨PySem.W.mg_none_of X G z_isinstance, PySem.W.mg_none_of X G z_int, PySem.W.mg_none_of X G z_bool⟩ ⟨PySem.W.mg_of X G a_AgreeError⟩ (fun er => ⟨(cfH er).xf, (cfH er).exc hhn hht, (cfH er).kitA (neH er) cA tA, nH_line er, nH_name er⟩)
  have M__law_get_named : TM K mg "_law_get_named" ["error", "word"] f__law_get_named u__law_get_named := ⟨PySem.W.mg_of X G a__law_get_named, U__law_get_named.kp, b__law_get_named⟩
  obtain ⟨u_Handler_read, U_Handler_read⟩ := e_Handler_read.fn
  have b_Handler_read := U_Handler_read.binds (ps := ["schema", "text"]) fun _ _ _ _ _ _ us hl => match us, hl with | [_, _], _ => rfl
  obtain ⟨u_Handler___init__, U_Handler___init__⟩ := e_Handler___init__.fn
  have b_Handler___init__ := U_Handler___init__.binds (ps := ["self", "schema", "text"]) fun _ _ _ _ _ _ us hl => match us, hl with | [_, _, _], _ => rfl
  have TF_g_FORMS : TFm K mg g_FORMS := ⟨PySem.W.mg_of X G a_FORMS, [(g_FORMS_0, (0, "handler NAME")), (g_FORMS_1, (1, "row NAME in NAME")), (g_FORMS_2, (1, "value NAME")), (g_FORMS_3, (2, "need TERM = TERM")), (g_FORMS_4, (3, "new NAME in NAME with TERM ..")), (g_FORMS_5, (3, "new NAME in NAME under NAME with TERM ..")), (g_FORMS_6, (3, "move NAME under NAME")), (g_FORMS_7, (3, "set NAME.NAME = TERM")), (g_FORMS_8, (3, "each NAME below NAME sets NAME = TERM")), (g_FORMS_9, (3, "take NAME"))], rfl, fun H => ⟨sqt_look (xs := [.ref g_FORMS_0, .ref g_FORMS_1, .ref g_FORMS_2, .ref g_FORMS_3, .ref g_FORMS_4, .ref g_FORMS_5, .ref g_FORMS_6, .ref g_FORMS_7, .ref g_FORMS_8, .ref g_FORMS_9]) (us := [.ref g_FORMS_0, .ref g_FORMS_1, .ref g_FORMS_2, .ref g_FORMS_3, .ref g_FORMS_4, .ref g_FORMS_5, .ref g_FORMS_6, .ref g_FORMS_7, .ref g_FORMS_8, .ref g_FORMS_9]) l_g_FORMS (.cons rfl (.cons rfl (.cons rfl (.cons rfl (.cons rfl (.cons rfl (.cons rfl (.cons rfl (.cons rfl (.cons rfl .nil)))))))))) (by show 10 ≤ 1000; decide) H, fun f hf => by
    simp only [List.mem_cons, List.not_mem_nil, or_false] at hf
    rcases hf with rfl | rfl | rfl | rfl | rfl | rfl | rfl | rfl | rfl | rfl
    · exact sqt_look (xs := [.int 0, .str "handler NAME"]) (us := [.int 0 tk_g_FORMS_0, .str "handler NAME" ts_g_FORMS_0]) l_g_FORMS_0 (.cons ⟨_, rfl⟩ (.cons ⟨_, rfl⟩ .nil)) (by show 2 ≤ 1000; decide) H
    · exact sqt_look (xs := [.int 1, .str "row NAME in NAME"]) (us := [.int 1 tk_g_FORMS_1, .str "row NAME in NAME" ts_g_FORMS_1]) l_g_FORMS_1 (.cons ⟨_, rfl⟩ (.cons ⟨_, rfl⟩ .nil)) (by show 2 ≤ 1000; decide) H
    · exact sqt_look (xs := [.int 1, .str "value NAME"]) (us := [.int 1 tk_g_FORMS_2, .str "value NAME" ts_g_FORMS_2]) l_g_FORMS_2 (.cons ⟨_, rfl⟩ (.cons ⟨_, rfl⟩ .nil)) (by show 2 ≤ 1000; decide) H
    · exact sqt_look (xs := [.int 2, .str "need TERM = TERM"]) (us := [.int 2 tk_g_FORMS_3, .str "need TERM = TERM" ts_g_FORMS_3]) l_g_FORMS_3 (.cons ⟨_, rfl⟩ (.cons ⟨_, rfl⟩ .nil)) (by show 2 ≤ 1000; decide) H
    · exact sqt_look (xs := [.int 3, .str "new NAME in NAME with TERM .."]) (us := [.int 3 tk_g_FORMS_4, .str "new NAME in NAME with TERM .." ts_g_FORMS_4]) l_g_FORMS_4 (.cons ⟨_, rfl⟩ (.cons ⟨_, rfl⟩ .nil)) (by show 2 ≤ 1000; decide) H
    · exact sqt_look (xs := [.int 3, .str "new NAME in NAME under NAME with TERM .."]) (us := [.int 3 tk_g_FORMS_5, .str "new NAME in NAME under NAME with TERM .." ts_g_FORMS_5]) l_g_FORMS_5 (.cons ⟨_, rfl⟩ (.cons ⟨_, rfl⟩ .nil)) (by show 2 ≤ 1000; decide) H
    · exact sqt_look (xs := [.int 3, .str "move NAME under NAME"]) (us := [.int 3 tk_g_FORMS_6, .str "move NAME under NAME" ts_g_FORMS_6]) l_g_FORMS_6 (.cons ⟨_, rfl⟩ (.cons ⟨_, rfl⟩ .nil)) (by show 2 ≤ 1000; decide) H
    · exact sqt_look (xs := [.int 3, .str "set NAME.NAME = TERM"]) (us := [.int 3 tk_g_FORMS_7, .str "set NAME.NAME = TERM" ts_g_FORMS_7]) l_g_FORMS_7 (.cons ⟨_, rfl⟩ (.cons ⟨_, rfl⟩ .nil)) (by show 2 ≤ 1000; decide) H
    · exact sqt_look (xs := [.int 3, .str "each NAME below NAME sets NAME = TERM"]) (us := [.int 3 tk_g_FORMS_8, .str "each NAME below NAME sets NAME = TERM" ts_g_FORMS_8]) l_g_FORMS_8 (.cons ⟨_, rfl⟩ (.cons ⟨_, rfl⟩ .nil)) (by show 2 ≤ 1000; decide) H
    · exact sqt_look (xs := [.int 3, .str "take NAME"]) (us := [.int 3 tk_g_FORMS_9, .str "take NAME" ts_g_FORMS_9]) l_g_FORMS_9 (.cons ⟨_, rfl⟩ (.cons ⟨_, rfl⟩ .nil)) (by show 2 ≤ 1000; decide) H⟩⟩
  obtain ⟨u_Scope___init__, U_Scope___init__⟩ := e_Scope___init__.fn
  have b_Scope___init__ := U_Scope___init__.binds (ps := ["self", "schema"]) fun _ _ _ _ _ _ us hl => match us, hl with | [_, _], _ => rfl
  have G_Scope___init__ := ok_initX (P := l.prog) (w := w) (base := base) (mg := mg) (CS := CS) U_Scope___init__ ⟨⟨pg_Scope, hd_Scope, po_Scope, sa_Scope⟩, no_Scope_schema, no_Scope__rows, no_Scope__new_rows, no_Scope__values⟩
  obtain ⟨u_place_of, U_place_of⟩ := e_place_of.fn
  have b_place_of := U_place_of.binds (ps := ["line", "words", "forms"]) fun _ _ _ _ _ _ us hl => match us, hl with | [_, _, _], _ => rfl
  obtain ⟨u_has_form_forms, U_has_form_forms⟩ := e_has_form_forms.fn
  have b_has_form_forms := U_has_form_forms.binds (ps := ["words", "form"]) fun _ _ _ _ _ _ us hl => match us, hl with | [_, _], _ => rfl
  obtain ⟨u__fits, U__fits⟩ := e__fits.fn
  have b__fits := U__fits.binds (ps := ["word", "part"]) fun _ _ _ _ _ _ us hl => match us, hl with | [_, _], _ => rfl
  obtain ⟨u__is_term, U__is_term⟩ := e__is_term.fn
  have b__is_term := U__is_term.binds (ps := ["word"]) fun _ _ _ _ _ _ us hl => match us, hl with | [_], _ => rfl
  obtain ⟨u_is_constant, U_is_constant⟩ := e_is_constant.fn
  have b_is_constant := U_is_constant.binds (ps := ["word"]) fun _ _ _ _ _ _ us hl => match us, hl with | [_], _ => rfl
  have G_is_constant := ok_iscon (P := l.prog) (w := w) (base := base) (mg := mg) U_is_constant ⟨⟨_, PySem.W.mg_of X G c_LETTERS_AND_DIGITS⟩, ⟨_, PySem.W.mg_of X G c_LONGEST_VALUE⟩, PySem.W.mg_none_of X G z_len, PySem.W.mg_none_of X G z_all, PySem.W.mg_none_of X G z_isinstance, PySem.W.mg_none_of X G z_str⟩ G_is_value M_is_value.m M_is_value.k b_is_value
  have M_is_constant : TM K mg "is_constant" ["word"] f_is_constant u_is_constant := ⟨PySem.W.mg_of X G a_is_constant, U_is_constant.kp, b_is_constant⟩
  have G__is_term := ok_isterm (P := l.prog) (w := w) (base := base) (mg := mg) U__is_term G_is_constant M_is_constant.m M_is_constant.k b_is_constant G_are_names M_are_names.m M_are_names.k b_are_names
  have M__is_term : TM K mg "_is_term" ["word"] f__is_term u__is_term := ⟨PySem.W.mg_of X G a__is_term, U__is_term.kp, b__is_term⟩
  have G__fits := ok_fits (P := l.prog) (w := w) (base := base) (mg := mg) U__fits G_is_name M_is_name.m M_is_name.k b_is_name G_are_names M_are_names.m M_are_names.k b_are_names G__is_term M__is_term.m M__is_term.k b__is_term
  have M__fits : TM K mg "_fits" ["word", "part"] f__fits u__fits := ⟨PySem.W.mg_of X G a__fits, U__fits.kp, b__fits⟩
  have G_has_form_forms := ok_formH (P := l.prog) (w := w) (base := base) (mg := mg) U_has_form_forms ⟨PySem.W.mg_none_of X G z_len, PySem.W.mg_none_of X G z_all, PySem.W.mg_none_of X G z_zip⟩ G__fits M__fits.m M__fits.k b__fits
  have M_has_form_forms : TM K mg "has_form_forms" ["words", "form"] f_has_form_forms u_has_form_forms := ⟨PySem.W.mg_of X G a_has_form_forms, U_has_form_forms.kp, b_has_form_forms⟩
  have G_place_of := ok_place (P := l.prog) (w := w) (base := base) (mg := mg) (e := eH.toErA) U_place_of E_BadLine G_has_form_forms M_has_form_forms.m M_has_form_forms.k b_has_form_forms
  have M_place_of : TM K mg "place_of" ["line", "words", "forms"] f_place_of u_place_of := ⟨PySem.W.mg_of X G a_place_of, U_place_of.kp, b_place_of⟩
  obtain ⟨u_Handler__read_line, U_Handler__read_line⟩ := e_Handler__read_line.fn
  have b_Handler__read_line := U_Handler__read_line.binds (ps := ["self", "line", "words"]) fun _ _ _ _ _ _ us hl => match us, hl with | [_, _, _], _ => rfl
  obtain ⟨u_Scope_read_parameter, U_Scope_read_parameter⟩ := e_Scope_read_parameter.fn
  have b_Scope_read_parameter := U_Scope_read_parameter.binds (ps := ["self", "line", "words"]) fun _ _ _ _ _ _ us hl => match us, hl with | [_, _, _], _ => rfl
  obtain ⟨u_Scope_check_new, U_Scope_check_new⟩ := e_Scope_check_new.fn
  have b_Scope_check_new := U_Scope_check_new.binds (ps := ["self", "line", "name"]) fun _ _ _ _ _ _ us hl => match us, hl with | [_, _, _], _ => rfl
  have G_Scope_check_new := ok_xcknew (P := l.prog) (w := w) (base := base) (mg := mg) (CS := CS) (C := C) (e := eH) U_Scope_check_new ⟨⟨pg_Scope, hd_Scope, po_Scope, sa_Scope⟩, no_Scope_schema, no_Scope__rows, no_Scope__new_rows, no_Scope__values⟩ E_DuplicateName
  obtain ⟨u_Scope_check_table, U_Scope_check_table⟩ := e_Scope_check_table.fn
  have b_Scope_check_table := U_Scope_check_table.binds (ps := ["self", "line", "table"]) fun _ _ _ _ _ _ us hl => match us, hl with | [_, _, _], _ => rfl
  obtain ⟨u_Schema_tables, U_Schema_tables⟩ := e_Schema_tables.fn
  have b_Schema_tables := U_Schema_tables.binds (ps := ["self"]) fun _ _ _ _ _ _ us hl => match us, hl with | [_], _ => rfl
  have G_Schema_tables := ok_mtab (P := l.prog) (w := w) (base := base) (mg := mg) (C := C) U_Schema_tables ⟨⟨pg_Schema, hd_Schema, po_Schema, sa_Schema⟩, no_Schema_text, no_Schema__parents, no_Schema__columns, no_Schema__owners, no_Schema__follows⟩ ⟨PySem.W.mg_none_of X G z_list⟩
  have G_Scope_check_table := ok_xcktab (P := l.prog) (w := w) (base := base) (mg := mg) (CS := CS) (C := C) (e := eH) U_Scope_check_table ⟨⟨pg_Scope, hd_Scope, po_Scope, sa_Scope⟩, no_Scope_schema, no_Scope__rows, no_Scope__new_rows, no_Scope__values⟩ ⟨⟨pg_Schema, hd_Schema, po_Schema, sa_Schema⟩, no_Schema_text, no_Schema__parents, no_Schema__columns, no_Schema__owners, no_Schema__follows⟩ E_UnknownName ⟨i_Schema_tables, t_Schema_tables, U_Schema_tables.kp⟩ G_Schema_tables b_Schema_tables
  obtain ⟨u_Scope_define_row, U_Scope_define_row⟩ := e_Scope_define_row.fn
  have b_Scope_define_row := U_Scope_define_row.binds (ps := ["self", "name", "table"]) fun _ _ _ _ _ _ us hl => match us, hl with | [_, _, _], _ => rfl
  have G_Scope_define_row := ok_xdefr (P := l.prog) (w := w) (base := base) (mg := mg) (CS := CS) (C := C) U_Scope_define_row ⟨⟨pg_Scope, hd_Scope, po_Scope, sa_Scope⟩, no_Scope_schema, no_Scope__rows, no_Scope__new_rows, no_Scope__values⟩
  have G_Scope_read_parameter := ok_xpar (P := l.prog) (w := w) (base := base) (mg := mg) (CS := CS) (C := C) (e := eH) U_Scope_read_parameter ⟨⟨pg_Scope, hd_Scope, po_Scope, sa_Scope⟩, no_Scope_schema, no_Scope__rows, no_Scope__new_rows, no_Scope__values⟩ ⟨i_Scope_check_new, t_Scope_check_new, U_Scope_check_new.kp⟩ G_Scope_check_new b_Scope_check_new ⟨i_Scope_check_table, t_Scope_check_table, U_Scope_check_table.kp⟩ G_Scope_check_table b_Scope_check_table ⟨i_Scope_define_row, t_Scope_define_row, U_Scope_define_row.kp⟩ G_Scope_define_row b_Scope_define_row
  obtain ⟨u_check_parameters, U_check_parameters⟩ := e_check_parameters.fn
  have b_check_parameters := U_check_parameters.binds (ps := ["line", "scope"]) fun _ _ _ _ _ _ us hl => match us, hl with | [_, _], _ => rfl
  obtain ⟨u_Scope_row_parameters, U_Scope_row_parameters⟩ := e_Scope_row_parameters.fn
  have b_Scope_row_parameters := U_Scope_row_parameters.binds (ps := ["self"]) fun _ _ _ _ _ _ us hl => match us, hl with | [_], _ => rfl
  have G_Scope_row_parameters := ok_xrows (P := l.prog) (w := w) (base := base) (mg := mg) (CS := CS) (C := C) U_Scope_row_parameters ⟨⟨pg_Scope, hd_Scope, po_Scope, sa_Scope⟩, no_Scope_schema, no_Scope__rows, no_Scope__new_rows, no_Scope__values⟩ ⟨PySem.W.mg_none_of X G z_list⟩
  obtain ⟨u_Scope_value_parameters, U_Scope_value_parameters⟩ := e_Scope_value_parameters.fn
  have b_Scope_value_parameters := U_Scope_value_parameters.binds (ps := ["self"]) fun _ _ _ _ _ _ us hl => match us, hl with | [_], _ => rfl
  have G_Scope_value_parameters := ok_xvals (P := l.prog) (w := w) (base := base) (mg := mg) (CS := CS) (C := C) U_Scope_value_parameters ⟨⟨pg_Scope, hd_Scope, po_Scope, sa_Scope⟩, no_Scope_schema, no_Scope__rows, no_Scope__new_rows, no_Scope__values⟩ ⟨PySem.W.mg_none_of X G z_list⟩
  have G_check_parameters := ok_ckpar (P := l.prog) (w := w) (base := base) (mg := mg) (CS := CS) (C := C) (CH := CH) (e := eH) U_check_parameters ⟨⟨pg_Scope, hd_Scope, po_Scope, sa_Scope⟩, no_Scope_schema, no_Scope__rows, no_Scope__new_rows, no_Scope__values⟩ ⟨PySem.W.mg_of X G a_Handler, PySem.W.mg_none_of X G z_len, ⟨rd_Handler, ga_Handler⟩, ⟨_, cc_Handler_MOST_ROWS, ⟨_, rfl⟩⟩, ⟨_, cc_Handler_MOST_VALUES, ⟨_, rfl⟩⟩⟩ E_TooMany ⟨i_Scope_row_parameters, t_Scope_row_parameters, U_Scope_row_parameters.kp⟩ G_Scope_row_parameters b_Scope_row_parameters ⟨i_Scope_value_parameters, t_Scope_value_parameters, U_Scope_value_parameters.kp⟩ G_Scope_value_parameters b_Scope_value_parameters
  have M_check_parameters : TM K mg "check_parameters" ["line", "scope"] f_check_parameters u_check_parameters := ⟨PySem.W.mg_of X G a_check_parameters, U_check_parameters.kp, b_check_parameters⟩
  obtain ⟨u_Scope_read_equation, U_Scope_read_equation⟩ := e_Scope_read_equation.fn
  have b_Scope_read_equation := U_Scope_read_equation.binds (ps := ["self", "line", "words"]) fun _ _ _ _ _ _ us hl => match us, hl with | [_, _, _], _ => rfl
  obtain ⟨u_Scope_check_term, U_Scope_check_term⟩ := e_Scope_check_term.fn
  have b_Scope_check_term := U_Scope_check_term.binds (ps := ["self", "line", "term"]) fun _ _ _ _ _ _ us hl => match us, hl with | [_, _, _], _ => rfl
  obtain ⟨u_Scope_table_of, U_Scope_table_of⟩ := e_Scope_table_of.fn
  have b_Scope_table_of := U_Scope_table_of.binds (ps := ["self", "line", "name"]) fun _ _ _ _ _ _ us hl => match us, hl with | [_, _, _], _ => rfl
  have G_Scope_table_of := ok_xtabof (P := l.prog) (w := w) (base := base) (mg := mg) (CS := CS) (C := C) (e := eH) U_Scope_table_of ⟨⟨pg_Scope, hd_Scope, po_Scope, sa_Scope⟩, no_Scope_schema, no_Scope__rows, no_Scope__new_rows, no_Scope__values⟩ E_UnknownName
  have G_Scope_check_term := ok_xterm (P := l.prog) (w := w) (base := base) (mg := mg) (CS := CS) (C := C) (e := eH) U_Scope_check_term ⟨⟨pg_Scope, hd_Scope, po_Scope, sa_Scope⟩, no_Scope_schema, no_Scope__rows, no_Scope__new_rows, no_Scope__values⟩ ⟨⟨pg_Schema, hd_Schema, po_Schema, sa_Schema⟩, no_Schema_text, no_Schema__parents, no_Schema__columns, no_Schema__owners, no_Schema__follows⟩ E_UnknownName G_is_constant M_is_constant.m M_is_constant.k b_is_constant ⟨i_Scope_table_of, t_Scope_table_of, U_Scope_table_of.kp⟩ G_Scope_table_of b_Scope_table_of ⟨i_Schema_check_position, t_Schema_check_position, U_Schema_check_position.kp⟩ G_Schema_check_position b_Schema_check_position
  have G_Scope_read_equation := ok_xeq (P := l.prog) (w := w) (base := base) (mg := mg) (CS := CS) (C := C) (e := eH) U_Scope_read_equation ⟨⟨pg_Scope, hd_Scope, po_Scope, sa_Scope⟩, no_Scope_schema, no_Scope__rows, no_Scope__new_rows, no_Scope__values⟩ ⟨i_Scope_check_term, t_Scope_check_term, U_Scope_check_term.kp⟩ G_Scope_check_term b_Scope_check_term
  obtain ⟨u_read_deed, U_read_deed⟩ := e_read_deed.fn
  have b_read_deed := U_read_deed.binds (ps := ["scope", "line", "words"]) fun _ _ _ _ _ _ us hl => match us, hl with | [_, _, _], _ => rfl
  obtain ⟨u__read_new, U__read_new⟩ := e__read_new.fn
  have b__read_new := U__read_new.binds (ps := ["scope", "line", "words"]) fun _ _ _ _ _ _ us hl => match us, hl with | [_, _, _], _ => rfl
  obtain ⟨u_Scope_table_of_any, U_Scope_table_of_any⟩ := e_Scope_table_of_any.fn
  have b_Scope_table_of_any := U_Scope_table_of_any.binds (ps := ["self", "line", "name"]) fun _ _ _ _ _ _ us hl => match us, hl with | [_, _, _], _ => rfl
  have G_Scope_table_of_any := ok_xtabany (P := l.prog) (w := w) (base := base) (mg := mg) (CS := CS) (C := C) (e := eH) U_Scope_table_of_any ⟨⟨pg_Scope, hd_Scope, po_Scope, sa_Scope⟩, no_Scope_schema, no_Scope__rows, no_Scope__new_rows, no_Scope__values⟩ ⟨i_Scope_table_of, t_Scope_table_of, U_Scope_table_of.kp⟩ G_Scope_table_of b_Scope_table_of
  obtain ⟨u__check_under, U__check_under⟩ := e__check_under.fn
  have b__check_under := U__check_under.binds (ps := ["scope", "line", "table", "under"]) fun _ _ _ _ _ _ us hl => match us, hl with | [_, _, _, _], _ => rfl
  obtain ⟨u_Schema_parent_of, U_Schema_parent_of⟩ := e_Schema_parent_of.fn
  have b_Schema_parent_of := U_Schema_parent_of.binds (ps := ["self", "table"]) fun _ _ _ _ _ _ us hl => match us, hl with | [_, _], _ => rfl
  have G_Schema_parent_of := ok_mpar (P := l.prog) (w := w) (base := base) (mg := mg) (C := C) (e := eH.toErA) U_Schema_parent_of ⟨⟨pg_Schema, hd_Schema, po_Schema, sa_Schema⟩, no_Schema_text, no_Schema__parents, no_Schema__columns, no_Schema__owners, no_Schema__follows⟩ ⟨i_Schema__check_known, t_Schema__check_known, U_Schema__check_known.kp⟩ G_Schema__check_known b_Schema__check_known
  have G__check_under := ok_under (P := l.prog) (w := w) (base := base) (mg := mg) (CS := CS) (C := C) (e := eH) U__check_under ⟨⟨pg_Scope, hd_Scope, po_Scope, sa_Scope⟩, no_Scope_schema, no_Scope__rows, no_Scope__new_rows, no_Scope__values⟩ ⟨⟨pg_Schema, hd_Schema, po_Schema, sa_Schema⟩, no_Schema_text, no_Schema__parents, no_Schema__columns, no_Schema__owners, no_Schema__follows⟩ E_WrongTable ⟨i_Scope_table_of_any, t_Scope_table_of_any, U_Scope_table_of_any.kp⟩ G_Scope_table_of_any b_Scope_table_of_any ⟨i_Schema_parent_of, t_Schema_parent_of, U_Schema_parent_of.kp⟩ G_Schema_parent_of b_Schema_parent_of
  have M__check_under : TM K mg "_check_under" ["scope", "line", "table", "under"] f__check_under u__check_under := ⟨PySem.W.mg_of X G a__check_under, U__check_under.kp, b__check_under⟩
  obtain ⟨u_Schema_columns, U_Schema_columns⟩ := e_Schema_columns.fn
  have b_Schema_columns := U_Schema_columns.binds (ps := ["self", "table"]) fun _ _ _ _ _ _ us hl => match us, hl with | [_, _], _ => rfl
  have G_Schema_columns := ok_mcols (P := l.prog) (w := w) (base := base) (mg := mg) (C := C) (e := eH.toErA) U_Schema_columns ⟨⟨pg_Schema, hd_Schema, po_Schema, sa_Schema⟩, no_Schema_text, no_Schema__parents, no_Schema__columns, no_Schema__owners, no_Schema__follows⟩ ⟨PySem.W.mg_none_of X G z_list⟩ ⟨i_Schema__check_known, t_Schema__check_known, U_Schema__check_known.kp⟩ G_Schema__check_known b_Schema__check_known
  obtain ⟨u_Scope_define_new_row, U_Scope_define_new_row⟩ := e_Scope_define_new_row.fn
  have b_Scope_define_new_row := U_Scope_define_new_row.binds (ps := ["self", "name", "table"]) fun _ _ _ _ _ _ us hl => match us, hl with | [_, _, _], _ => rfl
  have G_Scope_define_new_row := ok_xdefn (P := l.prog) (w := w) (base := base) (mg := mg) (CS := CS) (C := C) U_Scope_define_new_row ⟨⟨pg_Scope, hd_Scope, po_Scope, sa_Scope⟩, no_Scope_schema, no_Scope__rows, no_Scope__new_rows, no_Scope__values⟩
  obtain ⟨u_Deed___init__, U_Deed___init__⟩ := e_Deed___init__.fn
  have b_Deed___init__ := U_Deed___init__.binds (ps := ["self", "kind", "row", "table", "under", "column", "terms"]) fun _ _ _ _ _ _ us hl => match us, hl with | [_, _, _, _, _, _, _], _ => rfl
  have G_Deed___init__ := ok_initD (P := l.prog) (w := w) (base := base) (mg := mg) (CD := CDd) U_Deed___init__ ⟨⟨pg_Deed, hd_Deed, po_Deed, sa_Deed⟩, no_Deed_kind, no_Deed_row, no_Deed_table, no_Deed_under, no_Deed_column, no_Deed_terms⟩ ⟨PySem.W.mg_none_of X G z_tuple⟩
  have G__read_new := ok_new (P := l.prog) (w := w) (base := base) (mg := mg) (CS := CS) (C := C) (CD := CDd) (e := eH) U__read_new ⟨⟨pg_Scope, hd_Scope, po_Scope, sa_Scope⟩, no_Scope_schema, no_Scope__rows, no_Scope__new_rows, no_Scope__values⟩ ⟨⟨pg_Schema, hd_Schema, po_Schema, sa_Schema⟩, no_Schema_text, no_Schema__parents, no_Schema__columns, no_Schema__owners, no_Schema__follows⟩ ⟨PySem.W.mg_none_of X G z_len, PySem.W.mg_of X G a_Deed⟩ E_WrongTable E_WrongCount ⟨i_Scope_check_new, t_Scope_check_new, U_Scope_check_new.kp⟩ G_Scope_check_new b_Scope_check_new ⟨i_Scope_check_table, t_Scope_check_table, U_Scope_check_table.kp⟩ G_Scope_check_table b_Scope_check_table ⟨i_Scope_table_of_any, t_Scope_table_of_any, U_Scope_table_of_any.kp⟩ G_Scope_table_of_any b_Scope_table_of_any ⟨i_Scope_check_term, t_Scope_check_term, U_Scope_check_term.kp⟩ G_Scope_check_term b_Scope_check_term G__check_under M__check_under.m M__check_under.k b__check_under ⟨i_Schema_parent_of, t_Schema_parent_of, U_Schema_parent_of.kp⟩ G_Schema_parent_of b_Schema_parent_of ⟨i_Schema_columns, t_Schema_columns, U_Schema_columns.kp⟩ G_Schema_columns b_Schema_columns ⟨i_Scope_define_new_row, t_Scope_define_new_row, U_Scope_define_new_row.kp⟩ G_Scope_define_new_row b_Scope_define_new_row ⟨mk_Deed, i_Deed___init__, t_Deed___init__, kC_Deed⟩ G_Deed___init__ b_Deed___init__
  have M__read_new : TM K mg "_read_new" ["scope", "line", "words"] f__read_new u__read_new := ⟨PySem.W.mg_of X G a__read_new, U__read_new.kp, b__read_new⟩
  obtain ⟨u__read_move, U__read_move⟩ := e__read_move.fn
  have b__read_move := U__read_move.binds (ps := ["scope", "line", "words"]) fun _ _ _ _ _ _ us hl => match us, hl with | [_, _, _], _ => rfl
  have G__read_move := ok_move (P := l.prog) (w := w) (base := base) (mg := mg) (CS := CS) (C := C) (CD := CDd) (e := eH) U__read_move ⟨⟨pg_Scope, hd_Scope, po_Scope, sa_Scope⟩, no_Scope_schema, no_Scope__rows, no_Scope__new_rows, no_Scope__values⟩ ⟨PySem.W.mg_of X G a_Deed⟩ ⟨i_Scope_table_of, t_Scope_table_of, U_Scope_table_of.kp⟩ G_Scope_table_of b_Scope_table_of G__check_under M__check_under.m M__check_under.k b__check_under ⟨mk_Deed, i_Deed___init__, t_Deed___init__, kC_Deed⟩ G_Deed___init__ b_Deed___init__
  have M__read_move : TM K mg "_read_move" ["scope", "line", "words"] f__read_move u__read_move := ⟨PySem.W.mg_of X G a__read_move, U__read_move.kp, b__read_move⟩
  obtain ⟨u__read_set, U__read_set⟩ := e__read_set.fn
  have b__read_set := U__read_set.binds (ps := ["scope", "line", "words"]) fun _ _ _ _ _ _ us hl => match us, hl with | [_, _, _], _ => rfl
  have G__read_set := ok_set (P := l.prog) (w := w) (base := base) (mg := mg) (CS := CS) (C := C) (CD := CDd) (e := eH) U__read_set ⟨⟨pg_Scope, hd_Scope, po_Scope, sa_Scope⟩, no_Scope_schema, no_Scope__rows, no_Scope__new_rows, no_Scope__values⟩ ⟨⟨pg_Schema, hd_Schema, po_Schema, sa_Schema⟩, no_Schema_text, no_Schema__parents, no_Schema__columns, no_Schema__owners, no_Schema__follows⟩ ⟨PySem.W.mg_of X G a_Deed⟩ ⟨i_Scope_table_of, t_Scope_table_of, U_Scope_table_of.kp⟩ G_Scope_table_of b_Scope_table_of ⟨i_Schema_check_position, t_Schema_check_position, U_Schema_check_position.kp⟩ G_Schema_check_position b_Schema_check_position ⟨i_Scope_check_term, t_Scope_check_term, U_Scope_check_term.kp⟩ G_Scope_check_term b_Scope_check_term ⟨mk_Deed, i_Deed___init__, t_Deed___init__, kC_Deed⟩ G_Deed___init__ b_Deed___init__
  have M__read_set : TM K mg "_read_set" ["scope", "line", "words"] f__read_set u__read_set := ⟨PySem.W.mg_of X G a__read_set, U__read_set.kp, b__read_set⟩
  obtain ⟨u__read_each, U__read_each⟩ := e__read_each.fn
  have b__read_each := U__read_each.binds (ps := ["scope", "line", "words"]) fun _ _ _ _ _ _ us hl => match us, hl with | [_, _, _], _ => rfl
  have G__read_each := ok_each (P := l.prog) (w := w) (base := base) (mg := mg) (CS := CS) (C := C) (CD := CDd) (e := eH) U__read_each ⟨⟨pg_Scope, hd_Scope, po_Scope, sa_Scope⟩, no_Scope_schema, no_Scope__rows, no_Scope__new_rows, no_Scope__values⟩ ⟨⟨pg_Schema, hd_Schema, po_Schema, sa_Schema⟩, no_Schema_text, no_Schema__parents, no_Schema__columns, no_Schema__owners, no_Schema__follows⟩ ⟨PySem.W.mg_of X G a_Deed⟩ E_WrongTable ⟨i_Scope_check_table, t_Scope_check_table, U_Scope_check_table.kp⟩ G_Scope_check_table b_Scope_check_table ⟨i_Scope_table_of_any, t_Scope_table_of_any, U_Scope_table_of_any.kp⟩ G_Scope_table_of_any b_Scope_table_of_any ⟨i_Schema_check_position, t_Schema_check_position, U_Schema_check_position.kp⟩ G_Schema_check_position b_Schema_check_position ⟨i_Scope_check_term, t_Scope_check_term, U_Scope_check_term.kp⟩ G_Scope_check_term b_Scope_check_term ⟨i_Schema_chain_of, t_Schema_chain_of, U_Schema_chain_of.kp⟩ G_Schema_chain_of b_Schema_chain_of ⟨mk_Deed, i_Deed___init__, t_Deed___init__, kC_Deed⟩ G_Deed___init__ b_Deed___init__
  have M__read_each : TM K mg "_read_each" ["scope", "line", "words"] f__read_each u__read_each := ⟨PySem.W.mg_of X G a__read_each, U__read_each.kp, b__read_each⟩
  obtain ⟨u__read_take, U__read_take⟩ := e__read_take.fn
  have b__read_take := U__read_take.binds (ps := ["scope", "line", "words"]) fun _ _ _ _ _ _ us hl => match us, hl with | [_, _, _], _ => rfl
  have G__read_take := ok_take (P := l.prog) (w := w) (base := base) (mg := mg) (CS := CS) (C := C) (CD := CDd) (e := eH) U__read_take ⟨⟨pg_Scope, hd_Scope, po_Scope, sa_Scope⟩, no_Scope_schema, no_Scope__rows, no_Scope__new_rows, no_Scope__values⟩ ⟨PySem.W.mg_of X G a_Deed⟩ ⟨i_Scope_table_of, t_Scope_table_of, U_Scope_table_of.kp⟩ G_Scope_table_of b_Scope_table_of ⟨mk_Deed, i_Deed___init__, t_Deed___init__, kC_Deed⟩ G_Deed___init__ b_Deed___init__
  have M__read_take : TM K mg "_read_take" ["scope", "line", "words"] f__read_take u__read_take := ⟨PySem.W.mg_of X G a__read_take, U__read_take.kp, b__read_take⟩
  have G_read_deed := ok_deed (P := l.prog) (w := w) (base := base) (mg := mg) (CS := CS) (C := C) (CD := CDd) (e := eH) U_read_deed G__read_new M__read_new.m M__read_new.k b__read_new G__read_move M__read_move.m M__read_move.k b__read_move G__read_set M__read_set.m M__read_set.k b__read_set G__read_each M__read_each.m M__read_each.k b__read_each G__read_take M__read_take.m M__read_take.k b__read_take
  have M_read_deed : TM K mg "read_deed" ["scope", "line", "words"] f_read_deed u_read_deed := ⟨PySem.W.mg_of X G a_read_deed, U_read_deed.kp, b_read_deed⟩
  have G_Handler__read_line := ok_hline (P := l.prog) (w := w) (base := base) (mg := mg) (CH := CH) (CS := CS) (C := C) (CD := CDd) (e := eH) U_Handler__read_line ⟨⟨pg_Scope, hd_Scope, po_Scope, sa_Scope⟩, no_Scope_schema, no_Scope__rows, no_Scope__new_rows, no_Scope__values⟩ ⟨⟨pg_Handler, hd_Handler, po_Handler, sa_Handler⟩, no_Handler_name, no_Handler_text, no_Handler_schema, no_Handler__scope, no_Handler__needs, no_Handler__deed_lines, no_Handler__deeds⟩ ⟨PySem.W.mg_of X G a_Handler, PySem.W.mg_none_of X G z_len, ⟨rd_Handler, ga_Handler⟩, ⟨_, cc_Handler_MOST_NEEDS, ⟨_, rfl⟩⟩, ⟨_, cc_Handler_MOST_DEEDS, ⟨_, rfl⟩⟩⟩ E_TooMany ⟨i_Scope_read_parameter, t_Scope_read_parameter, U_Scope_read_parameter.kp⟩ G_Scope_read_parameter b_Scope_read_parameter G_check_parameters M_check_parameters.m M_check_parameters.k b_check_parameters ⟨i_Scope_read_equation, t_Scope_read_equation, U_Scope_read_equation.kp⟩ G_Scope_read_equation b_Scope_read_equation G_read_deed M_read_deed.m M_read_deed.k b_read_deed
  have G_Handler___init__ := ok_initH (P := l.prog) (w := w) (base := base) (mg := mg) (CH := CH) (CS := CS) (C := C) (CD := CDd) (e := eH) U_Handler___init__ ⟨⟨pg_Handler, hd_Handler, po_Handler, sa_Handler⟩, no_Handler_name, no_Handler_text, no_Handler_schema, no_Handler__scope, no_Handler__needs, no_Handler__deed_lines, no_Handler__deeds⟩ ⟨PySem.W.mg_of X G a_Scope, PySem.W.mg_of X G a_FORMS, PySem.W.mg_none_of X G z_enumerate⟩ TF_g_FORMS E_BadLine ⟨mk_Scope, i_Scope___init__, t_Scope___init__, kC_Scope⟩ G_Scope___init__ b_Scope___init__ G_place_of M_place_of.m M_place_of.k b_place_of ⟨i_Handler__read_line, t_Handler__read_line, U_Handler__read_line.kp⟩ G_Handler__read_line b_Handler__read_line
  have G_Handler_read := ok_hread (P := l.prog) (w := w) (base := base) (mg := mg) (CH := CH) (CS := CS) (C := C) (CD := CDd) (e := eH) U_Handler_read ⟨PySem.W.mg_of X G a_Handler⟩ ⟨mk_Handler, i_Handler___init__, t_Handler___init__, kC_Handler⟩ G_Handler___init__ b_Handler___init__
  have G__law_handler_told := ok_htold (P := l.prog) (w := w) (base := base) (mg := mg) (CH := CH) (CS := CS) (C := C) (CD := CDd) (e := eH) U__law_handler_told ⟨PySem.W.mg_of X G a_Handler, PySem.W.mg_of X G a_BadLine, PySem.W.mg_of X G a_DuplicateName, PySem.W.mg_of X G a_UnknownName, PySem.W.mg_of X G a_WrongTable, PySem.W.mg_of X G a_WrongCount, PySem.W.mg_of X G a_TooMany⟩ ⟨fun er er' h => (CF.exmK (cfH er) (cfH er') (neH er')).trans (congrArg some (decide_eq_true h)), fun er er' h => (CF.exmK (cfH er) (cfH er') (neH er')).trans (congrArg some (decide_eq_false h)), nd6 q_BadLine_DuplicateName q_BadLine_UnknownName q_BadLine_WrongTable q_BadLine_WrongCount q_BadLine_TooMany q_DuplicateName_UnknownName q_DuplicateName_WrongTable q_DuplicateName_WrongCount q_DuplicateName_TooMany q_UnknownName_WrongTable q_UnknownName_WrongCount q_UnknownName_TooMany q_WrongTable_WrongCount q_WrongTable_TooMany q_WrongCount_TooMany⟩ G__law_get_named M__law_get_named.m M__law_get_named.k b__law_get_named ⟨rd_Handler, ga_Handler⟩ ⟨sm_Handler_read, ⟨_, rr_Handler_read⟩, U_Handler_read.kp⟩ G_Handler_read b_Handler_read
  have M__law_handler_told : TM K mg "_law_handler_told" ["schema", "text"] f__law_handler_told u__law_handler_told := ⟨PySem.W.mg_of X G a__law_handler_told, U__law_handler_told.kp, b__law_handler_told⟩
  obtain ⟨u__law_lines_due, U__law_lines_due⟩ := e__law_lines_due.fn
  have b__law_lines_due := U__law_lines_due.binds (ps := ["state", "tables", "names", "k", "row", "t"]) fun _ _ _ _ _ _ us hl => match us, hl with | [_, _, _, _, _, _], _ => rfl
  have G__law_lines_due := ok_ld (P := l.prog) (w := w) (base := base) (mg := mg) U__law_lines_due ⟨PySem.W.mg_none_of X G z_len⟩ G__law_draw M__law_draw.m M__law_draw.k b__law_draw G__law_get_chain M__law_get_chain.m M__law_get_chain.k b__law_get_chain
  have M__law_lines_due : TM K mg "_law_lines_due" ["state", "tables", "names", "k", "row", "t"] f__law_lines_due u__law_lines_due := ⟨PySem.W.mg_of X G a__law_lines_due, U__law_lines_due.kp, b__law_lines_due⟩
  obtain ⟨u__law_get_right, U__law_get_right⟩ := e__law_get_right.fn
  have b__law_get_right := U__law_get_right.binds (ps := ["schema", "lines", "line", "due"]) fun _ _ _ _ _ _ us hl => match us, hl with | [_, _, _, _], _ => rfl
  have G__law_get_right := ok_grt (P := l.prog) (w := w) (base := base) (mg := mg) (C := C) U__law_get_right ⟨PySem.W.mg_none_of X G z_len⟩ G__law_handler_told M__law_handler_told.m M__law_handler_told.k b__law_handler_told
  have M__law_get_right : TM K mg "_law_get_right" ["schema", "lines", "line", "due"] f__law_get_right u__law_get_right := ⟨PySem.W.mg_of X G a__law_get_right, U__law_get_right.kp, b__law_get_right⟩
  exact ok_law (fun_mk lk ck kp) ⟨PySem.W.mg_none_of X G z_range, PySem.W.mg_none_of X G z_len⟩ G__law_get_state M__law_get_state G__law_draw M__law_draw G__law_get_words M__law_get_words G__law_forest M__law_forest G__law_schema_of M__law_schema_of G__law_handler_told M__law_handler_told G__law_lines_due M__law_lines_due G__law_get_right M__law_get_right

theorem walk {l : PySem.W.OpenLaw} {q : Program} {loose : List Str} {XP : (Str → Option Value) → Heap → Prop} {YP : World → Heap → Prop} {d : DefRec} {K : Params → PySem.W.Frag} (hn : l.most = some 63) (hdf : d.params.defaults = [])
    (hY : ∀ (w : World) (h : Heap), YP w h → (K w.params).In h)
    (F : ∀ (w : World) (mg : Str → Option Value) (fa : Addr) (h : Heap), (K w.params).In h → h.Ns mainGlobals mg → mg d.name = some (.ref fa) →
      ∃ fd : FuncData, (∀ (s : Shared) (u : Value), BindsTo s fd ⟨[u], []⟩ [("script", u)]) ∧ ∀ base : Heap, (K w.params).In base → base.Ns mainGlobals mg → FnOk l.prog w (K w.params) mg base CX0 14 fa fd ["script"] (spLaw (K w.params))) :
    PySem.W.WalkO q loose XP YP l.row.toRowW d [] (fun f vs => PySem.call f vs) :=
  L2.walk_of (n := 63) (k := 14) (x := "script") (CX := fun _ => CX0) (sp := fun w => spLaw (K w.params)) hn (by decide) hdf ⟨rfl, by decide, by decide⟩ hY F (fun _ _ a ns hl _ hS => ⟨a, ns, rfl, hS, hl, fun _ => rfl⟩) fun _ _ _ _ _ z => z
end My


open PySem PySem.W PyProof.Rows in
set_option maxRecDepth 100000 in
set_option maxHeartbeats 0 in
theorem PySem.Challenge.cw_ownersagree_k21_handler_tables_refused_holds : PySem.Challenge.rw_ownersagree_k21_handler_tables_refused.Holds := by
  w_on; o_law; k_head; (case hw => w_witness2)
  k_fill
  refine My.walk (l := PySem.Challenge.rw_ownersagree_k21_handler_tables_refused) rfl rfl (fun w h Y => PySem.W.kIn_of Y) ?F
  case F =>
    intro w mg fa h KX G hmg
    refine' My.all_mk KX G hmg ?hz_range ?hz_len ?he__law_get_state ?hz_int ?hz_abs ?hz_list ?ha__law_get_state ?he__law_draw ?ha__law_draw ?he__law_get_words ?ha__law_get_words ?he__law_forest ?he__law_get_chain ?ha__law_get_chain ?ha__law_forest ?ha_AgreeError ?hcA ?htA ?hhhn ?hhht ?ha_BadLine ?hcf_BadLine ?hne_BadLine ?hiX_BadLine ?htX_BadLine ?heX_BadLine ?hn_BadLine_line ?hn_BadLine_name ?ha_DuplicateName ?hcf_DuplicateName ?hne_DuplicateName ?hiX_DuplicateName ?htX_DuplicateName ?heX_DuplicateName ?hn_DuplicateName_line ?hn_DuplicateName_name ?ha_UnknownName ?hcf_UnknownName ?hne_UnknownName ?hiX_UnknownName ?htX_UnknownName ?heX_UnknownName ?hn_UnknownName_line ?hn_UnknownName_name ?ha_TooMany ?hcf_TooMany ?hne_TooMany ?hiX_TooMany ?htX_TooMany ?heX_TooMany ?hn_TooMany_line ?hn_TooMany_name ?ha_WrongTable ?hcf_WrongTable ?hne_WrongTable ?hiX_WrongTable ?htX_WrongTable ?heX_WrongTable ?hn_WrongTable_line ?hn_WrongTable_name ?ha_WrongCount ?hcf_WrongCount ?hne_WrongCount ?hiX_WrongCount ?htX_WrongCount ?heX_WrongCount ?hn_WrongCount_line ?hn_WrongCount_name ?he__law_schema_of ?ha_Schema ?he__law_table_line ?ha__law_table_line ?hrd_Schema ?hga_Schema ?he_Schema_read ?hsm_Schema_read ?hrr_Schema_read ?hz_enumerate ?he_Schema___init__ ?hi_Schema___init__ ?ht_Schema___init__ ?hmk_Schema ?hkC_Schema ?hpg_Schema ?hhd_Schema ?hpo_Schema ?hsa_Schema ?hno_Schema_text ?hno_Schema__parents ?hno_Schema__columns ?hno_Schema__owners ?hno_Schema__follows ?he_Schema__read_line ?hi_Schema__read_line ?ht_Schema__read_line ?he_has_form_schemas ?he_is_name ?hc_LETTERS ?hc_LONGEST_NAME ?hz_all ?he_is_value ?hc_LETTERS_AND_DIGITS ?hc_LONGEST_VALUE ?hz_isinstance ?hz_str ?ha_is_value ?ha_is_name ?he_are_names ?ha_are_names ?ha_has_form_schemas ?he_Schema__read_table ?hi_Schema__read_table ?ht_Schema__read_table ?he_Schema__check_known ?hi_Schema__check_known ?ht_Schema__check_known ?he_Schema__check_limits ?hi_Schema__check_limits ?ht_Schema__check_limits ?hcc_Schema_MOST_TABLES ?hcc_Schema_MOST_COLUMNS ?hcc_Schema_LONGEST_CHAIN ?he_Schema_chain_of ?hi_Schema_chain_of ?ht_Schema_chain_of ?he_Schema__read_owner ?hi_Schema__read_owner ?ht_Schema__read_owner ?he_Schema_check_position ?hi_Schema_check_position ?ht_Schema_check_position ?he_Schema__read_follow ?hi_Schema__read_follow ?ht_Schema__read_follow ?ha__law_schema_of ?he__law_handler_told ?ha_Handler ?hq_BadLine_DuplicateName ?hq_BadLine_UnknownName ?hq_BadLine_WrongTable ?hq_BadLine_WrongCount ?hq_BadLine_TooMany ?hq_DuplicateName_UnknownName ?hq_DuplicateName_WrongTable ?hq_DuplicateName_WrongCount ?hq_DuplicateName_TooMany ?hq_UnknownName_WrongTable ?hq_UnknownName_WrongCount ?hq_UnknownName_TooMany ?hq_WrongTable_WrongCount ?hq_WrongTable_TooMany ?hq_WrongCount_TooMany ?he__law_get_named ?hz_bool ?ha__law_get_named ?hrd_Handler ?hga_Handler ?he_Handler_read ?hsm_Handler_read ?hrr_Handler_read ?he_Handler___init__ ?hi_Handler___init__ ?ht_Handler___init__ ?hmk_Handler ?hkC_Handler ?hpg_Handler ?hhd_Handler ?hpo_Handler ?hsa_Handler ?hno_Handler_name ?hno_Handler_text ?hno_Handler_schema ?hno_Handler__scope ?hno_Handler__needs ?hno_Handler__deed_lines ?hno_Handler__deeds ?ha_Scope ?ha_FORMS ?hl_g_FORMS_0 ?hl_g_FORMS_1 ?hl_g_FORMS_2 ?hl_g_FORMS_3 ?hl_g_FORMS_4 ?hl_g_FORMS_5 ?hl_g_FORMS_6 ?hl_g_FORMS_7 ?hl_g_FORMS_8 ?hl_g_FORMS_9 ?hl_g_FORMS ?he_Scope___init__ ?hi_Scope___init__ ?ht_Scope___init__ ?hmk_Scope ?hkC_Scope ?hpg_Scope ?hhd_Scope ?hpo_Scope ?hsa_Scope ?hno_Scope_schema ?hno_Scope__rows ?hno_Scope__new_rows ?hno_Scope__values ?he_place_of ?he_has_form_forms ?hz_zip ?he__fits ?he__is_term ?he_is_constant ?ha_is_constant ?ha__is_term ?ha__fits ?ha_has_form_forms ?ha_place_of ?he_Handler__read_line ?hi_Handler__read_line ?ht_Handler__read_line ?hcc_Handler_MOST_NEEDS ?hcc_Handler_MOST_DEEDS ?he_Scope_read_parameter ?hi_Scope_read_parameter ?ht_Scope_read_parameter ?he_Scope_check_new ?hi_Scope_check_new ?ht_Scope_check_new ?he_Scope_check_table ?hi_Scope_check_table ?ht_Scope_check_table ?he_Schema_tables ?hi_Schema_tables ?ht_Schema_tables ?he_Scope_define_row ?hi_Scope_define_row ?ht_Scope_define_row ?he_check_parameters ?hcc_Handler_MOST_ROWS ?hcc_Handler_MOST_VALUES ?he_Scope_row_parameters ?hi_Scope_row_parameters ?ht_Scope_row_parameters ?he_Scope_value_parameters ?hi_Scope_value_parameters ?ht_Scope_value_parameters ?ha_check_parameters ?he_Scope_read_equation ?hi_Scope_read_equation ?ht_Scope_read_equation ?he_Scope_check_term ?hi_Scope_check_term ?ht_Scope_check_term ?he_Scope_table_of ?hi_Scope_table_of ?ht_Scope_table_of ?he_read_deed ?he__read_new ?ha_Deed ?he_Scope_table_of_any ?hi_Scope_table_of_any ?ht_Scope_table_of_any ?he__check_under ?he_Schema_parent_of ?hi_Schema_parent_of ?ht_Schema_parent_of ?ha__check_under ?he_Schema_columns ?hi_Schema_columns ?ht_Schema_columns ?he_Scope_define_new_row ?hi_Scope_define_new_row ?ht_Scope_define_new_row ?he_Deed___init__ ?hi_Deed___init__ ?ht_Deed___init__ ?hmk_Deed ?hkC_Deed ?hpg_Deed ?hhd_Deed ?hpo_Deed ?hsa_Deed ?hno_Deed_kind ?hno_Deed_row ?hno_Deed_table ?hno_Deed_under ?hno_Deed_column ?hno_Deed_terms ?hz_tuple ?ha__read_new ?he__read_move ?ha__read_move ?he__read_set ?ha__read_set ?he__read_each ?ha__read_each ?he__read_take ?ha__read_take ?ha_read_deed ?ha__law_handler_told ?he__law_lines_due ?ha__law_lines_due ?he__law_get_right ?ha__law_get_right ?ha_law ?he_law
    (case hz_range => k_is)
    (case hz_len => k_is)
    (case hz_int => k_is)
    (case hz_abs => k_is)
    (case hz_list => k_is)
    (case ha__law_get_state => k_is)
    (case ha__law_draw => k_is)
    (case ha__law_get_words => k_is)
    (case ha__law_get_chain => k_is)
    (case ha__law_forest => k_is)
    (case ha_AgreeError => k_is)
    (case ha_BadLine => k_is)
    (case ha_DuplicateName => k_is)
    (case ha_UnknownName => k_is)
    (case ha_TooMany => k_is)
    (case ha_WrongTable => k_is)
    (case ha_WrongCount => k_is)
    (case ha_Schema => k_is)
    (case ha__law_table_line => k_is)
    (case hz_enumerate => k_is)
    (case hc_LETTERS => k_is)
    (case hc_LONGEST_NAME => k_is)
    (case hz_all => k_is)
    (case hc_LETTERS_AND_DIGITS => k_is)
    (case hc_LONGEST_VALUE => k_is)
    (case hz_isinstance => k_is)
    (case hz_str => k_is)
    (case ha_is_value => k_is)
    (case ha_is_name => k_is)
    (case ha_are_names => k_is)
    (case ha_has_form_schemas => k_is)
    (case ha__law_schema_of => k_is)
    (case ha_Handler => k_is)
    (case hz_bool => k_is)
    (case ha__law_get_named => k_is)
    (case ha_Scope => k_is)
    (case ha_FORMS => k_is)
    (case hz_zip => k_is)
    (case ha_is_constant => k_is)
    (case ha__is_term => k_is)
    (case ha__fits => k_is)
    (case ha_has_form_forms => k_is)
    (case ha_place_of => k_is)
    (case ha_check_parameters => k_is)
    (case ha_Deed => k_is)
    (case ha__check_under => k_is)
    (case hz_tuple => k_is)
    (case ha__read_new => k_is)
    (case ha__read_move => k_is)
    (case ha__read_set => k_is)
    (case ha__read_each => k_is)
    (case ha__read_take => k_is)
    (case ha_read_deed => k_is)
    (case ha__law_handler_told => k_is)
    (case ha__law_lines_due => k_is)
    (case ha__law_get_right => k_is)
    (case ha_law => k_is)
    (case hiX_BadLine => k_is)
    (case hiX_DuplicateName => k_is)
    (case hiX_UnknownName => k_is)
    (case hiX_TooMany => k_is)
    (case hiX_WrongTable => k_is)
    (case hiX_WrongCount => k_is)
    (case hsm_Schema_read => k_is)
    (case hi_Schema___init__ => k_is)
    (case hi_Schema__read_line => k_is)
    (case hi_Schema__read_table => k_is)
    (case hi_Schema__check_known => k_is)
    (case hi_Schema__check_limits => k_is)
    (case hi_Schema_chain_of => k_is)
    (case hi_Schema__read_owner => k_is)
    (case hi_Schema_check_position => k_is)
    (case hi_Schema__read_follow => k_is)
    (case hsm_Handler_read => k_is)
    (case hi_Handler___init__ => k_is)
    (case hl_g_FORMS => k_is)
    (case hi_Scope___init__ => k_is)
    (case hi_Handler__read_line => k_is)
    (case hi_Scope_read_parameter => k_is)
    (case hi_Scope_check_new => k_is)
    (case hi_Scope_check_table => k_is)
    (case hi_Schema_tables => k_is)
    (case hi_Scope_define_row => k_is)
    (case hi_Scope_row_parameters => k_is)
    (case hi_Scope_value_parameters => k_is)
    (case hi_Scope_read_equation => k_is)
    (case hi_Scope_check_term => k_is)
    (case hi_Scope_table_of => k_is)
    (case hi_Scope_table_of_any => k_is)
    (case hi_Schema_parent_of => k_is)
    (case hi_Schema_columns => k_is)
    (case hi_Scope_define_new_row => k_is)
    (case hi_Deed___init__ => k_is)
    (case hrr_Schema_read => k_is)
    (case hrr_Handler_read => k_is)
    (case hl_g_FORMS_0 => k_is)
    (case hl_g_FORMS_1 => k_is)
    (case hl_g_FORMS_2 => k_is)
    (case hl_g_FORMS_3 => k_is)
    (case hl_g_FORMS_4 => k_is)
    (case hl_g_FORMS_5 => k_is)
    (case hl_g_FORMS_6 => k_is)
    (case hl_g_FORMS_7 => k_is)
    (case hl_g_FORMS_8 => k_is)
    (case hl_g_FORMS_9 => k_is)
    (case he__law_get_state => refine' My.FE.of ?l ?c ?k; (case l => k_is); (case c => k_is); (case k => k_is))
    (case he__law_draw => refine' My.FE.of ?l ?c ?k; (case l => k_is); (case c => k_is); (case k => k_is))
    (case he__law_get_words => refine' My.FE.of ?l ?c ?k; (case l => k_is); (case c => k_is); (case k => k_is))
    (case he__law_forest => refine' My.FE.of ?l ?c ?k; (case l => k_is); (case c => k_is); (case k => k_is))
    (case he__law_get_chain => refine' My.FE.of ?l ?c ?k; (case l => k_is); (case c => k_is); (case k => k_is))
    (case hcA => k_is)
    (case htA => k_is)
    (case hhhn => k_is)
    (case hhht => k_is)
    (case hcf_BadLine => refine' My.CF.of ?l ?a ?b ?c ?d ?e ?f; (case l => k_is); (case a => k_is); (case b => k_is); (case c => k_is); (case d => k_is); (case e => k_is); (case f => k_is))
    (case hne_BadLine => decide)
    (case htX_BadLine => k_is)
    (case heX_BadLine => refine' My.FE.of ?l ?c ?k; (case l => k_is); (case c => k_is); (case k => k_is))
    (case hn_BadLine_line => k_is)
    (case hn_BadLine_name => k_is)
    (case hcf_DuplicateName => refine' My.CF.of ?l ?a ?b ?c ?d ?e ?f; (case l => k_is); (case a => k_is); (case b => k_is); (case c => k_is); (case d => k_is); (case e => k_is); (case f => k_is))
    (case hne_DuplicateName => decide)
    (case htX_DuplicateName => k_is)
    (case heX_DuplicateName => refine' My.FE.of ?l ?c ?k; (case l => k_is); (case c => k_is); (case k => k_is))
    (case hn_DuplicateName_line => k_is)
    (case hn_DuplicateName_name => k_is)
    (case hcf_UnknownName => refine' My.CF.of ?l ?a ?b ?c ?d ?e ?f; (case l => k_is); (case a => k_is); (case b => k_is); (case c => k_is); (case d => k_is); (case e => k_is); (case f => k_is))
    (case hne_UnknownName => decide)
    (case htX_UnknownName => k_is)
    (case heX_UnknownName => refine' My.FE.of ?l ?c ?k; (case l => k_is); (case c => k_is); (case k => k_is))
    (case hn_UnknownName_line => k_is)
    (case hn_UnknownName_name => k_is)
    (case hcf_TooMany => refine' My.CF.of ?l ?a ?b ?c ?d ?e ?f; (case l => k_is); (case a => k_is); (case b => k_is); (case c => k_is); (case d => k_is); (case e => k_is); (case f => k_is))
    (case hne_TooMany => decide)
    (case htX_TooMany => k_is)
    (case heX_TooMany => refine' My.FE.of ?l ?c ?k; (case l => k_is); (case c => k_is); (case k => k_is))
    (case hn_TooMany_line => k_is)
    (case hn_TooMany_name => k_is)
    (case hcf_WrongTable => refine' My.CF.of ?l ?a ?b ?c ?d ?e ?f; (case l => k_is); (case a => k_is); (case b => k_is); (case c => k_is); (case d => k_is); (case e => k_is); (case f => k_is))
    (case hne_WrongTable => decide)
    (case htX_WrongTable => k_is)
    (case heX_WrongTable => refine' My.FE.of ?l ?c ?k; (case l => k_is); (case c => k_is); (case k => k_is))
    (case hn_WrongTable_line => k_is)
    (case hn_WrongTable_name => k_is)
    (case hcf_WrongCount => refine' My.CF.of ?l ?a ?b ?c ?d ?e ?f; (case l => k_is); (case a => k_is); (case b => k_is); (case c => k_is); (case d => k_is); (case e => k_is); (case f => k_is))
    (case hne_WrongCount => decide)
    (case htX_WrongCount => k_is)
    (case heX_WrongCount => refine' My.FE.of ?l ?c ?k; (case l => k_is); (case c => k_is); (case k => k_is))
    (case hn_WrongCount_line => k_is)
    (case hn_WrongCount_name => k_is)
    (case he__law_schema_of => refine' My.FE.of ?l ?c ?k; (case l => k_is); (case c => k_is); (case k => k_is))
    (case he__law_table_line => refine' My.FE.of ?l ?c ?k; (case l => k_is); (case c => k_is); (case k => k_is))
    (case hrd_Schema => k_is)
    (case hga_Schema => k_is)
    (case he_Schema_read => refine' My.FE.of ?l ?c ?k; (case l => k_is); (case c => k_is); (case k => k_is))
    (case he_Schema___init__ => refine' My.FE.of ?l ?c ?k; (case l => k_is); (case c => k_is); (case k => k_is))
    (case ht_Schema___init__ => k_is)
    (case hmk_Schema => k_is)
    (case hkC_Schema => k_is)
    (case hpg_Schema => k_is)
    (case hhd_Schema => k_is)
    (case hpo_Schema => k_is)
    (case hsa_Schema => k_is)
    (case hno_Schema_text => k_is)
    (case hno_Schema__parents => k_is)
    (case hno_Schema__columns => k_is)
    (case hno_Schema__owners => k_is)
    (case hno_Schema__follows => k_is)
    (case he_Schema__read_line => refine' My.FE.of ?l ?c ?k; (case l => k_is); (case c => k_is); (case k => k_is))
    (case ht_Schema__read_line => k_is)
    (case he_has_form_schemas => refine' My.FE.of ?l ?c ?k; (case l => k_is); (case c => k_is); (case k => k_is))
    (case he_is_name => refine' My.FE.of ?l ?c ?k; (case l => k_is); (case c => k_is); (case k => k_is))
    (case he_is_value => refine' My.FE.of ?l ?c ?k; (case l => k_is); (case c => k_is); (case k => k_is))
    (case he_are_names => refine' My.FE.of ?l ?c ?k; (case l => k_is); (case c => k_is); (case k => k_is))
    (case he_Schema__read_table => refine' My.FE.of ?l ?c ?k; (case l => k_is); (case c => k_is); (case k => k_is))
    (case ht_Schema__read_table => k_is)
    (case he_Schema__check_known => refine' My.FE.of ?l ?c ?k; (case l => k_is); (case c => k_is); (case k => k_is))
    (case ht_Schema__check_known => k_is)
    (case he_Schema__check_limits => refine' My.FE.of ?l ?c ?k; (case l => k_is); (case c => k_is); (case k => k_is))
    (case ht_Schema__check_limits => k_is)
    (case hcc_Schema_MOST_TABLES => k_is)
    (case hcc_Schema_MOST_COLUMNS => k_is)
    (case hcc_Schema_LONGEST_CHAIN => k_is)
    (case he_Schema_chain_of => refine' My.FE.of ?l ?c ?k; (case l => k_is); (case c => k_is); (case k => k_is))
    (case ht_Schema_chain_of => k_is)
    (case he_Schema__read_owner => refine' My.FE.of ?l ?c ?k; (case l => k_is); (case c => k_is); (case k => k_is))
    (case ht_Schema__read_owner => k_is)
    (case he_Schema_check_position => refine' My.FE.of ?l ?c ?k; (case l => k_is); (case c => k_is); (case k => k_is))
    (case ht_Schema_check_position => k_is)
    (case he_Schema__read_follow => refine' My.FE.of ?l ?c ?k; (case l => k_is); (case c => k_is); (case k => k_is))
    (case ht_Schema__read_follow => k_is)
    (case he__law_handler_told => refine' My.FE.of ?l ?c ?k; (case l => k_is); (case c => k_is); (case k => k_is))
    (case hq_BadLine_DuplicateName => decide)
    (case hq_BadLine_UnknownName => decide)
    (case hq_BadLine_WrongTable => decide)
    (case hq_BadLine_WrongCount => decide)
    (case hq_BadLine_TooMany => decide)
    (case hq_DuplicateName_UnknownName => decide)
    (case hq_DuplicateName_WrongTable => decide)
    (case hq_DuplicateName_WrongCount => decide)
    (case hq_DuplicateName_TooMany => decide)
    (case hq_UnknownName_WrongTable => decide)
    (case hq_UnknownName_WrongCount => decide)
    (case hq_UnknownName_TooMany => decide)
    (case hq_WrongTable_WrongCount => decide)
    (case hq_WrongTable_TooMany => decide)
    (case hq_WrongCount_TooMany => decide)
    (case he__law_get_named => refine' My.FE.of ?l ?c ?k; (case l => k_is); (case c => k_is); (case k => k_is))
    (case hrd_Handler => k_is)
    (case hga_Handler => k_is)
    (case he_Handler_read => refine' My.FE.of ?l ?c ?k; (case l => k_is); (case c => k_is); (case k => k_is))
    (case he_Handler___init__ => refine' My.FE.of ?l ?c ?k; (case l => k_is); (case c => k_is); (case k => k_is))
    (case ht_Handler___init__ => k_is)
    (case hmk_Handler => k_is)
    (case hkC_Handler => k_is)
    (case hpg_Handler => k_is)
    (case hhd_Handler => k_is)
    (case hpo_Handler => k_is)
    (case hsa_Handler => k_is)
    (case hno_Handler_name => k_is)
    (case hno_Handler_text => k_is)
    (case hno_Handler_schema => k_is)
    (case hno_Handler__scope => k_is)
    (case hno_Handler__needs => k_is)
    (case hno_Handler__deed_lines => k_is)
    (case hno_Handler__deeds => k_is)
    (case he_Scope___init__ => refine' My.FE.of ?l ?c ?k; (case l => k_is); (case c => k_is); (case k => k_is))
    (case ht_Scope___init__ => k_is)
    (case hmk_Scope => k_is)
    (case hkC_Scope => k_is)
    (case hpg_Scope => k_is)
    (case hhd_Scope => k_is)
    (case hpo_Scope => k_is)
    (case hsa_Scope => k_is)
    (case hno_Scope_schema => k_is)
    (case hno_Scope__rows => k_is)
    (case hno_Scope__new_rows => k_is)
    (case hno_Scope__values => k_is)
    (case he_place_of => refine' My.FE.of ?l ?c ?k; (case l => k_is); (case c => k_is); (case k => k_is))
    (case he_has_form_forms => refine' My.FE.of ?l ?c ?k; (case l => k_is); (case c => k_is); (case k => k_is))
    (case he__fits => refine' My.FE.of ?l ?c ?k; (case l => k_is); (case c => k_is); (case k => k_is))
    (case he__is_term => refine' My.FE.of ?l ?c ?k; (case l => k_is); (case c => k_is); (case k => k_is))
    (case he_is_constant => refine' My.FE.of ?l ?c ?k; (case l => k_is); (case c => k_is); (case k => k_is))
    (case he_Handler__read_line => refine' My.FE.of ?l ?c ?k; (case l => k_is); (case c => k_is); (case k => k_is))
    (case ht_Handler__read_line => k_is)
    (case hcc_Handler_MOST_NEEDS => k_is)
    (case hcc_Handler_MOST_DEEDS => k_is)
    (case he_Scope_read_parameter => refine' My.FE.of ?l ?c ?k; (case l => k_is); (case c => k_is); (case k => k_is))
    (case ht_Scope_read_parameter => k_is)
    (case he_Scope_check_new => refine' My.FE.of ?l ?c ?k; (case l => k_is); (case c => k_is); (case k => k_is))
    (case ht_Scope_check_new => k_is)
    (case he_Scope_check_table => refine' My.FE.of ?l ?c ?k; (case l => k_is); (case c => k_is); (case k => k_is))
    (case ht_Scope_check_table => k_is)
    (case he_Schema_tables => refine' My.FE.of ?l ?c ?k; (case l => k_is); (case c => k_is); (case k => k_is))
    (case ht_Schema_tables => k_is)
    (case he_Scope_define_row => refine' My.FE.of ?l ?c ?k; (case l => k_is); (case c => k_is); (case k => k_is))
    (case ht_Scope_define_row => k_is)
    (case he_check_parameters => refine' My.FE.of ?l ?c ?k; (case l => k_is); (case c => k_is); (case k => k_is))
    (case hcc_Handler_MOST_ROWS => k_is)
    (case hcc_Handler_MOST_VALUES => k_is)
    (case he_Scope_row_parameters => refine' My.FE.of ?l ?c ?k; (case l => k_is); (case c => k_is); (case k => k_is))
    (case ht_Scope_row_parameters => k_is)
    (case he_Scope_value_parameters => refine' My.FE.of ?l ?c ?k; (case l => k_is); (case c => k_is); (case k => k_is))
    (case ht_Scope_value_parameters => k_is)
    (case he_Scope_read_equation => refine' My.FE.of ?l ?c ?k; (case l => k_is); (case c => k_is); (case k => k_is))
    (case ht_Scope_read_equation => k_is)
    (case he_Scope_check_term => refine' My.FE.of ?l ?c ?k; (case l => k_is); (case c => k_is); (case k => k_is))
    (case ht_Scope_check_term => k_is)
    (case he_Scope_table_of => refine' My.FE.of ?l ?c ?k; (case l => k_is); (case c => k_is); (case k => k_is))
    (case ht_Scope_table_of => k_is)
    (case he_read_deed => refine' My.FE.of ?l ?c ?k; (case l => k_is); (case c => k_is); (case k => k_is))
    (case he__read_new => refine' My.FE.of ?l ?c ?k; (case l => k_is); (case c => k_is); (case k => k_is))
    (case he_Scope_table_of_any => refine' My.FE.of ?l ?c ?k; (case l => k_is); (case c => k_is); (case k => k_is))
    (case ht_Scope_table_of_any => k_is)
    (case he__check_under => refine' My.FE.of ?l ?c ?k; (case l => k_is); (case c => k_is); (case k => k_is))
    (case he_Schema_parent_of => refine' My.FE.of ?l ?c ?k; (case l => k_is); (case c => k_is); (case k => k_is))
    (case ht_Schema_parent_of => k_is)
    (case he_Schema_columns => refine' My.FE.of ?l ?c ?k; (case l => k_is); (case c => k_is); (case k => k_is))
    (case ht_Schema_columns => k_is)
    (case he_Scope_define_new_row => refine' My.FE.of ?l ?c ?k; (case l => k_is); (case c => k_is); (case k => k_is))
    (case ht_Scope_define_new_row => k_is)
    (case he_Deed___init__ => refine' My.FE.of ?l ?c ?k; (case l => k_is); (case c => k_is); (case k => k_is))
    (case ht_Deed___init__ => k_is)
    (case hmk_Deed => k_is)
    (case hkC_Deed => k_is)
    (case hpg_Deed => k_is)
    (case hhd_Deed => k_is)
    (case hpo_Deed => k_is)
    (case hsa_Deed => k_is)
    (case hno_Deed_kind => k_is)
    (case hno_Deed_row => k_is)
    (case hno_Deed_table => k_is)
    (case hno_Deed_under => k_is)
    (case hno_Deed_column => k_is)
    (case hno_Deed_terms => k_is)
    (case he__read_move => refine' My.FE.of ?l ?c ?k; (case l => k_is); (case c => k_is); (case k => k_is))
    (case he__read_set => refine' My.FE.of ?l ?c ?k; (case l => k_is); (case c => k_is); (case k => k_is))
    (case he__read_each => refine' My.FE.of ?l ?c ?k; (case l => k_is); (case c => k_is); (case k => k_is))
    (case he__read_take => refine' My.FE.of ?l ?c ?k; (case l => k_is); (case c => k_is); (case k => k_is))
    (case he__law_lines_due => refine' My.FE.of ?l ?c ?k; (case l => k_is); (case c => k_is); (case k => k_is))
    (case he__law_get_right => refine' My.FE.of ?l ?c ?k; (case l => k_is); (case c => k_is); (case k => k_is))
    (case he_law => refine' My.FE.of ?l ?c ?k; (case l => k_is); (case c => k_is); (case k => k_is))

